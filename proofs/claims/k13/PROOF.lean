import PyProof.Rows.All
import Wide.All
import OpenK.AllK
import Wide.FinOn
import HandS.Base
import HandS.Call
import HandS.List
import HandS.Comp
import HandS.Ends
import HandS.Iter
import HandS.Words
import HandS.TryOnly
import HandS.Evl
import HandS.Lambda
import HandS.Nested
import HandS.WordsList
import HandS.ExcInit
import HandS.ExcIs
import HandS.IsInst
import HandS.ExcValue
import HandS.Defaults
import KE.KExcInit
import HandS.Exc
import KE.KTryMore
import HandS.Walk
import HandS.Zip
import HandS.Conv
import HandS.Rev
import HandS.TupMul
import HandS.TupAny
import PyProof.ReprRoads
import KE.GoesMore
import HandS.Style
import HandS.WideBits
import HandS.FltList
import PyProof.WalksMore
import PyProof.SumWalkG
import HandS.TupLe
import PyProof.WalkInts
import PyProof.MinMaxWalk
import PyProof.SeqI3
import PyProof.ReprLen
import KE.KIndexOf
import HandS.EndTab
import KE.KLam
import KE.DataMinKey
import PyProof.Rows.CallKwBuiltin
import KE.GoesZip
import KE.GoesEnum
import HandS.Star
import HandS.SortKw
import KE.DataMinMax
import ObjForm.LawKit
import HandS.Deep
import HandS.Dict
import HandS.SortInts
import HandS.CallSlots
import HandS.ExcOwn
import HandS.Sort
import PyProof.ListRange
import HandS.Text
import HandS.More
import PyProof.Rows.StrCase
import KE.KRevSl
import KE.KDictZip
import HandS.ListItems
import PyProof.ListNew
import PyProof.CollectWalk
import KE.KNestM
import PySem.Challenge.RW_forthback_k13_forgotten_or_not
set_option Elab.async false
set_option linter.all false
set_option maxRecDepth 100000
set_option maxHeartbeats 8000000
namespace PySem
namespace XvL
open Builtin Builtin.ObjectAttr
variable {P : Program} {w : World} {A : Around} {E : Value → Shared → Prop} {R : Result → Shared → Prop}
variable {m : Heap} {gn : Array GenState} {dr : Drawn} {tn : Nat} {sy : OsState}
variable {nm qn : Str} {C N : Addr} {bs bm bmB : List Value} {hdct : Bool} {sn : List Str} {sub : List Value} {ab : Bool} {col : Option Bool} {dd : Option Addr}
variable {k0 k1 k2 k3 k5 : Option Value} {B newId initId : String}
end XvL
end PySem
namespace Xv
open PySem PySem.Spec PyProof.Rows L2
structure XC (K : PySem.W.Frag) (C : Addr) (newId : String) (bmB : List Value) : Prop where
  cls : ∃ nm qn N bs sn sub ab col dd k0 k1 k2 k3 k5,
    K.lookup C = some (excClassObj nm qn C N bs bmB true sn sub ab col dd k0 k1 k2 k3 k5 newId)
  sa : PySem.W.findIn K (.ref C) "__setattr__" = some (some (.builtin "object.__setattr__"))
  kC : PySem.W.keepIn K (.ref C) = true
  is : ExcC K C
structure BF (B newId initId : String) (bmB : List Value) : Prop where
  ex : ExcBaseFacts B newId initId bmB
  st : StoreFacts B bmB "object.__setattr__" "object"
  ob : bmB.contains (.type "object") = true
  stub : Manifest.isStub B = false
  typ : typeOf (.type B) = pure (.type "type")
  hand : PySem.W.handedIn (.builtin initId) = true
end Xv
namespace Xv
open PySem PySem.Spec PyProof.Rows L2
section
variable {X : Cx} {pins : List (Addr × Obj)} {σ : L2.St} {H : Hp} {s : Shared} {a C dx : Addr} {f : Str} {y : V} {u : Value}
variable {newId initId B : String} {bmB : List Value} {A : Around} {E : Value → Shared → Prop}
theorem XC.data {K : PySem.W.Frag} (T : XC K C newId bmB) : ∃ cd : ClassData, PySem.W.clsIn K C = some cd ∧ cd.mro = .ref C :: bmB ∧ cd.hasDict = true := by
  obtain ⟨nm, qn, N, bs, sn, sub, ab, col, dd, k0, k1, k2, k3, k5, hC⟩ := T.cls
  refine ⟨_, by unfold PySem.W.clsIn; rw [hC] <;> rfl, rfl, rfl⟩
end
section
variable {X : Cx} {e o : Expr} {es : List Expr} {to te : TE} {ta : TA} {f B : Str} {p p' p1 p2 pos : Pos} {newId initId Bs : String} {bmB : List Value}
end
end Xv
namespace Xv
open PySem PySem.Spec PyProof.Rows L2
section
variable {X : Cx} {k : Nat} {C fI : Addr} {fd : FuncData} {ps : List Str} {sp : Sp} {x kn : Str} {p pos kpos : Pos} {e : Expr} {es : List Expr} {te : TE} {ta : TA}
variable {newId initId Bs : String} {bmB : List Value}
end
def ExAt (H : Hp) (a C : Addr) (fs : List (Str × V)) : Prop := (fs = [] ∧ H a = some (exo a C none)) ∨ ∃ dx, H a = some (exo a C (some dx)) ∧ H dx = some (exd dx fs)
theorem ExAt.mono {H H' : Hp} {a C : Addr} {fs : List (Str × V)} (h : ExAt H a C fs) (e : Evl.Ex H H') : ExAt H' a C fs := by
  rcases h with ⟨h1, h2⟩ | ⟨dx, h1, h2⟩
  · exact .inl ⟨h1, e _ _ h2⟩
  · exact .inr ⟨dx, e _ _ h1, e _ _ h2⟩
end Xv
namespace PySem.W
open PySem PySem.Spec PySem.Calls PyProof.Rows
section
variable {prog : Program} {w : World} {A : Around} {E : Value → Shared → Prop} {s : Shared} {K : Frag} {x D : Addr} {ox : Obj} {od : Option Obj}
end
end PySem.W
namespace Xv
open PySem PySem.Spec PyProof.Rows L2
section
variable {X : Cx}
end
end Xv
namespace Xg
open PySem PySem.Spec PyProof.Rows L2
theorem pe_or {X : Cx} {e : Expr} {t u : TE} (a : PE X e t) (b : PE X e u) : PE X e (fun σ H Q => t σ H Q ∨ u σ H Q) :=
  ⟨fun pins s σ H Q I h => h.elim (a.run pins s σ H Q I) (b.run pins s σ H Q I)⟩
theorem pg_or {X : Cx} {e : Expr} {t u : TG} (a : PG X e t) (b : PG X e u) : PG X e (fun v σ H Q => t v σ H Q ∨ u v σ H Q) :=
  ⟨fun pins s σ H v z Q I r h => h.elim (a.run pins s σ H v z Q I r) (b.run pins s σ H v z Q I r)⟩
theorem op_or {X : Cx} {f : Value → Value → Sem Value} {r1 r2 : R2} (a : OpR X f r1) (b : OpR X f r2) : OpR X f (fun x y H Q => r1 x y H Q ∨ r2 x y H Q) :=
  fun pins s σ H x y v u Q I rx ry h => h.elim (a pins s σ H x y v u Q I rx ry) (b pins s σ H x y v u Q I rx ry)
def KwOnly (K : PySem.W.Frag) (fd : FuncData) (ps ks : List Str) (g : {α : Type} → List α → List α) : Prop :=
  ∀ (s : Shared) (ws : List Value), K.In s.heap → ws.length = ks.length → BindsTo s fd ⟨[], ks.zip ws⟩ (ps.zip (g ws))
def tKw (n : Nat) (sp : Sp) (g : {α : Type} → List α → List α) (tk : TA) : TE := fun σ H Q => tk σ H fun zs H1 => zs.length = n ∧ sp (g zs) H1 Q E0
structure FnG (P : Program) (w : World) (K : PySem.W.Frag) (mg : Str → Option Value) (base : Heap) (k : Nat) (f : Addr) (fd : FuncData) (ps : List Str) (sp : Sp) : Prop where
  len : ∀ vs H Q, sp vs H Q E0 → vs.length = ps.length
  run : ∀ (A : Around) (outer : List Env) (s : Shared) (H : Hp) (args : Args) (us : List Value) (vs : List V) (Q : VK), A.guards = some [] → Room k A → Env0 P w K mg base A outer s H →
    BindsTo s fd args (ps.zip us) → Vals vs us → sp vs H Q E0 → codeAny (model P w) A (.call (.ref f) args) (CR CX0 outer P w H s Q E0) s
section
variable {P : Program} {w : World} {K : PySem.W.Frag} {mg : Str → Option Value} {base : Heap}
theorem okG {x qual : Str} {st : Stmt} {f : Addr} {fd : FuncData} {N ps : List Str} {k : Nat} {sp : Sp} (F : Fun K x qual st f fd) (S : FnScope N ps (defScope st)) (len : ∀ vs H Q, sp vs H Q E0 → vs.length = ps.length)
    (hbody : ∀ (cdv : Value) (A : Around) (outer : List Env) (s : Shared) (H : Hp) (vs : List V) (Q : VK), (A.deeper (envOfC qual (defScope st) s.heap.objs.size f cdv)).guards = some [] →
      Room k (A.deeper (envOfC qual (defScope st) s.heap.objs.size f cdv)) → sp vs H Q E0 →
      ∃ t, PSs (cxOf CX0 P w K mg base N qual (defScope st) f cdv A outer s H E0).nox (defBody st) t ∧ t { nx := fun _ H' => Q .non H', rt := Q } (L2.start N vs) H) :
    FnG P w K mg base (k + 1) f fd ps sp := by
  obtain ⟨oc, od, kV, doc, pm, an, cdv, ct, osl, rfl, lk, hcd⟩ := F.ex
  refine ⟨len, fun A outer s H args us vs Q hG hr e0 hb r hsp => ?_⟩
  have inH : K.In s.heap := e0.mod.kin.keeps fun c u z => (e0.bs c u z).1
  have noL : s.heap.NoLimit := e0.mod.nolimit.keeps fun c u z => (e0.bs c u z).1
  refine codeAny_call_function hr.depth (inH _ _ lk) rfl S.co S.gen rfl (PySem.W.codeRec_of inH hcd) (hb _ _ _ _ ?_)
  refine wpAny_newFunctionEnv_cells S.kind (fun ⟨n, v⟩ hy => ?_) fun env he s1 ic => ?_
  · rcases S.par n (List.of_mem_zip hy).1 with z | z
    · exact .inl z
    · exact .inr ⟨z, PySem.W.cellsFrom_some _ _ _ (.inl z)⟩
  subst he
  refine ⟨noL.keeps ic.toInCall.keep, codeAny_func ?_⟩
  obtain ⟨t, ht0, hq⟩ := hbody cdv A outer s H vs Q hG (hr.deeper _) hsp
  have ht := ht0.nox
  have J0 : Inv (cxOf CX0 P w K mg base N qual (defScope st) f cdv A outer s H E0) [] (L2.start N vs) H s1 := inv_start S hr.hd e0 (len _ _ _ hsp) r ic
  refine wpAny_mono (ht.run [] s1 (L2.start N vs) H _ J0 hq) (fun fl s' hs => ?_) fun e s' hs => hs
  cases fl with
  | ret u =>
    obtain ⟨v, σ', H', J, rv, q⟩ := hs
    exact ⟨v, H', J.os, J.bare, J.base, J.hok, rv, q⟩
  | next =>
    obtain ⟨σ', H', J, q⟩ := hs
    exact ⟨V.non, H', J.os, J.bare, J.base, J.hok, rfl, q⟩
  | brk =>
    obtain ⟨_, _, _, q⟩ := hs
    exact False.elim q
  | cont =>
    obtain ⟨_, _, _, q⟩ := hs
    exact False.elim q
def tCallG (sp : Sp) (t : TA) : TE := fun σ H Q => t σ H fun vs H1 => sp vs H1 Q E0
theorem pe_callG {X : Cx} {k : Nat} {f : Addr} {fd : FuncData} {ps : List Str} {sp : Sp} {x : Str} {p pos : Pos} {e : Expr} {es : List Expr} {t : TA} (F : FnG X.prog X.w X.K X.mg X.base k f fd ps sp) (hG : X.A.guards = some []) (hr : Room k X.A)
    (hg : Gl X x) (hm : X.mg x = some (.ref f)) (hk : PySem.W.keepIn X.K (.ref f) = true) (hb : L2.Binds X.K fd ps []) (ha : PA X (e :: es) t) (hdb : (x == ("__debug__" : Str)) = false := by decide)
    (he : starEach (e :: es) X.env = (false, eval e X.env) :: starEach es X.env := by rfl) (hpl : (backTo pos (starEach es X.env)).any (·.1) = false := by rfl) :
    PE X (.Call (.Name x p) (e :: es) [] pos) (tCallG sp t) := by
  refine ⟨fun pins s σ H Q I h => ?_⟩
  refine wpAny_Call_Name_kw (ld_glob I hg hm ?_ hdb)
  refine PySem.W.callWith_K (h₀ := X.base) I.ok.mod.kin hk (thn (ha.run pos pins s σ H _ I h) fun us s1 ⟨vs, H1, I1, r, q⟩ => ⟨I1.kIn, ?_⟩) he hpl
  have hb1 := hb s1 us I1.kIn (by rw [List.append_nil, ← r.length]; exact F.len _ _ _ q)
  rw [List.append_nil] at hb1
  refine wpAny_call (codeAny_mono (F.run X.A X.stack s1 H1 ⟨us, []⟩ us vs Q hG hr I1.env0 hb1 r q) fun res s' hq => ?_)
  cases res with
  | error er => exact hq.elim
  | ok fl =>
    cases fl with
    | ret u => exact I1.after hq
    | next => exact False.elim hq
    | brk => exact False.elim hq
    | cont => exact False.elim hq
end
theorem bt_repr : bootBuiltins "repr" = some (.builtin "repr") := by decide +kernel
end Xg
namespace Ex
open PySem PySem.Spec PyProof.Rows L2 Xv
def ca (K : PySem.W.Frag) (x : Str) : Addr := match PySem.W.nsIn K mainGlobals x with
  | some (some (.ref C)) => C
  | _ => 0
def exg (a : Addr) (cls : Value) (d : Option Addr) : HO := .ext fun h => ∃ (oe : Obj) (vs : Array Value), h.get? a = some oe ∧ Zc cls d oe ∧ oe.data = .fields vs
def ExAt (H : Hp) (a C : Addr) (fs : List (Str × V)) : Prop := (fs = [] ∧ H a = some (exg a (.ref C) none)) ∨ ∃ dx, H a = some (exg a (.ref C) (some dx)) ∧ H dx = some (.xd fs)
theorem ExAt.mono {H H' : Hp} {a C : Addr} {fs : List (Str × V)} (h : ExAt H a C fs) (e : Evl.Ex H H') : ExAt H' a C fs := by
  rcases h with ⟨h1, h2⟩ | ⟨dx, h1, h2⟩
  · exact .inl ⟨h1, e _ _ h2⟩
  · exact .inr ⟨dx, e _ _ h1, e _ _ h2⟩
section
variable {X : Cx} {pins : List (Addr × Obj)} {σ : L2.St} {H : Hp} {s : Shared}
end
section
variable {X : Cx} {n m : Str} {i j : Nat} {body : List Stmt} {ty : Expr} {mp np ap pos pos' : Pos} {tb : WX → TS} {ok : Value → Prop}
end
end Ex
namespace Dv
open PySem PySem.Spec PyProof.Rows L2
open Classical
abbrev LIM : Nat := 900000000
def isT : HO → Bool
  | .tbl _ => true
  | _ => false
theorem isT_ne {o : HO} (h : isT o = false) : ∀ ps, o ≠ .tbl ps := fun ps e => by
  subst e
  cases h
theorem ne_isT {o : HO} (h : ∀ ps, o ≠ .tbl ps) : isT o = false := by
  cases o <;> first | rfl | exact absurd rfl (h _)
noncomputable def rm (H : Hp) (S : Addr → Prop) : Hp := fun a => if S a ∨ ∃ ps, H a = some (.tbl ps) then none else H a
theorem rm_some {H : Hp} {S : Addr → Prop} {a : Addr} {o : HO} (h : rm H S a = some o) : ¬ S a ∧ H a = some o := by
  unfold rm at h
  split at h
  · cases h
  · rename_i n
    exact ⟨fun z => n (.inl z), h⟩
theorem rm_nt {H : Hp} {S : Addr → Prop} {a : Addr} {o : HO} (h : rm H S a = some o) : isT o = false := by
  unfold rm at h
  split at h
  · cases h
  · rename_i n
    refine ne_isT fun ps e => n (.inr ⟨ps, ?_⟩)
    rw [← e]
    exact h
theorem rm_in {H : Hp} {S : Addr → Prop} {a : Addr} {o : HO} (n : ¬ S a) (h : H a = some o) (t : isT o = false := by rfl) : rm H S a = some o := by
  unfold rm
  rw [if_neg fun z => z.elim n fun ⟨ps, e⟩ => isT_ne t ps (Option.some.inj (h.symm.trans e))]
  exact h
theorem rm_le {H : Hp} {S : Addr → Prop} : Evl.Ex (rm H S) H := fun a o h => (rm_some h).2
theorem rm_mono {H H' : Hp} {S : Addr → Prop} (e : ∀ a o, ¬ S a → isT o = false → H a = some o → H' a = some o) : Evl.Ex (rm H S) (rm H' S) := fun a o h => by
  obtain ⟨n, g⟩ := rm_some h
  exact rm_in n (e a o n (rm_nt h) g) (rm_nt h)
theorem rm_sub {H : Hp} {S T : Addr → Prop} (h : ∀ a, T a → S a) : Evl.Ex (rm H S) (rm H T) := fun a o g => by
  obtain ⟨n, g'⟩ := rm_some g
  exact rm_in (fun z => n (h a z)) g' (rm_nt g)
theorem rm_ex {H H' : Hp} {S : Addr → Prop} (e : Evl.Ex H H') : Evl.Ex (rm H S) (rm H' S) := rm_mono fun a o _ _ h => e a o h
mutual
inductive Da (K : PySem.W.Frag) (H : Hp) : V → PyData → Prop
  | non : Da K H .non .none
  | bl (b : Bool) : Da K H (.bl b) (.bool b)
  | int (i : Int) : Da K H (.int i) (.int i)
  | str (x : Str) : Da K H (.str x) (.str x)
  | lst {a : Addr} {xs : List V} {ds : List PyData} : H a = some (.lst xs) → DaL K H xs ds → Da K H (.ref a) (.list ds)
  | tup {a : Addr} {xs : List V} {ds : List PyData} : H a = some (.tup xs) → DaL K H xs ds → Da K H (.ref a) (.tuple ds)
inductive DaL (K : PySem.W.Frag) (H : Hp) : List V → List PyData → Prop
  | nil : DaL K H [] []
  | cons {v : V} {vs : List V} {d : PyData} {ds : List PyData} : Da K H v d → DaL K H vs ds → DaL K H (v :: vs) (d :: ds)
end
section
variable {K : PySem.W.Frag} {H H' : Hp} {S : Addr → Prop}
mutual
theorem Da.mono (e : Evl.Ex H H') : ∀ {v : V} {d : PyData}, Da K H v d → Da K H' v d
  | _, _, .non => .non
  | _, _, .bl b => .bl b
  | _, _, .int i => .int i
  | _, _, .str x => .str x
  | _, _, .lst h g => .lst (e _ _ h) (DaL.mono e g)
  | _, _, .tup h g => .tup (e _ _ h) (DaL.mono e g)
theorem DaL.mono (e : Evl.Ex H H') : ∀ {vs : List V} {ds : List PyData}, DaL K H vs ds → DaL K H' vs ds
  | _, _, .nil => .nil
  | _, _, .cons h g => .cons (Da.mono e h) (DaL.mono e g)
end
mutual
theorem Da.dp : ∀ {v : V} {d : PyData}, Da K H v d → Dp K H v d
  | _, _, .non => .non
  | _, _, .bl b => .bl b
  | _, _, .int i => .int i
  | _, _, .str x => .str x
  | _, _, .lst h g => .lst (.inl (.inl h)) (DaL.dp g)
  | _, _, .tup h g => .tup (.inl (.inl h)) (DaL.dp g)
theorem DaL.dp : ∀ {vs : List V} {ds : List PyData}, DaL K H vs ds → DpAll K H vs ds
  | _, _, .nil => .nil
  | _, _, .cons h g => .cons (Da.dp h) (DaL.dp g)
end
theorem DaL.len : ∀ {vs : List V} {ds : List PyData}, DaL K H vs ds → vs.length = ds.length
  | _, _, .nil => rfl
  | _, _, .cons _ g => by rw [List.length_cons, List.length_cons, DaL.len g]
theorem DaL.at_ : ∀ {vs : List V} {ds : List PyData} {i : Nat} {d : PyData}, DaL K H vs ds → ds[i]? = some d → ∃ v, vs[i]? = some v ∧ Da K H v d
  | _, _, _, _, .nil, e => by simp at e
  | _, _, 0, _, .cons h g, e => by
    simp at e
    subst e
    exact ⟨_, rfl, h⟩
  | _, _, i + 1, _, .cons h g, e => DaL.at_ (i := i) g (by simpa using e)
theorem DaL.at' : ∀ {vs : List V} {ds : List PyData} {i : Nat} {v : V}, DaL K H vs ds → vs[i]? = some v → ∃ d, ds[i]? = some d ∧ Da K H v d
  | _, _, _, _, .nil, e => by simp at e
  | _, _, 0, _, .cons h g, e => by
    simp at e
    subst e
    exact ⟨_, rfl, h⟩
  | _, _, i + 1, _, .cons h g, e => DaL.at' (i := i) g (by simpa using e)
theorem DaL.app : ∀ {vs ws : List V} {ds es : List PyData}, DaL K H vs ds → DaL K H ws es → DaL K H (vs ++ ws) (ds ++ es)
  | _, _, _, _, .nil, h => h
  | _, _, _, _, .cons h g, k => .cons h (DaL.app g k)
theorem DaL.of_at : ∀ {vs : List V} {ds : List PyData}, vs.length = ds.length → (∀ (i : Nat) (v : V) (d : PyData), vs[i]? = some v → ds[i]? = some d → Da K H v d) → DaL K H vs ds
  | [], [], _, _ => .nil
  | v :: vs, d :: ds, l, h => .cons (h 0 v d rfl rfl) (DaL.of_at (by simpa using l) fun i x y e g => h (i + 1) x y (by simpa using e) (by simpa using g))
  | [], _ :: _, l, _ => by simp at l
  | _ :: _, [], l, _ => by simp at l
theorem DaL.take {vs : List V} {ds : List PyData} (h : DaL K H vs ds) (n : Nat) : DaL K H (vs.take n) (ds.take n) :=
  .of_at (by rw [List.length_take, List.length_take, h.len]) fun i v d e g => by
    rw [List.getElem?_take] at e g
    split at e <;> rename_i z
    · rw [if_pos z] at g
      obtain ⟨d', k1, k2⟩ := h.at' e
      rw [g] at k1; cases k1
      exact k2
    · cases e
theorem DaL.drop {vs : List V} {ds : List PyData} (h : DaL K H vs ds) (n : Nat) : DaL K H (vs.drop n) (ds.drop n) :=
  .of_at (by rw [List.length_drop, List.length_drop, h.len]) fun i v d e g => by
    rw [List.getElem?_drop] at e g
    obtain ⟨d', k1, k2⟩ := h.at' e
    rw [g] at k1; cases k1
    exact k2
theorem DaL.rev {vs : List V} {ds : List PyData} (h : DaL K H vs ds) : DaL K H vs.reverse ds.reverse := by
  induction h using DaL.rec (motive_1 := fun _ _ _ => True) with
  | non => trivial
  | bl => trivial
  | int => trivial
  | str => trivial
  | lst => trivial
  | tup => trivial
  | nil => exact .nil
  | cons h g _ ih =>
    rw [List.reverse_cons, List.reverse_cons]
    exact ih.app (.cons h .nil)
theorem DaL.set_ {vs : List V} {ds : List PyData} {v : V} {d : PyData} (h : DaL K H vs ds) (j : Nat) (k : Da K H v d) : DaL K H (vs.set j v) (ds.set j d) :=
  .of_at (by rw [List.length_set, List.length_set, h.len]) fun i x y e g => by
    rw [List.getElem?_set] at e g
    by_cases z : j = i
    · rw [if_pos z] at e g
      split at e
      · rename_i l
        cases e
        rw [if_pos (by rw [← h.len]; exact l)] at g
        cases g
        exact k
      · cases e
    · rw [if_neg z] at e g
      obtain ⟨d', k1, k2⟩ := h.at' e
      rw [g] at k1; cases k1
      exact k2
theorem DaL.bools_inv : ∀ {bs : List Bool} {vs : List V}, DaL K H vs (bs.map PyData.bool) → vs = bs.map V.bl
  | [], _, .nil => rfl
  | n :: r, _, .cons h g => by
    cases h
    rw [DaL.bools_inv g]
    rfl
theorem DaL.atI {vs : List V} {ds : List PyData} {i : Int} {d : PyData} (h : DaL K H vs ds) (e : L2.atI ds i = some d) : ∃ v, L2.atI vs i = some v ∧ Da K H v d := by
  unfold L2.atI at e ⊢
  rw [h.len]
  cases z : ixN ds.length i with
  | none => rw [z] at e; cases e
  | some j =>
    rw [z] at e
    exact h.at_ e
end
def isTp : HO → Bool
  | .tup _ => true
  | _ => false
def Al (S : Addr → Prop) (H : Hp) : Prop := ∀ a, S a → ∃ o, H a = some o ∧ isTp o = false
theorem Al.no {S : Addr → Prop} {H : Hp} (h : Al S H) (a : Addr) (s : S a) (n : H a = none) : False := by
  obtain ⟨o, e, _⟩ := h a s
  rw [n] at e
  cases e
theorem Al.ex {S : Addr → Prop} {H H' : Hp} (h : Al S H) (e : Evl.Ex H H') : Al S H' := fun a s => let ⟨o, z, t⟩ := h a s; ⟨o, e a o z, t⟩
theorem Al.new {S : Addr → Prop} {H : Hp} {p : Addr} (h : Al S H) (n : H p = none) : ¬ S p := fun s => h.no p s n
section
variable {K : PySem.W.Frag} {H : Hp} {S : Addr → Prop} {p : Addr} {xs : List V} {ds : List PyData}
theorem new_tup (al : Al S H) (n : H p = none) (h : DaL K (rm H S) xs ds) : Da K (rm (upd H p (.tup xs)) S) (.ref p) (.tuple ds) := by
  exact .tup (rm_in (al.new n) upd_same) (h.mono (rm_ex (Evl.Ex.new n)))
theorem new_lst (al : Al S H) (n : H p = none) (h : DaL K (rm H S) xs ds) : Da K (rm (upd H p (.lst xs)) S) (.ref p) (.list ds) := by
  exact .lst (rm_in (al.new n) upd_same) (h.mono (rm_ex (Evl.Ex.new n)))
end
inductive Vw (K : PySem.W.Frag) (b : Option Addr) (S : Addr → Prop) (H : Hp) : V → PyData → Prop
  | st {v : V} {d : PyData} : Da K (rm H S) v d → Vw K b S H v d
  | ow {p : Addr} {vs : List V} {ds : List PyData} : b ≠ some p → H p = some (.lst vs) → DaL K (rm H S) vs ds → Vw K b S H (.ref p) (.list ds)
section
variable {K : PySem.W.Frag} {b : Option Addr} {H H' : Hp} {S : Addr → Prop} {v : V} {d : PyData} {ds : List PyData}
theorem Vw.dp (h : Vw K b S H v d) : Dp K H v d := by
  cases h with
  | st h => exact (h.mono rm_le).dp
  | ow _ h g => exact .lst (.inl (.inl h)) (g.mono rm_le).dp
theorem Vw.list (h : Vw K b S H v (.list ds)) : ∃ p vs, v = .ref p ∧ H p = some (.lst vs) ∧ DaL K (rm H S) vs ds := by
  cases h with
  | st h =>
    cases h with
    | lst h g => exact ⟨_, _, rfl, rm_le _ _ h, g⟩
  | ow _ h g => exact ⟨_, _, rfl, h, g⟩
theorem Vw.tuple (h : Vw K b S H v (.tuple ds)) : ∃ p vs, v = .ref p ∧ SqT K H p vs ∧ DaL K (rm H S) vs ds := by
  cases h with
  | st h =>
    cases h with
    | tup h g => exact ⟨_, _, rfl, .inl (.inl (rm_le _ _ h)), g⟩
theorem Vw.int {i : Int} (h : Vw K b S H v (.int i)) : v = .int i := by
  cases h with
  | st h => cases h; rfl
theorem Vw.bool {k : Bool} (h : Vw K b S H v (.bool k)) : v = .bl k := by
  cases h with
  | st h => cases h; rfl
theorem Vw.str {x : Str} (h : Vw K b S H v (.str x)) : v = .str x := by
  cases h with
  | st h => cases h; rfl
theorem Vw.none (h : Vw K b S H v .none) : v = .non := by
  cases h with
  | st h => cases h; rfl
end
def flat : PyData → Bool
  | .none => true
  | .bool _ => true
  | .int _ => true
  | .str _ => true
  | _ => false
theorem Da.flat {K : PySem.W.Frag} {H H' : Hp} {v : V} {d : PyData} (h : Da K H v d) (f : Dv.flat d = true) : Da K H' v d := by
  cases h with
  | non => exact .non
  | bl b => exact .bl b
  | int i => exact .int i
  | str x => exact .str x
  | lst _ _ => cases f
  | tup _ _ => cases f
def VD (md : Bool) (K : PySem.W.Frag) (b : Option Addr) (S : Addr → Prop) (H : Hp) (v : V) (d : PyData) : Prop := match md with
  | true => Da K (rm H S) v d
  | false => Vw K b S H v d
theorem VD.vw {md : Bool} {K : PySem.W.Frag} {b : Option Addr} {S : Addr → Prop} {H : Hp} {v : V} {d : PyData} (h : VD md K b S H v d) : Vw K b S H v d := by
  cases md with
  | true => exact .st h
  | false => exact h
def BxO : Option Addr → Hp → Nat → Prop
  | none, _, _ => True
  | some b, H, m => ∃ x y z : Int, 0 ≤ x ∧ 0 ≤ y ∧ y < 1000000000000 ∧ 0 ≤ z ∧ z ≤ m ∧ H b = some (.lst [.int x, .int y, .int z])
def lamDefs : List Str := ["when", "rests_when", "slowest"]
def lamQ (x : Str) : Str := x ++ ".<locals>." ++ "<lambda>"
def Tof (K : PySem.W.Frag) : List (Addr × Str) := lamDefs.filterMap fun x => (PySem.W.tabIn K x).map fun p => (p.2, lamQ x)
abbrev Tbs (K : PySem.W.Frag) (H : Hp) : Prop := LamX.Tabs (Tof K) H
def HoLe (K : PySem.W.Frag) (H H' : Hp) (c : Addr) (o : HO) : Prop := match o with
  | .tbl _ => (∃ qs, H' c = some (.tbl qs)) ∧ ∀ q, (c, q) ∈ Tof K → LamX.TabS H c q → LamX.TabS H' c q
  | o => H' c = some o
theorem HoLe.eq {K : PySem.W.Frag} {H H' : Hp} {c : Addr} {o : HO} (h : HoLe K H H' c o) (t : isT o = false) : H' c = some o := by
  cases o <;> first | exact h | cases t
theorem HoLe.of {K : PySem.W.Frag} {H H' : Hp} {c : Addr} {o : HO} (e : Evl.Ex H H') (h : H c = some o) : HoLe K H H' c o := by
  cases o with
  | tbl ps => exact ⟨⟨ps, e _ _ h⟩, fun q _ t => t.ext e⟩
  | _ => exact e _ _ h
theorem HoLe.nt {K : PySem.W.Frag} {H H' : Hp} {c : Addr} {o : HO} (t : isT o = false) (h : H' c = some o) : HoLe K H H' c o := by
  cases o <;> first | exact h | cases t
theorem HoLe.ne {K : PySem.W.Frag} {H H' : Hp} {c : Addr} {o : HO} (h : HoLe K H H' c o) : H' c ≠ none := by
  cases o with
  | tbl ps =>
    obtain ⟨⟨qs, e⟩, _⟩ := h
    rw [e]
    simp
  | _ =>
    rw [show H' c = _ from h]
    simp
theorem HoLe.trans {K : PySem.W.Frag} {H H1 H2 : Hp} {c : Addr} {o : HO} (h : HoLe K H H1 c o) (g : ∀ o, H1 c = some o → HoLe K H1 H2 c o) : HoLe K H H2 c o := by
  cases o with
  | tbl ps =>
    obtain ⟨⟨qs, e⟩, f⟩ := h
    obtain ⟨e2, f2⟩ := g _ e
    exact ⟨e2, fun q m t => f2 q m (f q m t)⟩
  | _ => exact (g _ h)
theorem tabS_chg {H : Hp} {p c : Addr} {q : Str} {o : HO} (h : LamX.TabS H c q) (n : ∀ ps, H p ≠ some (.tbl ps)) (n2 : ∀ q, H p ≠ some (LamX.CodeO p q)) : LamX.TabS (upd H p o) c q := by
  obtain ⟨ps, e, r1, r2⟩ := h
  refine ⟨ps, by rw [upd_ne fun z => n ps (by rw [← z]; exact e)]; exact e, r1, fun pos cv hc => ?_⟩
  obtain ⟨c, e1, e2⟩ := r2 pos cv hc
  exact ⟨c, e1, by rw [upd_ne fun z => n2 _ (by rw [z] at e2; exact e2)]; exact e2⟩
theorem HoLe.chg {K : PySem.W.Frag} {H : Hp} {c p : Addr} {u o : HO} (ne : c ≠ p) (h : H c = some u) (n : ∀ ps, H p ≠ some (.tbl ps)) (n2 : ∀ q, H p ≠ some (LamX.CodeO p q)) : HoLe K H (upd H p o) c u := by
  cases u with
  | tbl ps => exact ⟨⟨ps, by rw [upd_ne ne]; exact h⟩, fun q _ t => tabS_chg t n n2⟩
  | _ =>
    show upd H p o c = _
    rw [upd_ne ne]
    exact h
theorem HoLe.lst {K : PySem.W.Frag} {H : Hp} {c p : Addr} {u o : HO} {xs : List V} (ne : c ≠ p) (h : H c = some u) (e : H p = some (.lst xs)) : HoLe K H (upd H p o) c u := .chg ne h (fun ps z => by rw [e] at z; cases z) fun q z => by rw [e] at z; unfold LamX.CodeO at z; cases z
theorem HoLe.ins {K : PySem.W.Frag} {H : Hp} {c p C dx : Addr} {u o : HO} {xs : List (Str × V)} (ne : c ≠ p) (h : H c = some u) (e : H p = some (.ins C dx xs)) : HoLe K H (upd H p o) c u := .chg ne h (fun ps z => by rw [e] at z; cases z) fun q z => by rw [e] at z; unfold LamX.CodeO at z; cases z
def Stp (K : PySem.W.Frag) (b : Option Addr) (H H' : Hp) : Prop := ∀ c o, b ≠ some c → H c = some o → HoLe K H H' c o
section
variable {K : PySem.W.Frag} {b : Option Addr} {S : Addr → Prop} {H H1 H2 H' : Hp} {m n : Nat} {v : V} {d : PyData} {md : Bool}
theorem Stp.refl : Stp K b H H := fun _ _ _ h => HoLe.of (Evl.Ex.refl _) h
theorem Stp.trans (h : Stp K b H H1) (g : Stp K b H1 H2) : Stp K b H H2 := fun c o n e => (h c o n e).trans fun o' e' => g c o' n e'
theorem Stp.ex (e : Evl.Ex H H') : Stp K b H H' := fun c o _ h => HoLe.of e h
theorem BxO.ex (h : BxO b H m) (e : Evl.Ex H H') : BxO b H' m := by
  cases b with
  | none => trivial
  | some b =>
    obtain ⟨x, y, z, h1, h2, h3, h4, h5, h6⟩ := h
    exact ⟨x, y, z, h1, h2, h3, h4, h5, e _ _ h6⟩
theorem BxO.le (h : BxO b H m) (l : m ≤ n) : BxO b H n := by
  cases b with
  | none => trivial
  | some b =>
    obtain ⟨x, y, z, h1, h2, h3, h4, h5, h6⟩ := h
    exact ⟨x, y, z, h1, h2, h3, h4, by omega, h6⟩
theorem Stp.rm (h : Stp K b H H') (bs : ∀ p, b = some p → S p) : Evl.Ex (rm H S) (rm H' S) := rm_mono fun a o n t g => (h a o (fun e => n (bs a e)) g).eq t
theorem Vw.step (h : Vw K b S H v d) (st : Stp K b H H') (bs : ∀ p, b = some p → S p) : Vw K b S H' v d := by
  cases h with
  | st h => exact .st (h.mono (st.rm bs))
  | ow n h g => exact .ow n (st _ _ n h) (g.mono (st.rm bs))
theorem VD.step (h : VD md K b S H v d) (st : Stp K b H H') (bs : ∀ p, b = some p → S p) : VD md K b S H' v d := by
  cases md with
  | true => exact Da.mono (st.rm bs) h
  | false => exact Vw.step h st bs
end
structure TbF (K : PySem.W.Frag) (C : Addr) : Prop where
  at_ : PySem.W.nsIn K mainGlobals "Table" = some (some (.ref C))
  cl : L2.Cls K C
  n1 : L2.NoAttr K C "made_of"
  n2 : L2.NoAttr K C "many"
  n3 : L2.NoAttr K C "grid"
def TbO (K : PySem.W.Frag) (H : Hp) (v : V) (g : PyData) : Prop := ∃ (p C dx : Addr) (vM vG : V) (dM : PyData) (n : Int) (dG : PyData), v = .ref p ∧ TbF K C ∧ H p = some (.ins C dx [("made_of", vM), ("many", .int n), ("grid", vG)]) ∧ Da K H vM dM ∧ Da K H vG dG ∧ g = .tuple [dM, .int n, dG]
theorem TbO.mono {K : PySem.W.Frag} {H H' : Hp} {v : V} {g : PyData} (e : Evl.Ex H H') (h : TbO K H v g) : TbO K H' v g := by
  obtain ⟨p, C, dx, vM, vG, dM, n, dG, e1, f, e2, d1, d2, e3⟩ := h
  exact ⟨p, C, dx, vM, vG, dM, n, dG, e1, f, e p _ e2, Da.mono e d1, Da.mono e d2, e3⟩
def LfO (f : Addr) (F : NdefX.NF) (body : Expr) : HO := .ext fun h => ∃ (od : Option Addr) (sl : Array (Option Value)) (pm ctv : Value), h.get? f = some (⟨.type "function", od, .func (PySem.W.kla_fn "<lambda>" F.qual F.params body F.scope F.cl pm (.ref F.c) ctv), sl⟩ : Obj)
def CelO (o : Obj) : HO := .frz o (.ext fun _ => True)
abbrev par1 (x : Str) (p : Pos) : Arguments := { posonlyargs := [], args := [{ arg := x, annotation := none, pos := p }], vararg := none, kwonlyargs := [], kw_defaults := [], kwarg := none, defaults := [] }
def lamFr : Nat → List Str
  | 0 => ["gate", "many"]
  | 1 => ["last"]
  | _ => ["parts"]
def lamPar : Nat → Str
  | 2 => "one"
  | _ => "told"
def lamN (k : Nat) : List Str := lamPar k :: lamFr k
inductive LamB : Nat → Expr → Prop
  | when (a b c d e : Pos) : LamB 0 (.Compare (.Subscript (.Name "told" a) (.Name "gate" b) c) [.GtE] [.Name "many" d] e)
  | rests (a b c : Pos) : LamB 1 (.Compare (.Name "told" a) [.Eq] [.Name "last" b] c)
  | slow (j1 j2 j3 : Nat) (a b c d e f g h i j k l m : Pos) : LamB 2 (.BinOp (.Subscript (.Name "one" a) (.Constant (.int 0) j1 b) c) .Mult (.BinOp (.Name "parts" d) .FloorDiv (.BinOp (.Call (.Name "len" e) [.Subscript (.Name "one" f) (.Constant (.int 1) j2 g) h] [] i) .Sub (.Constant (.int 1) j3 j) k) l) m)
structure LamTxt (k : Nat) (F : NdefX.NF) (body : Expr) : Prop where
  par : ∃ p, F.params = par1 (lamPar k) p
  body : LamB k body
  sc : NdefX.NScope (lamN k) [lamPar k] (lamFr k) F.scope
  gl : k = 2 → F.scope.names.lookup ("len" : Str) = some NameKind.globalImplicit
inductive Cap (H : Hp) (cl : List (Str × Addr)) : List Str → List Addr → List V → Prop
  | nil : Cap H cl [] [] []
  | cons {y : Str} {c : Addr} {o : Obj} {u : Value} {v : V} {fr : List Str} {cs : List Addr} {vs : List V} : cl.lookup y = some c → H c = some (CelO o) → o.data = .cell (some u) → L2.RelV v u → c ∉ cs → Cap H cl fr cs vs → Cap H cl (y :: fr) (c :: cs) (v :: vs)
theorem Cap.mono {H H' : Hp} {cl : List (Str × Addr)} (e : Evl.Ex H H') : ∀ {fr : List Str} {cs : List Addr} {vs : List V}, Cap H cl fr cs vs → Cap H' cl fr cs vs
  | _, _, _, .nil => .nil
  | _, _, _, .cons a b c d n r => .cons a (e _ _ b) c d n (Cap.mono e r)
def LamV (K : PySem.W.Frag) (H : Hp) (v : V) (k : Nat) (ds : List PyData) : Prop := ∃ (f : Addr) (F : NdefX.NF) (body : Expr) (cs : List Addr) (vs : List V), v = .ref f ∧ LamTxt k F body ∧ H f = some (LfO f F body) ∧ H F.c = some (LamX.CodeO F.c F.qual) ∧
  Cap H F.cl (lamFr k) cs vs ∧ (∀ y c, F.cl.lookup y = some c → y ∈ lamFr k) ∧ DaL K H vs ds
theorem LamV.mono {K : PySem.W.Frag} {H H' : Hp} {v : V} {k : Nat} {ds : List PyData} (e : Evl.Ex H H') (h : LamV K H v k ds) : LamV K H' v k ds := by
  obtain ⟨f, F, body, cs, vs, e1, t, e2, e3, c, cc, d⟩ := h
  exact ⟨f, F, body, cs, vs, e1, t, e _ _ e2, e _ _ e3, c.mono e, cc, DaL.mono e d⟩
def ExV (K : PySem.W.Frag) (H : Hp) (v : V) (x : Str) (d : Option (Str × PyData)) : Prop := ∃ (a : Addr) (fs : List (Str × V)), v = .ref a ∧ ExcC K (Ex.ca K x) ∧ Ex.ExAt H a (Ex.ca K x) fs ∧ match d with
  | none => fs = []
  | some p => ∃ w, fs = [(p.1, w)] ∧ Da K H w p.2
theorem ExV.mono {K : PySem.W.Frag} {H H' : Hp} {v : V} {x : Str} {d : Option (Str × PyData)} (e : Evl.Ex H H') (h : ExV K H v x d) : ExV K H' v x d := by
  obtain ⟨a, fs, e1, c, g, r⟩ := h
  refine ⟨a, fs, e1, c, g.mono e, ?_⟩
  cases d with
  | none => exact r
  | some p =>
    obtain ⟨w, r1, r2⟩ := r
    exact ⟨w, r1, Da.mono e r2⟩
inductive DaK (K : PySem.W.Frag) (H : Hp) : List (List L2.Key × V) → List (List L2.Key × PyData) → Prop
  | nil : DaK K H [] []
  | cons {k : List L2.Key} {v : V} {d : PyData} {ws : List (List L2.Key × V)} {kvs : List (List L2.Key × PyData)} : Da K H v d → DaK K H ws kvs → DaK K H ((k, v) :: ws) ((k, d) :: kvs)
theorem DaK.mono {K : PySem.W.Frag} {H H' : Hp} (e : Evl.Ex H H') : ∀ {ws : List (List L2.Key × V)} {kvs : List (List L2.Key × PyData)}, DaK K H ws kvs → DaK K H' ws kvs
  | _, _, .nil => .nil
  | _, _, .cons h g => .cons (Da.mono e h) (DaK.mono e g)
def DcO (K : PySem.W.Frag) (H : Hp) (v : V) (kvs : List (List L2.Key × PyData)) : Prop := ∃ (p : Addr) (ws : List (List L2.Key × V)), v = .ref p ∧ H p = some (.dT ws) ∧ DaK K H ws kvs
theorem DcO.mono {K : PySem.W.Frag} {H H' : Hp} {v : V} {kvs : List (List L2.Key × PyData)} (e : Evl.Ex H H') (h : DcO K H v kvs) : DcO K H' v kvs := let ⟨p, ws, e1, e2, g⟩ := h; ⟨p, ws, e1, e _ _ e2, g.mono e⟩
def FtO (K : PySem.W.Frag) (H : Hp) (v : V) (ds : List PyData) : Prop := ∃ (p : Addr) (o : Obj) (vs : List V), v = .ref p ∧ H p = some (.frz o (.tup vs)) ∧ o.cls = .type "tuple" ∧ o.dict = none ∧ DaL K H vs ds
theorem FtO.mono {K : PySem.W.Frag} {H H' : Hp} {v : V} {ds : List PyData} (e : Evl.Ex H H') (h : FtO K H v ds) : FtO K H' v ds := let ⟨p, o, vs, e1, e2, e3, e4, g⟩ := h; ⟨p, o, vs, e1, e _ _ e2, e3, e4, DaL.mono e g⟩
inductive Sl where
  | no
  | dt (d : PyData)
  | own (ds : List PyData)
  | box
  | scr (ns : List Int)
  | op (g : PyData)
  | fn (k : Nat) (ds : List PyData)
  | exc (c : Str) (d : Option (Str × PyData))
  | dct (kvs : List (List L2.Key × PyData))
  | dck (kvs : List (List L2.Key × PyData))
  | frt (ds : List PyData)
def isOw : Sl → Bool
  | .own _ => true
  | .dct _ => true
  | _ => false
def SlR (K : PySem.W.Frag) (b : Option Addr) (S : Addr → Prop) (H : Hp) (x : Option (Option V)) : Sl → Prop
  | .no => True
  | .dt d => ∃ v, x = some (some v) ∧ Da K (rm H S) v d
  | .own ds => ∃ p vs, x = some (some (.ref p)) ∧ S p ∧ b ≠ some p ∧ H p = some (.lst vs) ∧ DaL K (rm H S) vs ds
  | .box => ∃ p, x = some (some (.ref p)) ∧ b = some p
  | .scr ns => ∃ p, x = some (some (.ref p)) ∧ SqL K (rm H S) p (ns.map V.int)
  | .op g => ∃ v, x = some (some v) ∧ TbO K (rm H S) v g
  | .fn k ds => ∃ v, x = some (some v) ∧ LamV K (rm H S) v k ds
  | .exc c d => ∃ v, x = some (some v) ∧ ExV K (rm H S) v c d
  | .dct kvs => ∃ p ws, x = some (some (.ref p)) ∧ S p ∧ b ≠ some p ∧ H p = some (.dT ws) ∧ DaK K (rm H S) ws kvs
  | .dck kvs => ∃ v, x = some (some v) ∧ DcO K (rm H S) v kvs
  | .frt ds => ∃ v, x = some (some v) ∧ FtO K (rm H S) v ds
structure DEnv (K : PySem.W.Frag) (b : Option Addr) (S : Addr → Prop) (m : Nat) (H : Hp) (σ : L2.St) (ρ : List Sl) : Prop where
  len : σ.length = ρ.length
  sl : ∀ (i : Nat) (s : Sl), ρ[i]? = some s → SlR K b S H σ[i]? s
  bx : BxO b H m
  bs : ∀ p, b = some p → S p
  al : Al S H
  tb : Tbs K H
section
variable {K : PySem.W.Frag} {b : Option Addr} {S : Addr → Prop} {H H' : Hp} {m n : Nat} {σ : L2.St} {ρ : List Sl}
theorem SlR.step {x : Option (Option V)} {s : Sl} (h : SlR K b S H x s) (st : Stp K b H H') (bs : ∀ p, b = some p → S p) : SlR K b S H' x s := by
  cases s with
  | no => trivial
  | dt d =>
    obtain ⟨v, e, g⟩ := h
    exact ⟨v, e, g.mono (st.rm bs)⟩
  | own ds =>
    obtain ⟨p, vs, e, s1, n, g, k⟩ := h
    exact ⟨p, vs, e, s1, n, st _ _ n g, k.mono (st.rm bs)⟩
  | box => exact h
  | scr ns =>
    obtain ⟨p, e, g⟩ := h
    exact ⟨p, e, Evl.ex_l (st.rm bs) g⟩
  | op g =>
    obtain ⟨v, e, g⟩ := h
    exact ⟨v, e, g.mono (st.rm bs)⟩
  | fn k ds =>
    obtain ⟨v, e, g⟩ := h
    exact ⟨v, e, g.mono (st.rm bs)⟩
  | exc c d =>
    obtain ⟨v, e, g⟩ := h
    exact ⟨v, e, g.mono (st.rm bs)⟩
  | dct kvs =>
    obtain ⟨p, ws, e, s1, n, g, k⟩ := h
    exact ⟨p, ws, e, s1, n, st _ _ n g, k.mono (st.rm bs)⟩
  | dck kvs =>
    obtain ⟨v, e, g⟩ := h
    exact ⟨v, e, g.mono (st.rm bs)⟩
  | frt ds =>
    obtain ⟨v, e, g⟩ := h
    exact ⟨v, e, g.mono (st.rm bs)⟩
theorem Al.step (h : Al S H) (st : Stp K b H H') (bx : BxO b H' n) : Al S H' := fun a s => by
  by_cases z : b = some a
  · subst z
    obtain ⟨_, _, _, _, _, _, _, _, e⟩ := bx
    exact ⟨_, e, rfl⟩
  · obtain ⟨o, q, t⟩ := h a s
    have g := st a o z q
    cases y : isT o with
    | false => exact ⟨o, g.eq y, t⟩
    | true =>
      cases o with
      | tbl ps =>
        obtain ⟨⟨qs, e⟩, _⟩ := g
        exact ⟨_, e, rfl⟩
      | _ => cases y
theorem Tbs.step (h : Tbs K H) (bx : BxO b H m) (st : Stp K b H H') : Tbs K H' := fun p hp => by
  obtain ⟨ps, e, r⟩ := h p hp
  refine (st p.1 _ (fun z => ?_) e).2 p.2 hp ⟨ps, e, r⟩
  subst z
  obtain ⟨_, _, _, _, _, _, _, _, e2⟩ := bx
  rw [e] at e2
  cases e2
theorem Tbs.chg {p : Addr} {o : HO} (h : Tbs K H) (n : ∀ ps, H p ≠ some (.tbl ps)) (n2 : ∀ q, H p ≠ some (LamX.CodeO p q)) : Tbs K (upd H p o) := fun t ht => tabS_chg (h t ht) n n2
theorem Tbs.lst {p : Addr} {o : HO} {xs : List V} (h : Tbs K H) (e : H p = some (.lst xs)) : Tbs K (upd H p o) := h.chg (fun ps z => by rw [e] at z; cases z) fun q z => by rw [e] at z; unfold LamX.CodeO at z; cases z
theorem Tbs.ins {p C dx : Addr} {o : HO} {xs : List (Str × V)} (h : Tbs K H) (e : H p = some (.ins C dx xs)) : Tbs K (upd H p o) := h.chg (fun ps z => by rw [e] at z; cases z) fun q z => by rw [e] at z; unfold LamX.CodeO at z; cases z
theorem Tbs.ex (h : Tbs K H) (e : Evl.Ex H H') : Tbs K H' := LamX.Tabs.ext h e
theorem DEnv.both (h : DEnv K b S m H σ ρ) : Al S H ∧ Tbs K H := ⟨h.al, h.tb⟩
theorem DEnv.step (h : DEnv K b S m H σ ρ) (st : Stp K b H H') (bx : BxO b H' n) : DEnv K b S n H' σ ρ :=
  ⟨h.len, fun i s e => (h.sl i s e).step st h.bs, bx, h.bs, h.al.step st bx, h.tb.step h.bx st⟩
theorem DEnv.le (h : DEnv K b S m H σ ρ) (l : m ≤ n) : DEnv K b S n H σ ρ := ⟨h.len, h.sl, h.bx.le l, h.bs, h.al, h.tb⟩
end
abbrev FE := List Sl → (PyData → Prop) → Prop
structure Snd (md : Bool) (K : PySem.W.Frag) (t : TE) (c : Nat) (f : FE) : Prop where
  mono : ∀ (ρ : List Sl) (P P' : PyData → Prop), (∀ d, P d → P' d) → f ρ P → f ρ P'
  run : ∀ (b : Option Addr) (S : Addr → Prop) (m : Nat) (σ : L2.St) (H : Hp) (ρ : List Sl) (Q : VK), DEnv K b S m H σ ρ → m + c ≤ LIM →
    f ρ (fun d => ∀ v H', Stp K b H H' → BxO b H' (m + c) → VD md K b S H' v d → Q v H') → t σ H Q
theorem Snd.go {md : Bool} {K : PySem.W.Frag} {t : TE} {c : Nat} {f : FE} (a : Snd md K t c f) {b : Option Addr} {S : Addr → Prop} {m : Nat} {σ : L2.St} {H : Hp} {ρ : List Sl} {Q : VK} {P : PyData → Prop} (E : DEnv K b S m H σ ρ) (hm : m + c ≤ LIM) (hf : f ρ P)
    (k : ∀ d v H', P d → Stp K b H H' → BxO b H' (m + c) → VD md K b S H' v d → Q v H') : t σ H Q :=
  a.run b S m σ H ρ Q E hm (a.mono ρ _ _ (fun d p v H' s x y => k d v H' p s x y) hf)
theorem Snd.v {md : Bool} {K : PySem.W.Frag} {t : TE} {c : Nat} {f : FE} (a : Snd md K t c f) : Snd false K t c f :=
  ⟨a.mono, fun b S m σ H ρ Q E hm hf => a.go E hm hf fun d v H' p st bx vd => p v H' st bx vd.vw⟩
end Dv
namespace Dv
open PySem PySem.Spec PyProof.Rows L2
open Classical
abbrev FT := List Sl → (Bool → Prop) → Prop
abbrev FD := List Sl → (List PyData → Prop) → Prop
abbrev FA := List Sl → (List Sl → Prop) → Prop
structure SndT (K : PySem.W.Frag) (t : TT) (c : Nat) (f : FT) : Prop where
  mono : ∀ (ρ : List Sl) (P P' : Bool → Prop), (∀ d, P d → P' d) → f ρ P → f ρ P'
  go : ∀ {b : Option Addr} {S : Addr → Prop} {m : Nat} {σ : L2.St} {H : Hp} {ρ : List Sl} {Q : Bool → Hp → Prop} {P : Bool → Prop}, DEnv K b S m H σ ρ → m + c ≤ LIM → f ρ P →
    (∀ k H', P k → Stp K b H H' → BxO b H' (m + c) → Q k H') → t σ H Q
inductive VwL (md : Bool) (K : PySem.W.Frag) (b : Option Addr) (S : Addr → Prop) (H : Hp) : List V → List PyData → Prop
  | nil : VwL md K b S H [] []
  | cons {v : V} {vs : List V} {d : PyData} {ds : List PyData} : VD md K b S H v d → VwL md K b S H vs ds → VwL md K b S H (v :: vs) (d :: ds)
theorem VwL.dal {K : PySem.W.Frag} {b : Option Addr} {S : Addr → Prop} {H : Hp} : ∀ {vs : List V} {ds : List PyData}, VwL true K b S H vs ds → DaL K (rm H S) vs ds
  | _, _, .nil => .nil
  | _, _, .cons h g => .cons h (VwL.dal g)
structure SndD (md : Bool) (K : PySem.W.Frag) (t : TA) (n : Nat) (c : Nat) (f : FD) : Prop where
  mono : ∀ (ρ : List Sl) (P P' : List PyData → Prop), (∀ d, P d → P' d) → f ρ P → f ρ P'
  go : ∀ {b : Option Addr} {S : Addr → Prop} {m : Nat} {σ : L2.St} {H : Hp} {ρ : List Sl} {Q : List V → Hp → Prop} {P : List PyData → Prop}, DEnv K b S m H σ ρ → m + c ≤ LIM → f ρ P →
    (∀ ds vs H', P ds → vs.length = n → Stp K b H H' → BxO b H' (m + c) → VwL md K b S H' vs ds → Q vs H') → t σ H Q
def ArgR (K : PySem.W.Frag) (b : Option Addr) (S : Addr → Prop) (H : Hp) (v : V) : Sl → Prop
  | .dt d => Da K (rm H S) v d
  | .box => ∃ p, v = .ref p ∧ b = some p
  | .scr ns => ∃ p, v = .ref p ∧ SqL K (rm H S) p (ns.map V.int)
  | .op g => TbO K (rm H S) v g
  | .fn k ds => LamV K (rm H S) v k ds
  | .dck kvs => DcO K (rm H S) v kvs
  | _ => False
inductive ArgL (K : PySem.W.Frag) (b : Option Addr) (S : Addr → Prop) (H : Hp) : List V → List Sl → Prop
  | nil : ArgL K b S H [] []
  | cons {v : V} {vs : List V} {s : Sl} {as : List Sl} : ArgR K b S H v s → ArgL K b S H vs as → ArgL K b S H (v :: vs) (s :: as)
structure SndA (K : PySem.W.Frag) (t : TA) (c : Nat) (f : FA) : Prop where
  mono : ∀ (ρ : List Sl) (P P' : List Sl → Prop), (∀ d, P d → P' d) → f ρ P → f ρ P'
  go : ∀ {b : Option Addr} {S : Addr → Prop} {m : Nat} {σ : L2.St} {H : Hp} {ρ : List Sl} {Q : List V → Hp → Prop} {P : List Sl → Prop}, DEnv K b S m H σ ρ → m + c ≤ LIM → f ρ P →
    (∀ as vs H', P as → Stp K b H H' → BxO b H' (m + c) → ArgL K b S H' vs as → Q vs H') → t σ H Q
theorem mk_snd {md : Bool} {K : PySem.W.Frag} {t : TE} {c : Nat} {f : FE} (mono : ∀ (ρ : List Sl) (P P' : PyData → Prop), (∀ d, P d → P' d) → f ρ P → f ρ P')
    (go : ∀ {b : Option Addr} {S : Addr → Prop} {m : Nat} {σ : L2.St} {H : Hp} {ρ : List Sl} {Q : VK} {P : PyData → Prop}, DEnv K b S m H σ ρ → m + c ≤ LIM → f ρ P →
      (∀ d v H', P d → Stp K b H H' → BxO b H' (m + c) → VD md K b S H' v d → Q v H') → t σ H Q) : Snd md K t c f :=
  ⟨mono, fun b S m σ H ρ Q E hm hf => go E hm hf fun d v H' p s x y => p v H' s x y⟩
section
variable {K : PySem.W.Frag} {md md2 : Bool} {ta tb : TE} {ca cb c : Nat} {fa fb : FE}
abbrev eVar (i : Nat) : FE := fun ρ Q => match ρ[i]? with
  | some (.dt d) => Q d
  | _ => False
abbrev eVarV (i : Nat) : FE := fun ρ Q => match ρ[i]? with
  | some (.dt d) => Q d
  | some (.own ds) => Q (.list ds)
  | _ => False
theorem snd_var {i : Nat} : Snd true K (tVar i) 0 (eVar i) := mk_snd
  (fun ρ P P' h g => by
    unfold eVar at g ⊢
    split at g
    · exact h _ g
    · exact g.elim)
  (fun {b S m σ H ρ Q P} E hm hf k => by
    unfold eVar at hf
    split at hf
    · rename_i d e
      obtain ⟨v, e1, e2⟩ := E.sl i _ e
      exact ⟨v, e1, k d v H hf Stp.refl E.bx e2⟩
    · exact hf.elim)
theorem sndV_var {i : Nat} : Snd false K (tVar i) 0 (eVarV i) := mk_snd
  (fun ρ P P' h g => by
    unfold eVarV at g ⊢
    split at g
    · exact h _ g
    · exact h _ g
    · exact g.elim)
  (fun {b S m σ H ρ Q P} E hm hf k => by
    unfold eVarV at hf
    split at hf
    · rename_i d e
      obtain ⟨v, e1, e2⟩ := E.sl i _ e
      exact ⟨v, e1, k d v H hf Stp.refl E.bx (.st e2)⟩
    · rename_i ds e
      obtain ⟨p, vs, e1, e2, e3, e4, e5⟩ := E.sl i _ e
      exact ⟨.ref p, e1, k _ _ H hf Stp.refl E.bx (.ow e3 e4 e5)⟩
    · exact hf.elim)
abbrev eC (d : PyData) : FE := fun _ Q => Q d
theorem snd_int {i : Int} : Snd true K (tC (.int i)) 0 (eC (.int i)) := mk_snd (fun ρ P P' h g => h _ g) (fun E hm hf k => k _ _ _ hf Stp.refl E.bx (.int i))
theorem snd_bl {i : Bool} : Snd true K (tC (.bl i)) 0 (eC (.bool i)) := mk_snd (fun ρ P P' h g => h _ g) (fun E hm hf k => k _ _ _ hf Stp.refl E.bx (.bl i))
theorem snd_str {i : Str} : Snd true K (tC (.str i)) 0 (eC (.str i)) := mk_snd (fun ρ P P' h g => h _ g) (fun E hm hf k => k _ _ _ hf Stp.refl E.bx (.str i))
theorem snd_non : Snd true K (tC .non) 0 (eC .none) := mk_snd (fun ρ P P' h g => h _ g) (fun E hm hf k => k _ _ _ hf Stp.refl E.bx .non)
structure OpSnd (K : PySem.W.Frag) (r : R2) (g : PyData → PyData → (PyData → Prop) → Prop) : Prop where
  mono : ∀ x y (P P' : PyData → Prop), (∀ d, P d → P' d) → g x y P → g x y P'
  run : ∀ {b : Option Addr} {S : Addr → Prop} {H : Hp} {x y : V} {dx dy : PyData} {Q : VK} {P : PyData → Prop}, Al S H → Vw K b S H x dx → Vw K b S H y dy → g dx dy P →
    (∀ d v H', P d → Evl.Ex H H' → Da K (rm H' S) v d → Q v H') → r x y H Q
abbrev eBin (g : PyData → PyData → (PyData → Prop) → Prop) (fa fb : FE) : FE := fun ρ Q => fa ρ fun x => fb ρ fun y => g x y Q
theorem snd_op {r : R2} {g : PyData → PyData → (PyData → Prop) → Prop} (o : OpSnd K r g) (a : Snd md K ta ca fa) (b : Snd md2 K tb cb fb) : Snd true K (tOp r ta tb) (ca + cb) (eBin g fa fb) := mk_snd
  (fun ρ P P' h q => a.mono _ _ _ (fun x => b.mono _ _ _ fun y => o.mono x y _ _ h) q)
  (fun E hm hf k => a.go E (by omega) hf fun x vx H1 h1 s1 b1 d1 => b.go (E.step s1 b1) (by omega) h1 fun y vy H2 h2 s2 b2 d2 =>
    o.run ((E.step s1 b1).step s2 b2).al (d1.vw.step s2 E.bs) d2.vw h2 fun d v H' p e q => k d v H' p ((s1.trans s2).trans (Stp.ex e)) ((b2.ex e).le (by omega)) q)
structure UnSnd (K : PySem.W.Frag) (r : V → Hp → VK → Prop) (g : PyData → (PyData → Prop) → Prop) : Prop where
  mono : ∀ x (P P' : PyData → Prop), (∀ d, P d → P' d) → g x P → g x P'
  run : ∀ {b : Option Addr} {S : Addr → Prop} {H : Hp} {x : V} {dx : PyData} {Q : VK} {P : PyData → Prop}, Al S H → Vw K b S H x dx → g dx P →
    (∀ d v H', P d → Evl.Ex H H' → Da K (rm H' S) v d → Q v H') → r x H Q
abbrev eUn (g : PyData → (PyData → Prop) → Prop) (fa : FE) : FE := fun ρ Q => fa ρ fun x => g x Q
theorem snd_un0 {r : V → Hp → VK → Prop} {g : PyData → (PyData → Prop) → Prop} (o : UnSnd K r g) (a : Snd md K ta ca fa) : Snd true K (fun σ H Q => ta σ H fun x H1 => r x H1 Q) ca (eUn g fa) := mk_snd
  (fun ρ P P' h q => a.mono _ _ _ (fun x => o.mono x _ _ h) q)
  (fun E hm hf k => a.go E (by omega) hf fun x vx H1 h1 s1 b1 d1 =>
    o.run (E.step s1 b1).al d1.vw h1 fun d v H' p e q => k d v H' p (s1.trans (Stp.ex e)) (b1.ex e) q)
theorem snd_un {r : V → Hp → VK → Prop} {g : PyData → (PyData → Prop) → Prop} (o : UnSnd K r g) (a : Snd md K ta ca fa) : Snd true K (tUn r ta) ca (eUn g fa) := snd_un0 (r := r) o a
abbrev asB (Q : Bool → Prop) : PyData → Prop
  | .bool k => Q k
  | _ => False
theorem asB_mono {P P' : Bool → Prop} (h : ∀ k, P k → P' k) : ∀ d, asB P d → asB P' d := fun d g => by
  cases d <;> first | exact h _ g | exact g.elim
abbrev fTest (f : FE) : FT := fun ρ Q => f ρ (asB Q)
theorem asB_of {md : Bool} {b : Option Addr} {S : Addr → Prop} {H : Hp} {Q : Bool → Prop} {d : PyData} {v : V} (h : asB Q d) (g : VD md K b S H v d) : ∃ k, v = .bl k ∧ Q k := by
  cases d with
  | bool k => exact ⟨k, g.vw.bool, h⟩
  | _ => exact h.elim
theorem sndt_test (a : Snd md K ta ca fa) : SndT K (tTest ta) ca (fTest fa) :=
  ⟨fun ρ P P' h g => a.mono _ _ _ (asB_mono h) g, fun E hm hf k => a.go E hm hf fun d v H' p s x y => by
    obtain ⟨q, rfl, z⟩ := asB_of p y
    exact ⟨q, rfl, k q H' z s x⟩⟩
theorem sndt_B (a : Snd md K ta ca fa) : SndT K (tB ta) ca (fTest fa) :=
  ⟨fun ρ P P' h g => a.mono _ _ _ (asB_mono h) g, fun E hm hf k => a.go E hm hf fun d v H' p s x y => by
    obtain ⟨q, rfl, z⟩ := asB_of p y
    exact ⟨q, rfl, k q H' z s x⟩⟩
abbrev truD (Q : Bool → Prop) : PyData → Prop
  | .none => Q false
  | .bool k => Q k
  | .int i => Q (i != 0)
  | .list ds => Q (!ds.isEmpty)
  | .tuple ds => Q (!ds.isEmpty)
  | _ => False
theorem DaL.empty {H : Hp} {vs : List V} {ds : List PyData} (h : DaL K H vs ds) : (!vs.isEmpty) = !ds.isEmpty := by
  cases h <;> rfl
theorem truD_mono {P P' : Bool → Prop} (h : ∀ k, P k → P' k) : ∀ d, truD P d → truD P' d := fun d g => by
  cases d <;> first | exact h _ g | exact g.elim
abbrev fTru (f : FE) : FT := fun ρ Q => f ρ (truD Q)
theorem sndt_tru (a : Snd md K ta ca fa) : SndT K (fun σ H Q => ta σ H fun x H' => ∃ k, TruV K x H' k ∧ Q k H') ca (fTru fa) :=
  ⟨fun ρ P P' h g => a.mono _ _ _ (truD_mono h) g, fun E hm hf k => a.go E hm hf fun d v H' p s x y => by
    have y := y.vw
    cases d with
    | none => rw [y.none]; exact ⟨false, rfl, k _ _ p s x⟩
    | bool q => rw [y.bool]; exact ⟨q, rfl, k _ _ p s x⟩
    | int i => rw [y.int]; exact ⟨_, rfl, k _ _ p s x⟩
    | list ds =>
      obtain ⟨q, vs, rfl, e, g⟩ := y.list
      exact ⟨_, .inl ⟨vs, .inl (.inl e), rfl⟩, by rw [g.empty]; exact k _ _ p s x⟩
    | tuple ds =>
      obtain ⟨q, vs, rfl, e, g⟩ := y.tuple
      exact ⟨_, .inr (.inl ⟨vs, e, rfl⟩), by rw [g.empty]; exact k _ _ p s x⟩
    | str _ => exact p.elim
    | dict _ => exact p.elim⟩
abbrev fAnd (f g : FT) : FT := fun ρ Q => f ρ fun k => if k = true then g ρ Q else Q false
abbrev fOr (f g : FT) : FT := fun ρ Q => f ρ fun k => if k = true then Q true else g ρ Q
abbrev fNot (f : FT) : FT := fun ρ Q => f ρ fun k => Q (!k)
variable {tt tu : TT} {ft fu : FT} {ct cu : Nat}
theorem sndt_and (a : SndT K tt ct ft) (b : SndT K tu cu fu) : SndT K (tAnd tt tu) (ct + cu) (fAnd ft fu) :=
  ⟨fun ρ P P' h g => a.mono _ _ _ (fun k q => by
      cases k with
      | true => exact b.mono _ _ _ h q
      | false => exact h _ q) g,
   fun E hm hf k => a.go E (by omega) hf fun q H1 p s1 b1 => by
    cases q with
    | true => exact b.go (E.step s1 b1) (by omega) p fun q2 H2 p2 s2 b2 => k _ _ p2 (s1.trans s2) (b2.le (by omega))
    | false => exact k _ _ p s1 (b1.le (by omega))⟩
theorem sndt_or (a : SndT K tt ct ft) (b : SndT K tu cu fu) : SndT K (tOr tt tu) (ct + cu) (fOr ft fu) :=
  ⟨fun ρ P P' h g => a.mono _ _ _ (fun k q => by
      cases k with
      | false => exact b.mono _ _ _ h q
      | true => exact h _ q) g,
   fun E hm hf k => a.go E (by omega) hf fun q H1 p s1 b1 => by
    cases q with
    | false => exact b.go (E.step s1 b1) (by omega) p fun q2 H2 p2 s2 b2 => k _ _ p2 (s1.trans s2) (b2.le (by omega))
    | true => exact k _ _ p s1 (b1.le (by omega))⟩
theorem sndt_not (a : SndT K tt ct ft) : SndT K (tNot tt) ct (fNot ft) :=
  ⟨fun ρ P P' h g => a.mono _ _ _ (fun k q => h _ q) g, fun E hm hf k => a.go E hm hf fun q H1 p s1 b1 => k _ _ p s1 b1⟩
abbrev eAnd (f g : FE) : FE := fun ρ Q => f ρ (asB fun k => if k = true then g ρ Q else Q (.bool false))
abbrev eOr (f g : FE) : FE := fun ρ Q => f ρ (asB fun k => if k = true then Q (.bool true) else g ρ Q)
abbrev eNot (f : FE) : FE := fun ρ Q => f ρ (asB fun k => Q (.bool (!k)))
theorem snd_and (a : Snd md K ta ca fa) (b : Snd true K tb cb fb) : Snd true K (tAndV ta tb) (ca + cb) (eAnd fa fb) := mk_snd
  (fun ρ P P' h q => a.mono _ _ _ (asB_mono fun k z => by
      cases k with
      | true => exact b.mono _ _ _ h z
      | false => exact h _ z) q)
  (fun E hm hf k => a.go E (by omega) hf fun x vx H1 h1 s1 b1 d1 => by
    obtain ⟨q, rfl, z⟩ := asB_of h1 d1
    refine ⟨q, rfl, ?_⟩
    cases q with
    | true => exact b.go (E.step s1 b1) (by omega) z fun y vy H2 h2 s2 b2 d2 => k _ _ _ h2 (s1.trans s2) (b2.le (by omega)) d2
    | false => exact k _ _ _ z s1 (b1.le (by omega)) (.bl false))
theorem snd_or (a : Snd md K ta ca fa) (b : Snd true K tb cb fb) : Snd true K (tOrV ta tb) (ca + cb) (eOr fa fb) := mk_snd
  (fun ρ P P' h q => a.mono _ _ _ (asB_mono fun k z => by
      cases k with
      | false => exact b.mono _ _ _ h z
      | true => exact h _ z) q)
  (fun E hm hf k => a.go E (by omega) hf fun x vx H1 h1 s1 b1 d1 => by
    obtain ⟨q, rfl, z⟩ := asB_of h1 d1
    refine ⟨q, rfl, ?_⟩
    cases q with
    | false => exact b.go (E.step s1 b1) (by omega) z fun y vy H2 h2 s2 b2 d2 => k _ _ _ h2 (s1.trans s2) (b2.le (by omega)) d2
    | true => exact k _ _ _ z s1 (b1.le (by omega)) (.bl true))
theorem snd_not (a : Snd md K ta ca fa) : Snd true K (tNotV ta) ca (eNot fa) := mk_snd
  (fun ρ P P' h q => a.mono _ _ _ (asB_mono fun k z => h _ z) q)
  (fun E hm hf k => a.go E (by omega) hf fun x vx H1 h1 s1 b1 d1 => by
    obtain ⟨q, rfl, z⟩ := asB_of h1 d1
    exact ⟨q, rfl, k _ _ _ z s1 b1 (.bl _)⟩)
abbrev eIf (t : FT) (f g : FE) : FE := fun ρ Q => t ρ fun k => if k = true then f ρ Q else g ρ Q
theorem snd_if (t : SndT K tt ct ft) (a : Snd true K ta ca fa) (b : Snd true K tb cb fb) : Snd true K (tIf tt ta tb) (ct + (ca + cb)) (eIf ft fa fb) := mk_snd
  (fun ρ P P' h q => t.mono _ _ _ (fun k z => by
      cases k with
      | true => exact a.mono _ _ _ h z
      | false => exact b.mono _ _ _ h z) q)
  (fun E hm hf k => t.go E (by omega) hf fun q H1 p s1 b1 => by
    cases q with
    | true => exact a.go (E.step s1 b1) (by omega) p fun y vy H2 h2 s2 b2 d2 => k _ _ _ h2 (s1.trans s2) (b2.le (by omega)) d2
    | false => exact b.go (E.step s1 b1) (by omega) p fun y vy H2 h2 s2 b2 d2 => k _ _ _ h2 (s1.trans s2) (b2.le (by omega)) d2)
abbrev dNil : FD := fun _ Q => Q []
abbrev dCons (f : FE) (g : FD) : FD := fun ρ Q => f ρ fun d => g ρ fun ds => Q (d :: ds)
theorem VwL.step {b : Option Addr} {S : Addr → Prop} {H H' : Hp} (st : Stp K b H H') (bs : ∀ p, b = some p → S p) : ∀ {vs : List V} {ds : List PyData}, VwL md K b S H vs ds → VwL md K b S H' vs ds
  | _, _, .nil => .nil
  | _, _, .cons h g => .cons (h.step st bs) (VwL.step st bs g)
theorem sndd_nil : SndD md K tNil 0 0 dNil := ⟨fun ρ P P' h g => h _ g, fun E hm hf k => k _ _ _ hf rfl Stp.refl E.bx .nil⟩
variable {tr : TA} {fr : FD} {n cr : Nat}
theorem sndd_cons (a : Snd md K ta ca fa) (r : SndD md K tr n cr fr) : SndD md K (tCons ta tr) (n + 1) (ca + cr) (dCons fa fr) :=
  ⟨fun ρ P P' h g => a.mono _ _ _ (fun d => r.mono _ _ _ fun ds => h _) g, fun E hm hf k => a.go E (by omega) hf fun d v H1 h1 s1 b1 d1 =>
    r.go (E.step s1 b1) (by omega) h1 fun ds vs H2 h2 l s2 b2 d2 => k _ _ _ h2 (by rw [List.length_cons, l]) (s1.trans s2) (b2.le (by omega)) (.cons (d1.step s2 E.bs) d2)⟩
abbrev eTup (f : FD) : FE := fun ρ Q => f ρ fun ds => Q (.tuple ds)
abbrev eLst (f : FD) : FE := fun ρ Q => f ρ fun ds => Q (.list ds)
theorem snd_tup (r : SndD true K tr n cr fr) (hn : n ≤ sizeLine) : Snd true K (tTup tr) cr (eTup fr) := mk_snd
  (fun ρ P P' h g => r.mono _ _ _ (fun ds => h _) g)
  (fun E hm hf k => r.go E hm hf fun ds vs H1 h1 l s1 b1 d1 => ⟨by rw [l]; exact hn, fun p np => k _ _ _ h1 (s1.trans (Stp.ex (Evl.Ex.new np))) (b1.ex (Evl.Ex.new np)) (new_tup (E.step s1 b1).al np d1.dal)⟩)
structure SndL (K : PySem.W.Frag) (t : TE) (c : Nat) (f : FD) : Prop where
  mono : ∀ (ρ : List Sl) (P P' : List PyData → Prop), (∀ d, P d → P' d) → f ρ P → f ρ P'
  go : ∀ {b : Option Addr} {S : Addr → Prop} {m : Nat} {σ : L2.St} {H : Hp} {ρ : List Sl} {Q : VK} {P : List PyData → Prop}, DEnv K b S m H σ ρ → m + c ≤ LIM → f ρ P →
    (∀ ds vs p H', P ds → H p = none → Stp K b H H' → BxO b H' (m + c) → H' p = some (.lst vs) → DaL K (rm H' fun a => S a ∨ a = p) vs ds → Q (.ref p) H') → t σ H Q
theorem SndL.d {t : TE} {f : FD} (a : SndL K t c f) : Snd true K t c (fun ρ Q => f ρ fun ds => Q (.list ds)) := mk_snd
  (fun ρ P P' h g => a.mono _ _ _ (fun ds => h _) g)
  (fun E hm hf k => a.go E hm hf fun ds vs p H' h n st bx e g => k _ _ _ h st bx (.lst (rm_in (E.al.new n) e) (g.mono (rm_sub fun a z => .inl z))))
theorem back {b : Option Addr} {H H1 : Hp} {p : Addr} {k : Nat} (st : Stp K b H H1) (bx : BxO b H1 k) (np : H1 p = none) : H p = none := by
  cases z : H p with
  | none => rfl
  | some o =>
    exfalso
    by_cases q : b = some p
    · rw [q] at bx
      obtain ⟨_, _, _, _, _, _, _, _, e2⟩ := bx
      rw [np] at e2
      cases e2
    · exact (st p o q z).ne np
theorem DaL.fresh {S : Addr → Prop} {H : Hp} {p : Addr} {o : HO} {vs : List V} {ds : List PyData} (h : DaL K (rm H S) vs ds) (np : H p = none) : DaL K (rm (upd H p o) fun a => S a ∨ a = p) vs ds := h.mono fun a o z => by
  obtain ⟨g1, g2⟩ := rm_some z
  have ne : a ≠ p := fun w => by rw [w, np] at g2; cases g2
  exact rm_in (fun w => w.elim g1 ne) (by rw [upd_ne ne]; exact g2) (rm_nt z)
theorem sndl_lst (r : SndD true K tr n cr fr) (hn : n ≤ sizeLine) : SndL K (tLst tr) cr fr := ⟨r.mono,
  (fun E hm hf k => r.go E hm hf fun ds vs H1 h1 l s1 b1 d1 => ⟨by rw [l]; exact hn, fun p np =>
    k _ _ _ _ h1 (back s1 b1 np) (s1.trans (Stp.ex (Evl.Ex.new np))) (b1.ex (Evl.Ex.new np)) upd_same (d1.dal.fresh np)⟩)⟩
end
end Dv
namespace RT
open PySem PySem.Spec PyProof.Rows
section
variable {prog : Program} {w : World} {A : Around} {E : Value → Shared → Prop} {s : Shared}
end
end RT
namespace Xg
open PySem PySem.Spec PyProof.Rows L2
end Xg
namespace Xg
open PySem PySem.Spec PyProof.Rows L2
theorem tuple_mul1 (l : Addr) (items : Array Value) (n : Nat) (dd : Option Addr) (sl : Array (Option Value)) (u : Tok) :
    Meets (Builtin.«tuple.__mul__» ⟨[.ref l, .int 1 u], []⟩) (fun _ R s => s.heap.get? l = some { cls := .type "tuple", dict := dd, data := .seq items n, slots := sl } ∧ R (.ok (.ret (Value.ref l))) s) :=
  .of_wp fun prog w A R s h => by
    obtain ⟨hp, g, d, tk, os⟩ := s
    obtain ⟨hl, h⟩ := h
    have f1 := AutoSeq1.idx_int
    have c1 : (items.isEmpty || (1 : Int) == 1) = true := by simp
    wp_walk using wpAny_loadPart' hl
    exact ⟨_, rfl, h⟩
def rRep1 (K : PySem.W.Frag) : R2 := fun x y H Q => ∃ l xs, x = .ref l ∧ y = .int 1 ∧ SqT K H l xs ∧ Q (.ref l) H
theorem op_rep1 {X : Cx} : OpR X (binaryOp .Mult) (rRep1 X.K) := by
  intro pins s σ H x y v u Q I rx ry h
  obtain ⟨l, xs, rfl, rfl, hT, q⟩ := h
  cases rx
  obtain ⟨t, rfl⟩ := ry
  obtain ⟨its, r, ⟨⟨cls, dd, data, sl⟩, ho, hc, n, hd⟩, hs⟩ := I.tuple hT
  simp only at hc hd
  subst hc hd
  refine wpAny_binaryOp_repeat_ref (T := "tuple") (U := "int") (by decide) ⟨_, ho, rfl⟩ (fun s' => typeIs_int s' 1 t) noFill_tuple_mul F.fills_int_mul F.slot_int_rmul repeat_tuple F.slot_int_index.lookup
    (call_meets F.slot_int_rmul (typeIs_int s 1 t) F.entry_int_rmul (F.args_int_rmul_2 _ _) (int_rmul_tuple 1 t l its.toArray n dd sl)
      ⟨ho, rfl, ⟨_, ho, rfl⟩, call_meets F.slot_tuple_mul ⟨_, ho, rfl⟩ F.entry_tuple_mul (F.args_tuple_mul_2 _ _) (tuple_mul1 l its.toArray n dd sl t) ⟨ho, ?_⟩⟩)
  exact ⟨.ref l, H, I, rfl, q⟩
theorem tuple_mul0 (l : Addr) (items : Array Value) (n : Nat) (dd : Option Addr) (sl : Array (Option Value)) (u : Tok) (c1 : (items.isEmpty || (0 : Int) == 1) = false) :
    Meets (Builtin.«tuple.__mul__» ⟨[.ref l, .int 0 u], []⟩) (fun _ R s => s.heap.get? l = some { cls := .type "tuple", dict := dd, data := .seq items n, slots := sl } ∧
      R (.ok (.ret (Value.ref s.heap.objs.size))) { s with heap := s.heap.push { cls := Value.type "tuple", data := Data.seq #[] }, toks := s.toks }) :=
  .of_wp fun prog w A R s h => by
    obtain ⟨hp, g, d, tk, os⟩ := s
    obtain ⟨hl, h⟩ := h
    have f1 := AutoSeq1.idx_int
    wp_walk using wpAny_loadPart' hl
    repeat (first
      | (refine wpAny_ite_false (decide_eq_false (by rw [c1]; exact Bool.false_ne_true)) ?_; wp_walk using wpAny_loadPart' hl))
    exact ⟨_, rfl, h⟩
def rRep0 (K : PySem.W.Frag) : R2 := fun x y H Q => ∃ l xs, x = .ref l ∧ y = .int 0 ∧ SqT K H l xs ∧ xs ≠ [] ∧ ∀ p, H p = none → Q (.ref p) (upd H p (.tup []))
theorem op_rep0 {X : Cx} : OpR X (binaryOp .Mult) (rRep0 X.K) := by
  intro pins s σ H x y v u Q I rx ry h
  obtain ⟨l, xs, rfl, rfl, hT, hne, q⟩ := h
  cases rx
  obtain ⟨t, rfl⟩ := ry
  obtain ⟨its, r, ⟨⟨cls, dd, data, sl⟩, ho, hc, n, hd⟩, hs⟩ := I.tuple hT
  simp only at hc hd
  subst hc hd
  have hle : its.length = xs.length := r.length.symm
  have hi : its.toArray.isEmpty = false := by
    cases its with
    | nil => exact absurd (List.eq_nil_of_length_eq_zero hle.symm) hne
    | cons a b => rfl
  refine wpAny_binaryOp_repeat_ref (T := "tuple") (U := "int") (by decide) ⟨_, ho, rfl⟩ (fun s' => typeIs_int s' 0 t) noFill_tuple_mul F.fills_int_mul F.slot_int_rmul repeat_tuple F.slot_int_index.lookup
    (call_meets F.slot_int_rmul (typeIs_int s 0 t) F.entry_int_rmul (F.args_int_rmul_2 _ _) (int_rmul_tuple 0 t l its.toArray n dd sl)
      ⟨ho, rfl, ⟨_, ho, rfl⟩, call_meets F.slot_tuple_mul ⟨_, ho, rfl⟩ F.entry_tuple_mul (F.args_tuple_mul_2 _ _) (tuple_mul0 l its.toArray n dd sl t (by rw [hi]; rfl)) ⟨ho, ?_⟩⟩)
  have hp : H s.heap.objs.size = none := I.hok.fresh (Nat.le_refl _)
  refine ⟨.ref s.heap.objs.size, _, I.laid (o := .tup []) (t' := s.toks) (fun b o e => Heap.get?_push_of_some _ e) (Nat.le_refl _) ?_, rfl, q _ hp⟩
  exact ⟨Nat.zero_le _, [], .nil, ⟨_, Heap.get?_push_size s.heap rfl, rfl, 0, rfl⟩⟩
end Xg
namespace Zq
open PySem PySem.Spec PyProof.Rows L2
open PySem.Sem (wp)
def itK (t : Bool) (g : Heap) (p l : Addr) (i : Nat) : Prop := bif t then g.IsTupleIter p l i else g.IsListIter p l i
theorem it_at {t : Bool} {g g' : Heap} {p l : Addr} {i : Nat} (x : itK t g p l i) (e : ∀ o, g.get? p = some o → g'.get? p = some o) : itK t g' p l i := by
  cases t
  · exact Heap.IsListIter.at x e
  · exact Heap.IsTupleIter.at x e
theorem it_obj {t : Bool} {g : Heap} {p l : Addr} {i : Nat} (x : itK t g p l i) : ∃ o, g.get? p = some o ∧ o.data = .fields #[.ref l, .int i 0] := by
  cases t
  · exact let ⟨o, e, _, d⟩ := x; ⟨o, e, d⟩
  · exact let ⟨o, e, _, d⟩ := x; ⟨o, e, d⟩
section
variable {prog : Program} {w : World} {A : Around} {E : Value → Shared → Prop} {s : Shared}
def Stay (g g' : Heap) (z T p1 p2 : Addr) : Prop := ∀ c o, c ≠ z → c ≠ T → c ≠ p1 → c ≠ p2 → g.get? c = some o → g'.get? c = some o
end
end Zq
namespace Zq
open PySem PySem.Spec PyProof.Rows L2
open PySem.Sem (wp)
section
variable {prog : Program} {w : World} {A : Around} {E : Value → Shared → Prop} {s : Shared}
abbrev e1 (g : Heap) (l1 : Addr) : Heap := g.push { cls := .type "tuple_iterator", data := .fields #[.ref l1, .int 0 0] }
abbrev e2 (g : Heap) (l1 l2 : Addr) : Heap := (e1 g l1).push { cls := .type "list_iterator", data := .fields #[.ref l2, .int 0 0] }
abbrev e3 (g : Heap) (l1 l2 : Addr) : Heap := (e2 g l1 l2).push { cls := .type "tuple", data := .seq #[.ref g.objs.size, .ref (e1 g l1).objs.size] }
abbrev e4 (g : Heap) (l1 l2 : Addr) : Heap := (e3 g l1 l2).push { cls := .type "tuple", data := .seq #[.none, .none] }
abbrev e5 (g : Heap) (l1 l2 : Addr) : Heap := (e4 g l1 l2).push { cls := .type "zip", data := .fields #[.none, .bool false, .bool false, .ref (e2 g l1 l2).objs.size, .ref (e3 g l1 l2).objs.size] }
end
end Zq
namespace Zq
open PySem PySem.Spec PyProof.Rows L2
theorem five {z S T p1 p2 c : Addr} {M : Prop} (h : c ∈ [z, S, T, p1, p2]) (m1 : c = z → M) (m2 : c = S → M) (m3 : c = T → M) (m4 : c = p1 → M) (m5 : c = p2 → M) : M := by
  simp only [List.mem_cons, List.not_mem_nil, or_false] at h
  exact h.elim m1 fun h => h.elim m2 fun h => h.elim m3 fun h => h.elim m4 m5
end Zq
namespace Zq
open PySem PySem.Spec PyProof.Rows L2
open PySem.Sem (wp)
section
variable {prog : Program} {w : World} {A : Around} {E : Value → Shared → Prop} {s : Shared}
abbrev u1 (g : Heap) (l1 : Addr) : Heap := g.push { cls := .type "list_iterator", data := .fields #[.ref l1, .int 0 0] }
end
end Zq
namespace Pw
open PySem PySem.Spec PyProof.Rows L2 Xg
open AutoSeq1 (wpAny_loadPart')
def iSeq (K : PySem.W.Frag) (tl : TE) : TI := fun σ H R => tl σ H fun x H1 => ∃ a, x = .ref a ∧ (((∃ xs, SqL K H1 a xs) ∧ R (Itl K a) H1) ∨ ((∃ xs, SqT K H1 a xs) ∧ R (Itt K a) H1))
theorem pi_seq {X : Cx} {tg l : Expr} {tl : TE} (hl : PE X l tl) : PI X tg l (iSeq X.K tl) := by
  refine ⟨fun pins s σ H R I h => thn (hl.run pins s σ H _ I h) fun v s1 ⟨x, H1, I1, r1, a, e, q⟩ => ?_⟩
  subst e
  cases r1
  have fp : ∀ c ∈ [s1.heap.objs.size], FpOk X pins H1 c := fun c hc => by
    rw [List.mem_singleton.mp hc]
    exact I1.fpOk (Nat.le_refl _) (I1.hok.fresh (Nat.le_refl _))
  rcases q with ⟨⟨xs, hq⟩, q⟩ | ⟨⟨xs, hq⟩, q⟩
  · obtain ⟨is, _, m1, _⟩ := I1.list hq
    exact wpAny_pyIter_list m1.isList ⟨_, _, _, _, H1, rfl, I1.kept (t' := s1.toks) fun c o e => Heap.get?_push_of_some _ e, turn_list a _, ⟨_, Heap.get?_push_size _ rfl, rfl, rfl⟩, fp, q⟩
  · obtain ⟨is, _, m1, _⟩ := I1.tuple hq
    exact wpAny_pyIter_tuple (show s1.heap.IsTuple a is.toArray from m1) ⟨_, _, _, _, H1, rfl, I1.kept (t' := s1.toks) fun c o e => Heap.get?_push_of_some _ e, turn_tuple a _, ⟨_, Heap.get?_push_size _ rfl, rfl, rfl⟩, fp, q⟩
theorem sl_or {X : Cx} {r1 r2 : V → Option Int → Option Int → Hp → VK → Prop} (a : SlR X r1) (b : SlR X r2) : SlR X (fun x lo hi H Q => r1 x lo hi H Q ∨ r2 x lo hi H Q) :=
  fun pins s σ H x v vl vu lo hi sl Q I rx hs pl pu h => h.elim (a pins s σ H x v vl vu lo hi sl Q I rx hs pl pu) (b pins s σ H x v vl vu lo hi sl Q I rx hs pl pu)
end Pw
namespace Dv
open PySem PySem.Spec PyProof.Rows L2 Xg
open Classical
section
variable {K : PySem.W.Frag} {md : Bool} {ta tb te : TE} {ca cb c : Nat} {fa fb fe : FE}
abbrev aNil : FA := fun _ Q => Q []
abbrev aCons (f : FE) (g : FA) : FA := fun ρ Q => f ρ fun d => g ρ fun as => Q (.dt d :: as)
abbrev aBox (i : Nat) (g : FA) : FA := fun ρ Q => match ρ[i]? with
  | some .box => g ρ fun as => Q (.box :: as)
  | _ => False
abbrev aScr (i : Nat) (g : FA) : FA := fun ρ Q => match ρ[i]? with
  | some (.scr ns) => g ρ fun as => Q (.scr ns :: as)
  | _ => False
theorem ArgR.step {b : Option Addr} {S : Addr → Prop} {H H' : Hp} {v : V} {s : Sl} (h : ArgR K b S H v s) (st : Stp K b H H') (bs : ∀ p, b = some p → S p) : ArgR K b S H' v s := by
  cases s with
  | dt d => exact Da.mono (st.rm bs) h
  | box => exact h
  | scr ns =>
    obtain ⟨p, e, g⟩ := h
    exact ⟨p, e, Evl.ex_l (st.rm bs) g⟩
  | op g => exact TbO.mono (st.rm bs) h
  | fn k ds => exact LamV.mono (st.rm bs) h
  | exc k ds => exact h.elim
  | dct k => exact h.elim
  | dck k => exact DcO.mono (st.rm bs) h
  | frt k => exact h.elim
  | no => exact h.elim
  | own _ => exact h.elim
theorem snda_nil : SndA K tNil 0 aNil := ⟨fun ρ P P' h g => h _ g, fun E hm hf k => k _ _ _ hf Stp.refl E.bx .nil⟩
variable {tr : TA} {fr : FA} {cr n : Nat}
theorem snda_cons (a : Snd true K ta ca fa) (r : SndA K tr cr fr) : SndA K (tCons ta tr) (ca + cr) (aCons fa fr) :=
  ⟨fun ρ P P' h g => a.mono _ _ _ (fun d => r.mono _ _ _ fun ds => h _) g, fun E hm hf k => a.go E (by omega) hf fun d v H1 h1 s1 b1 d1 =>
    r.go (E.step s1 b1) (by omega) h1 fun ds vs H2 h2 s2 b2 d2 => k _ _ _ h2 (s1.trans s2) (b2.le (by omega)) (.cons (Da.mono (s2.rm E.bs) d1) d2)⟩
theorem snda_box {i : Nat} (r : SndA K tr cr fr) : SndA K (tCons (tVar i) tr) cr (aBox i fr) :=
  ⟨fun ρ P P' h g => by
      unfold aBox at g ⊢
      split at g
      · exact r.mono _ _ _ (fun ds => h _) g
      · exact g.elim,
   fun {b S m σ H ρ Q P} E hm hf k => by
      unfold aBox at hf
      split at hf
      · rename_i e
        obtain ⟨p, e1, e2⟩ := E.sl i _ e
        exact ⟨.ref p, e1, r.go E hm hf fun ds vs H2 h2 s2 b2 d2 => k _ _ _ h2 s2 b2 (.cons ⟨p, rfl, e2⟩ d2)⟩
      · exact hf.elim⟩
theorem snda_scr {i : Nat} (r : SndA K tr cr fr) : SndA K (tCons (tVar i) tr) cr (aScr i fr) :=
  ⟨fun ρ P P' h g => by
      unfold aScr at g ⊢
      split at g
      · exact r.mono _ _ _ (fun ds => h _) g
      · exact g.elim,
   fun {b S m σ H ρ Q P} E hm hf k => by
      unfold aScr at hf
      split at hf
      · rename_i ns e
        obtain ⟨p, e1, e2⟩ := E.sl i _ e
        exact ⟨.ref p, e1, r.go E hm hf fun ds vs H2 h2 s2 b2 d2 => k _ _ _ h2 s2 b2 (.cons ⟨p, rfl, Evl.ex_l (s2.rm E.bs) e2⟩ d2)⟩
      · exact hf.elim⟩
abbrev FF := List Sl → (PyData → Prop) → Prop
abbrev FFL := List Sl → (List PyData → Prop) → Prop
def spD (K : PySem.W.Frag) (c : Nat) (F : FF) : Sp := fun vs H Q _ => ∃ (b : Option Addr) (S : Addr → Prop) (m : Nat) (as : List Sl), ArgL K b S H vs as ∧ BxO b H m ∧ (∀ p, b = some p → S p) ∧ (Al S H ∧ Tbs K H) ∧ m + c ≤ LIM ∧
  F as (fun d => ∀ v H', Stp K b H H' → BxO b H' (m + c) → Da K (rm H' S) v d → Q v H')
def spL (K : PySem.W.Frag) (c : Nat) (F : FFL) : Sp := fun vs H Q _ => ∃ (b : Option Addr) (S : Addr → Prop) (m : Nat) (as : List Sl), ArgL K b S H vs as ∧ BxO b H m ∧ (∀ p, b = some p → S p) ∧ (Al S H ∧ Tbs K H) ∧ m + c ≤ LIM ∧
  F as (fun ds => ∀ vs p H', H p = none → Stp K b H H' → BxO b H' (m + c) → H' p = some (.lst vs) → DaL K (rm H' fun a => S a ∨ a = p) vs ds → Q (.ref p) H')
def MonoF (F : FF) : Prop := ∀ as (P P' : PyData → Prop), (∀ d, P d → P' d) → F as P → F as P'
abbrev eCall (F : FF) (fr : FA) : FE := fun ρ Q => fr ρ fun as => F as Q
theorem snd_call {F : FF} (mF : MonoF F) (r : SndA K tr cr fr) : Snd true K (tCallG (spD K c F) tr) (cr + c) (eCall F fr) := mk_snd
  (fun ρ P P' h g => r.mono _ _ _ (fun as => mF as _ _ h) g)
  (fun {b S m σ H ρ Q P} E hm hf k => r.go E (by omega) hf fun as vs H1 h1 s1 b1 d1 => ⟨b, S, m + cr, as, d1, b1, E.bs, ⟨(E.step s1 b1).al, (E.step s1 b1).tb⟩, by omega,
    mF _ _ _ (fun d p v H' s2 b2 d2 => k _ _ _ p (s1.trans s2) (b2.le (by omega)) d2) h1⟩)
abbrev eCallF (F : FF) (fd : FD) : FE := fun ρ Q => fd ρ fun ds => F (ds.map Sl.dt) fun d => flat d = true ∧ Q d
theorem VwL.args {b : Option Addr} {S : Addr → Prop} {H : Hp} (bs : ∀ p, b = some p → S p) : ∀ {vs : List V} {ds : List PyData}, VwL md K b S H vs ds → ArgL K b (fun a => b = some a) H vs (ds.map Sl.dt)
  | _, _, .nil => .nil
  | v :: vs, d :: ds, .cons h g => .cons (show Da K (rm H fun a => b = some a) v d from by
      cases h.vw with
      | st h1 => exact h1.mono (rm_sub bs)
      | ow n h1 g1 => exact .lst (rm_in n h1) (g1.mono (rm_sub bs))) (VwL.args bs g)
theorem snd_callF {F : FF} {tr : TA} {fd : FD} (mF : MonoF F) (r : SndD md K tr n cr fd) : Snd true K (tCallG (spD K c F) tr) (cr + c) (eCallF F fd) := mk_snd
  (fun ρ P P' h g => r.mono _ _ _ (fun as => mF _ _ _ fun d z => ⟨z.1, h _ z.2⟩) g)
  (fun {b S m σ H ρ Q P} E hm hf k => r.go E (by omega) hf fun as vs H1 h1 l s1 b1 d1 => ⟨b, fun a => b = some a, m + cr, _, d1.args E.bs, b1, fun p e => e, ⟨fun a e => (E.step s1 b1).al a (E.bs a e), (E.step s1 b1).tb⟩, by omega,
    mF _ _ _ (fun d p v H' s2 b2 d2 => k _ _ _ p.2 (s1.trans s2) (b2.le (by omega)) (Da.flat d2 p.1)) h1⟩)
abbrev FG := PyData → List Sl → (List Sl → Prop) → Prop
abbrev FGs := List PyData → List Sl → (List Sl → Prop) → Prop
structure Kpt (vs : List Nat) (σ σ' : L2.St) (ρ ρ' : List Sl) : Prop where
  sg : wipe σ' vs = wipe σ vs
  own : ∀ (i : Nat) (s : Sl), ρ'[i]? = some s → isOw s = true → ρ[i]? = some s ∧ σ'[i]? = σ[i]?
theorem Kpt.refl {vs : List Nat} {σ : L2.St} {ρ : List Sl} : Kpt vs σ σ ρ ρ := ⟨rfl, fun i ds h _ => ⟨h, rfl⟩⟩
theorem Kpt.trans {vs : List Nat} {σ σ1 σ2 : L2.St} {ρ ρ1 ρ2 : List Sl} (h : Kpt vs σ σ1 ρ ρ1) (g : Kpt vs σ1 σ2 ρ1 ρ2) : Kpt vs σ σ2 ρ ρ2 :=
  ⟨g.sg.trans h.sg, fun i ds e o => let ⟨e1, e2⟩ := g.own i ds e o; let ⟨e3, e4⟩ := h.own i ds e1 o; ⟨e3, e2.trans e4⟩⟩
theorem wipe_set {x : Option V} {i : Nat} : ∀ {vs : List Nat} {σ : L2.St}, i ∈ vs → wipe (σ.set i x) vs = wipe σ vs
  | v :: vs, σ, h => by
    unfold wipe
    by_cases e : i ∈ vs
    · rw [wipe_set e]
    · have z : i = v := (List.mem_cons.mp h).resolve_right e
      subst z
      have q : ∀ {vs : List Nat} {σ : L2.St}, i ∉ vs → wipe (σ.set i x) vs = (wipe σ vs).set i x := by
        intro vs
        induction vs with
        | nil => intro σ _; rfl
        | cons v vs ih =>
          intro σ hn
          rw [List.mem_cons, not_or] at hn
          unfold wipe
          rw [ih hn.2, List.set_comm _ _ hn.1]
      rw [q e, List.set_set]
theorem wipe_get : ∀ {vs : List Nat} {σ : L2.St} {i : Nat}, (wipe σ vs)[i]? = if i ∈ vs then σ[i]?.map (fun _ => none) else σ[i]?
  | [], σ, i => by simp [wipe]
  | v :: vs, σ, i => by
    unfold wipe
    rw [List.getElem?_set, wipe_length, wipe_get (vs := vs)]
    by_cases e : v = i
    · subst e
      rw [if_pos rfl, if_pos (List.mem_cons_self ..)]
      split
      · rename_i l
        rw [List.getElem?_eq_getElem l]
        rfl
      · rename_i l
        rw [List.getElem?_eq_none (by omega)]
        rfl
    · rw [if_neg e]
      by_cases q : i ∈ vs
      · rw [if_pos q, if_pos (List.mem_cons_of_mem _ q)]
      · rw [if_neg q, if_neg (by rw [List.mem_cons, not_or]; exact ⟨fun z => e z.symm, q⟩)]
theorem wipe_wipe {vs : List Nat} {σ : L2.St} : wipe (wipe σ vs) vs = wipe σ vs := List.ext_getElem? fun i => by
  rw [wipe_get, wipe_get]
  by_cases q : i ∈ vs
  · rw [if_pos q, if_pos q]
    cases σ[i]? <;> rfl
  · rw [if_neg q, if_neg q]
structure SndG (K : PySem.W.Frag) (g : TG) (vs : List Nat) (f : FG) : Prop where
  mono : ∀ d (ρ : List Sl) (P P' : List Sl → Prop), (∀ d, P d → P' d) → f d ρ P → f d ρ P'
  go : ∀ {b : Option Addr} {S : Addr → Prop} {m : Nat} {σ : L2.St} {H : Hp} {ρ : List Sl} {Q : L2.St → Hp → Prop} {P : List Sl → Prop} {v : V} {d : PyData}, DEnv K b S m H σ ρ → Da K (rm H S) v d → f d ρ P →
    (∀ ρ' σ', P ρ' → DEnv K b S m H σ' ρ' → Kpt vs σ σ' ρ ρ' → Q σ' H) → g v σ H Q
structure SndGs (K : PySem.W.Frag) (g : TGs) (vs : List Nat) (f : FGs) : Prop where
  mono : ∀ d (ρ : List Sl) (P P' : List Sl → Prop), (∀ d, P d → P' d) → f d ρ P → f d ρ P'
  go : ∀ {b : Option Addr} {S : Addr → Prop} {m : Nat} {σ : L2.St} {H : Hp} {ρ : List Sl} {Q : L2.St → Hp → Prop} {P : List Sl → Prop} {us : List V} {ds : List PyData}, DEnv K b S m H σ ρ → DaL K (rm H S) us ds → f ds ρ P →
    (∀ ρ' σ', P ρ' → DEnv K b S m H σ' ρ' → Kpt vs σ σ' ρ ρ' → Q σ' H) → g us σ H Q
theorem DEnv.set {b : Option Addr} {S : Addr → Prop} {m : Nat} {σ : L2.St} {H : Hp} {ρ : List Sl} {i : Nat} {v : V} {s : Sl} (E : DEnv K b S m H σ ρ) (h : ∀ x, x = some (some v) → SlR K b S H x s) : DEnv K b S m H (σ.set i (some v)) (ρ.set i s) :=
  ⟨by rw [List.length_set, List.length_set, E.len], fun j t e => by
    rw [List.getElem?_set] at e
    rw [List.getElem?_set]
    by_cases z : i = j
    · rw [if_pos z] at e ⊢
      rw [E.len]
      split at e
      · rename_i l
        cases e
        rw [if_pos l]
        exact h _ rfl
      · cases e
    · rw [if_neg z] at e ⊢
      exact E.sl j t e, E.bx, E.bs, E.al, E.tb⟩
abbrev gN (i : Nat) : FG := fun d ρ Q => Q (ρ.set i (.dt d))
theorem kpt_set {vs : List Nat} {σ : L2.St} {ρ : List Sl} {i : Nat} {v : V} {d : PyData} (hi : i ∈ vs) : Kpt vs σ (σ.set i (some v)) ρ (ρ.set i (.dt d)) :=
  ⟨wipe_set hi, fun j ds e o => by
    rw [List.getElem?_set] at e
    by_cases z : i = j
    · rw [if_pos z] at e
      split at e
      · cases e
        exact absurd o Bool.false_ne_true
      · cases e
    · rw [if_neg z] at e
      exact ⟨e, by rw [List.getElem?_set, if_neg z]⟩⟩
theorem sndg_name {i : Nat} {vs : List Nat} (hi : i ∈ vs) : SndG K (gName i) vs (gN i) :=
  ⟨fun d ρ P P' h g => h _ g, fun E hd hf k => k _ _ hf (E.set fun x e => ⟨_, e, hd⟩) (kpt_set hi)⟩
abbrev gsNil : FGs := fun ds ρ Q => match ds with
  | [] => Q ρ
  | _ => False
abbrev gsCons (f : FG) (g : FGs) : FGs := fun ds ρ Q => match ds with
  | d :: r => f d ρ fun ρ' => g r ρ' Q
  | [] => False
theorem sndgs_nil {vs : List Nat} : SndGs K gNil vs gsNil := ⟨fun d ρ P P' h g => by
    cases d with
    | nil => exact h _ g
    | cons => exact g.elim, fun E hd hf k => by
    cases hd with
    | nil => exact ⟨rfl, k _ _ hf E Kpt.refl⟩
    | cons _ _ => exact hf.elim⟩
theorem sndgs_cons {vs : List Nat} {g : TG} {u : TGs} {f : FG} {fu : FGs} (a : SndG K g vs f) (r : SndGs K u vs fu) : SndGs K (gCons g u) vs (gsCons f fu) := ⟨fun d ρ P P' h g => by
    cases d with
    | nil => exact g.elim
    | cons => exact a.mono _ _ _ _ (fun ρ' => r.mono _ _ _ _ h) g, fun E hd hf k => by
    cases hd with
    | nil => exact hf.elim
    | cons h1 h2 => exact ⟨_, _, rfl, a.go E h1 hf fun ρ1 σ1 p1 E1 k1 => r.go E1 h2 p1 fun ρ2 σ2 p2 E2 k2 => k _ _ p2 E2 (k1.trans k2)⟩⟩
abbrev gT (g : FGs) : FG := fun d ρ Q => match d with
  | .tuple ds => g ds ρ Q
  | .list ds => g ds ρ Q
  | _ => False
theorem sndg_tup {vs : List Nat} {k : Nat} {u : TGs} {fu : FGs} (r : SndGs K u vs fu) (hn : ∀ ds ρ P, fu ds ρ P → ds.length = k) : SndG K (fun v σ H Q => gTup K k u v σ H Q ∨ gLst K k u v σ H Q) vs (gT fu) := ⟨fun d ρ P P' h g => by
    cases d <;> first | exact r.mono _ _ _ _ h g | exact g.elim, fun E hd hf q => by
    cases hd with
    | tup h1 h2 => exact .inl ⟨_, _, rfl, .inl (.inl (rm_le _ _ h1)), by rw [h2.len]; exact hn _ _ _ hf, r.go E h2 hf q⟩
    | lst h1 h2 => exact .inr ⟨_, _, rfl, .inl (.inl (rm_le _ _ h1)), by rw [h2.len]; exact hn _ _ _ hf, r.go E h2 hf q⟩
    | _ => exact hf.elim⟩
theorem gs_len0 : ∀ ds ρ P, gsNil ds ρ P → ds.length = 0 := fun ds ρ P h => by
  cases ds with
  | nil => rfl
  | cons => exact h.elim
theorem gs_lenS {f : FG} {g : FGs} {k : Nat} (mf : ∀ d (ρ : List Sl) (P : List Sl → Prop), f d ρ P → ∃ ρ', P ρ') (h : ∀ ds ρ P, g ds ρ P → ds.length = k) : ∀ ds ρ P, gsCons f g ds ρ P → ds.length = k + 1 := fun ds ρ P e => by
  cases ds with
  | nil => exact e.elim
  | cons d r =>
    obtain ⟨ρ', z⟩ := mf _ _ _ e
    rw [List.length_cons, h _ _ _ z]
def KG (K : PySem.W.Frag) (md : Bool) (b : Option Addr) (S : Addr → Prop) (H1 H2 : Hp) : Prop := match md with
  | true => Evl.Ex (rm H1 S) (rm H2 S)
  | false => Stp K b H1 H2
def Wk (md : Bool) (K : PySem.W.Frag) (b : Option Addr) (S : Addr → Prop) (H1 : Hp) (J : It) (ds : List PyData) : Prop :=
  Walk J ds.length (fun H2 => KG K md b S H1 H2) (fun i H v H' => ∀ T, Evl.Ex (rm H1 S) (rm H T) → Al T H → Evl.Ex H H' ∧ ∃ d, ds[i]? = some d ∧ Da K (rm H' T) v d)
theorem KG.ex {b : Option Addr} {S : Addr → Prop} {H1 H2 : Hp} (h : KG K md b S H1 H2) (bs : ∀ p, b = some p → S p) : Evl.Ex (rm H1 S) (rm H2 S) := by
  cases md with
  | true => exact h
  | false => exact Stp.rm h bs
theorem KG.refl {b : Option Addr} {S : Addr → Prop} {H1 : Hp} : KG K md b S H1 H1 := by
  cases md with
  | true => exact Evl.Ex.refl _
  | false => exact Stp.refl
structure SndI (md : Bool) (K : PySem.W.Frag) (wi : TI) (c : Nat) (f : FD) : Prop where
  mono : ∀ (ρ : List Sl) (P P' : List PyData → Prop), (∀ d, P d → P' d) → f ρ P → f ρ P'
  go : ∀ {b : Option Addr} {S : Addr → Prop} {m : Nat} {σ : L2.St} {H : Hp} {ρ : List Sl} {R : It → Hp → Prop} {P : List PyData → Prop}, DEnv K b S m H σ ρ → m + c ≤ LIM → f ρ P →
    (∀ ds J H1, P ds → Stp K b H H1 → BxO b H1 (m + c) → Wk md K b S H1 J ds → R J H1) → wi σ H R
abbrev sq (Q : List PyData → Prop) : PyData → Prop
  | .list ds => Q ds
  | .tuple ds => Q ds
  | _ => False
theorem sq_mono {P P' : List PyData → Prop} (h : ∀ k, P k → P' k) : ∀ d, sq P d → sq P' d := fun d g => by
  cases d <;> first | exact h _ g | exact g.elim
theorem VD.seq {b : Option Addr} {S : Addr → Prop} {H1 : Hp} {Q : List PyData → Prop} {v : V} {d : PyData} (h : VD md K b S H1 v d) (q : sq Q d) (bs : ∀ p, b = some p → S p) :
    ∃ p xs ds, v = .ref p ∧ Q ds ∧ DaL K (rm H1 S) xs ds ∧ ((d = .list ds ∧ ∀ H2, KG K md b S H1 H2 → SqL K H2 p xs) ∨ (d = .tuple ds ∧ ∀ H2, KG K md b S H1 H2 → SqT K H2 p xs)) := by
  have vw := h.vw
  cases d with
  | list ds =>
    cases md with
    | true =>
      cases h with
      | lst h g => exact ⟨_, _, ds, rfl, q, g, .inl ⟨rfl, fun H2 k => .inl (.inl (rm_le _ _ (KG.ex (b := b) k bs _ _ h)))⟩⟩
    | false =>
      cases h with
      | st h =>
        cases h with
        | lst h g => exact ⟨_, _, ds, rfl, q, g, .inl ⟨rfl, fun H2 k => .inl (.inl (rm_le _ _ (KG.ex (b := b) k bs _ _ h)))⟩⟩
      | ow n h g => exact ⟨_, _, ds, rfl, q, g, .inl ⟨rfl, fun H2 k => .inl (.inl (k _ _ n h))⟩⟩
  | tuple ds =>
    have h2 : Da K (rm H1 S) v (.tuple ds) := by
      cases md with
      | true => exact h
      | false =>
        cases h with
        | st h => exact h
    cases h2 with
    | tup h3 g => exact ⟨_, _, ds, rfl, q, g, .inr ⟨rfl, fun H2 k => .inl (.inl (rm_le _ _ (KG.ex (b := b) k bs _ _ h3)))⟩⟩
  | _ => exact q.elim
abbrev fIt (f : FE) : FD := fun ρ Q => f ρ (sq Q)
theorem wk_of {b : Option Addr} {S : Addr → Prop} {H1 : Hp} {J : It} {ds : List PyData} {n : Nat} {G : Hp → Prop} {Y : Nat → Hp → V → Hp → Prop} (w : Walk J n G Y) (hn : n = ds.length) (hG : ∀ H2, KG K md b S H1 H2 → G H2)
    (hY : ∀ i H x H', i < n → Y i H x H' → ∀ T, Evl.Ex (rm H1 S) (rm H T) → Al T H → Evl.Ex H H' ∧ ∃ d, ds[i]? = some d ∧ Da K (rm H' T) x d) : Wk md K b S H1 J ds := by
  subst hn
  exact w.mono hG fun i H x H' hi _ y => hY i H x H' hi y
theorem at_of {S T : Addr → Prop} {H1 H : Hp} {xs : List V} {ds : List PyData} {i : Nat} {x : V} (g : DaL K (rm H1 S) xs ds) (hT : Evl.Ex (rm H1 S) (rm H T)) (e : xs[i]? = some x) : ∃ d, ds[i]? = some d ∧ Da K (rm H T) x d := by
  obtain ⟨d, e1, e2⟩ := g.at' e
  exact ⟨d, e1, e2.mono hT⟩
theorem sndi_seq (a : Snd md K ta ca fa) : SndI md K (Pw.iSeq K ta) ca (fIt fa) := ⟨fun ρ P P' h g => a.mono _ _ _ (sq_mono h) g,
  fun {b S m σ H ρ R P} E hm hf k => a.go E hm hf fun d v H1 p st bx vd => by
    obtain ⟨p1, xs, ds, rfl, q, g, hh⟩ := vd.seq p E.bs
    rcases hh with ⟨_, hL⟩ | ⟨_, hL⟩
    · exact ⟨p1, rfl, .inl ⟨⟨xs, hL _ KG.refl⟩, k ds _ H1 q st bx (wk_of (walk_list (xs := xs)) g.len hL fun i H x H' hi y T hT al => by
        obtain ⟨rfl, e⟩ := y
        exact ⟨Evl.Ex.refl _, at_of g hT e⟩)⟩⟩
    · exact ⟨p1, rfl, .inr ⟨⟨xs, hL _ KG.refl⟩, k ds _ H1 q st bx (wk_of (walk_tup (xs := xs)) g.len hL fun i H x H' hi y T hT al => by
        obtain ⟨rfl, e⟩ := y
        exact ⟨Evl.Ex.refl _, at_of g hT e⟩)⟩⟩⟩
def rangeD (lo : Int) (n : Nat) : List PyData := (List.range n).map fun k => .int (lo + (k : Nat))
abbrev asI (Q : Int → Prop) : PyData → Prop
  | .int i => Q i
  | _ => False
theorem asI_mono {P P' : Int → Prop} (h : ∀ k, P k → P' k) : ∀ d, asI P d → asI P' d := fun d g => by
  cases d <;> first | exact h _ g | exact g.elim
theorem asI_of {b : Option Addr} {S : Addr → Prop} {H : Hp} {Q : Int → Prop} {d : PyData} {v : V} (h : asI Q d) (g : VD md K b S H v d) : ∃ k, v = .int k ∧ Q k := by
  cases d with
  | int k => exact ⟨k, g.vw.int, h⟩
  | _ => exact h.elim
theorem wk_range {b : Option Addr} {S : Addr → Prop} {H1 : Hp} {lo : Int} {n : Nat} : Wk md K b S H1 (Itr lo n) (rangeD lo n) :=
  wk_of (walk_range (lo := lo) (n := n)) (by unfold rangeD; rw [List.length_map, List.length_range]) (fun _ _ => trivial) fun i H x H' hi y T hT al => by
    obtain ⟨rfl, rfl⟩ := y
    refine ⟨Evl.Ex.refl _, .int (lo + (i : Nat)), ?_, .int _⟩
    unfold rangeD
    rw [List.getElem?_map, List.getElem?_range hi]
    rfl
abbrev fRange1 (f : FE) : FD := fun ρ Q => f ρ (asI fun n => (-(2 ^ 62) ≤ n ∧ n < 2 ^ 62) ∧ Q (rangeD 0 n.toNat))
theorem sndi_range1 (a : Snd md K ta ca fa) {md2 : Bool} : SndI md2 K (iRng1 (tCons ta tNil)) ca (fRange1 fa) := ⟨fun ρ P P' h g => a.mono _ _ _ (asI_mono fun n z => ⟨z.1, h _ z.2⟩) g,
  fun {b S m σ H ρ R P} E hm hf k => a.go E hm hf fun d v H1 p st bx vd => by
    obtain ⟨n, rfl, h1, h2⟩ := asI_of p vd
    exact ⟨n, rfl, h1.1, h1.2, k _ _ _ h2 st bx wk_range⟩⟩
abbrev fRange2 (f g : FE) : FD := fun ρ Q => f ρ (asI fun lo => g ρ (asI fun n => (-(2 ^ 62) ≤ lo ∧ lo < 2 ^ 62 ∧ -(2 ^ 62) ≤ n ∧ n < 2 ^ 62) ∧ Q (rangeD lo (n - lo).toNat)))
theorem sndi_range2 (a : Snd md K ta ca fa) (a2 : Snd md K tb cb fb) {md2 : Bool} : SndI md2 K (iRng2 (tCons ta (tCons tb tNil))) (ca + cb) (fRange2 fa fb) := ⟨fun ρ P P' h g => a.mono _ _ _ (asI_mono fun lo => a2.mono _ _ _ (asI_mono fun n z => ⟨z.1, h _ z.2⟩)) g,
  fun {b S m σ H ρ R P} E hm hf k => a.go E (by omega) hf fun d v H1 p st bx vd => by
    obtain ⟨lo, rfl, h1⟩ := asI_of p vd
    refine a2.go (E.step st bx) (by omega) h1 fun d v H2 p st2 bx2 vd2 => ?_
    obtain ⟨n, rfl, h1, h2⟩ := asI_of p vd2
    exact ⟨lo, n, rfl, h1, k _ _ _ h2 (st.trans st2) (bx2.le (by omega)) wk_range⟩⟩
def compD (g : FG) (tt : FT) (te : FE) (ρ : List Sl) : List PyData → List PyData → (List PyData → Prop) → Prop
  | [], acc, Q => Q acc
  | d :: ds, acc, Q => g d ρ fun ρ' => tt ρ' fun k => if k = true then te ρ' fun y => compD g tt te ρ ds (acc ++ [y]) Q else compD g tt te ρ ds acc Q
def wipeD (ρ : List Sl) : List Nat → List Sl
  | [] => ρ
  | v :: vs => (wipeD ρ vs).set v .no
abbrev fYes : FT := fun _ Q => Q true
theorem sndt_yes : SndT K tYes 0 fYes := ⟨fun ρ P P' h g => h _ g, fun E hm hf k => k _ _ hf Stp.refl E.bx⟩
theorem SlR.grow {b : Option Addr} {S T : Addr → Prop} {H H' : Hp} {x : Option (Option V)} {s : Sl} (h : SlR K b S H x s) (e : Evl.Ex (rm H S) (rm H' T)) (sub : ∀ a, S a → T a) (kp : Stp K b H H') : SlR K b T H' x s := by
  cases s with
  | no => trivial
  | dt d => exact let ⟨v, e1, g⟩ := h; ⟨v, e1, g.mono e⟩
  | own ds => exact let ⟨p, vs, e1, s1, n, g, k⟩ := h; ⟨p, vs, e1, sub _ s1, n, kp _ _ n g, k.mono e⟩
  | box => exact h
  | scr ns => exact let ⟨p, e1, g⟩ := h; ⟨p, e1, Evl.ex_l e g⟩
  | op g => exact let ⟨v, e1, g⟩ := h; ⟨v, e1, g.mono e⟩
  | fn k ds => exact let ⟨v, e1, g⟩ := h; ⟨v, e1, g.mono e⟩
  | exc k ds => exact let ⟨v, e1, g⟩ := h; ⟨v, e1, g.mono e⟩
  | dct k => exact let ⟨p, vs, e1, s1, n, g, k⟩ := h; ⟨p, vs, e1, sub _ s1, n, kp _ _ n g, k.mono e⟩
  | dck k => exact let ⟨v, e1, g⟩ := h; ⟨v, e1, g.mono e⟩
  | frt k => exact let ⟨v, e1, g⟩ := h; ⟨v, e1, g.mono e⟩
theorem wipe_at : ∀ {vs : List Nat} {σ : L2.St} {ρ : List Sl} {i : Nat} {s : Sl}, σ.length = ρ.length → (wipeD ρ vs)[i]? = some s → s = .no ∨ (ρ[i]? = some s ∧ (wipe σ vs)[i]? = σ[i]?)
  | [], σ, ρ, i, s, _, h => .inr ⟨h, rfl⟩
  | v :: vs, σ, ρ, i, s, l, h => by
    unfold wipeD at h
    unfold wipe
    rw [List.getElem?_set] at h ⊢
    by_cases e : v = i
    · rw [if_pos e] at h
      split at h
      · cases h
        exact .inl rfl
      · cases h
    · rw [if_neg e] at h ⊢
      exact wipe_at l h
theorem wipeD_len : ∀ {vs : List Nat} {ρ : List Sl}, (wipeD ρ vs).length = ρ.length
  | [], _ => rfl
  | v :: vs, ρ => by unfold wipeD; rw [List.length_set, wipeD_len]
theorem DEnv.wipe {b : Option Addr} {S : Addr → Prop} {m : Nat} {H : Hp} {σ : L2.St} {ρ : List Sl} {vs : List Nat} (E : DEnv K b S m H σ ρ) : DEnv K b S m H (L2.wipe σ vs) (wipeD ρ vs) :=
  ⟨by rw [wipe_length, wipeD_len, E.len], fun i s e => by
    rcases wipe_at E.len e with rfl | ⟨e1, e2⟩
    · trivial
    · rw [e2]
      exact E.sl i s e1, E.bx, E.bs, E.al, E.tb⟩
theorem DEnv.hold {b : Option Addr} {S : Addr → Prop} {m n : Nat} {H H' : Hp} {σ : L2.St} {ρ : List Sl} {D : Addr} (E : DEnv K b S m H σ ρ) (nD : H D = none) (st : Stp K b H H') (bx : BxO b H' n) (hD : ∃ o, H' D = some o ∧ isTp o = false) : DEnv K b (fun a => S a ∨ a = D) n H' σ ρ := by
  have ex : Evl.Ex (rm H S) (rm H' fun a => S a ∨ a = D) := fun a o h => by
    obtain ⟨n1, h1⟩ := rm_some h
    have ne : a ≠ D := fun z => by rw [z, nD] at h1; cases h1
    exact rm_in (fun z => z.elim n1 ne) ((st a o (fun z => n1 (E.bs a z)) h1).eq (rm_nt h)) (rm_nt h)
  exact ⟨E.len, fun i s e => (E.sl i s e).grow ex (fun a h => .inl h) st, bx, fun p e => .inl (E.bs p e), fun a h => by
    rcases h with h | rfl
    · exact E.al.step st bx a h
    · exact hD, E.tb.step E.bx st⟩
theorem stp_new {b : Option Addr} {H H' : Hp} {p : Addr} {o : HO} {xs : List V} (st : Stp K b H H') (np : H p = none) (e : H' p = some (.lst xs)) : Stp K b H (upd H' p o) := fun a u n h =>
  (st a u n h).trans fun u' h' => .lst (ne_of_none h np) h' e
variable {wi : TI} {fi : FD} {ci : Nat} {g : TG} {fg : FG} {vs : List Nat} {tt : TT} {ft : FT} {ct ce : Nat}
theorem compD_mono (hg : ∀ d (ρ : List Sl) (P P' : List Sl → Prop), (∀ d, P d → P' d) → fg d ρ P → fg d ρ P') (t : ∀ (ρ : List Sl) (P P' : Bool → Prop), (∀ d, P d → P' d) → ft ρ P → ft ρ P')
    (e : ∀ (ρ : List Sl) (P P' : PyData → Prop), (∀ d, P d → P' d) → fe ρ P → fe ρ P') {ρ : List Sl} {P P' : List PyData → Prop} (h : ∀ d, P d → P' d) : ∀ (ds acc : List PyData), compD fg ft fe ρ ds acc P → compD fg ft fe ρ ds acc P'
  | [], acc, q => h _ q
  | d :: ds, acc, q => hg _ _ _ _ (fun ρ' => t _ _ _ fun k z => by
      cases k with
      | true => exact e _ _ _ (fun y => compD_mono hg t e h ds _) z
      | false => exact compD_mono hg t e h ds _ z) q
abbrev fComp (N : Nat) (fi : FD) (vs : List Nat) (fg : FG) (ft : FT) (fe : FE) : FD := fun ρ Q => fi ρ fun ds => ds.length ≤ N ∧ compD fg ft fe (wipeD ρ vs) ds [] Q
theorem sndl_comp {N : Nat} (hN : N ≤ 1000000) (i : SndI false K wi ci fi) (hg : SndG K g vs fg) (t : SndT K tt ct ft) (e : Snd true K te ce fe) : SndL K (tLc wi g tt te vs) (ci + N * (ct + ce)) (fComp N fi vs fg ft fe) := by
  refine ⟨fun ρ P P' h q => i.mono _ _ _ (fun ds z => ⟨z.1, compD_mono hg.mono t.mono e.mono h _ _ z.2⟩) q, fun {b S m σ H ρ Q P} E hm hf k => i.go E (by omega) hf fun ds J H1 p st bx wk => ?_⟩
  obtain ⟨hn, hc⟩ := p
  intro D nD
  have E1 := E.step st bx
  have nD0 : H D = none := back st bx nD
  have bD : b ≠ some D := fun z => by
    rw [z] at bx
    obtain ⟨_, _, _, _, _, _, _, _, e2⟩ := bx
    rw [nD] at e2
    cases e2
  refine lc_it (w := wk) (fun j H2 => ∃ (acc : List PyData) (xs : List V), Stp K b H1 H2 ∧ BxO b H2 (m + ci + j * (ct + ce)) ∧ H2 D = some (.lst xs) ∧ xs.length ≤ j ∧ DaL K (rm H2 fun a => S a ∨ a = D) xs acc ∧ compD fg ft fe (wipeD ρ vs) (ds.drop j) acc P)
    ⟨[], [], Stp.ex (Evl.Ex.new nD), (bx.ex (Evl.Ex.new nD)).le (by omega), upd_same, Nat.le_refl _, .nil, hc⟩ (fun j H2 hj pe => ?_) (fun j x H2 H3 hj pe y => ?_) (fun H2 pe => ?_)
  · obtain ⟨acc, xs, s2, _⟩ := pe
    exact s2
  · obtain ⟨acc, xs, s2, b2, hD, hl, hx, hc⟩ := pe
    have al2 : Al (fun a => S a ∨ a = D) H2 := (E1.hold nD s2 b2 ⟨_, hD, rfl⟩).al
    have exT : Evl.Ex (rm H1 S) (rm H2 fun a => S a ∨ a = D) := fun a o h => by
      obtain ⟨n1, h1⟩ := rm_some h
      exact rm_in (fun z => z.elim n1 fun w => by rw [w, nD] at h1; cases h1) ((s2 a o (fun z => n1 (E.bs a z)) h1).eq (rm_nt h)) (rm_nt h)
    obtain ⟨e23, d, ed, hd3⟩ := y _ exT al2
    have nj : (j + 1) * (ct + ce) = j * (ct + ce) + (ct + ce) := by rw [Nat.add_mul, Nat.one_mul]
    have le : (j + 1) * (ct + ce) ≤ N * (ct + ce) := Nat.mul_le_mul_right _ (by omega)
    have ej := List.getElem?_eq_some_iff.mp ed
    rw [List.drop_eq_getElem_cons ej.1, ej.2] at hc
    have s3 : Stp K b H1 H3 := s2.trans (Stp.ex e23)
    have b3 := b2.ex e23
    have hD3 := e23 _ _ hD
    have E3 := E1.hold nD s3 b3 ⟨_, hD3, rfl⟩
    refine hg.go (DEnv.wipe (vs := vs) E3) hd3 hc fun ρ4 σ4 h4 E4 k4 => ⟨?_, ?_⟩
    · rw [k4.sg, wipe_wipe]
    refine t.go E4 (by omega) h4 fun q H5 h5 s5 b5 => ?_
    cases q with
    | true =>
      rw [if_pos rfl] at h5 ⊢
      refine e.go (E4.step s5 b5) (by omega) h5 fun z v H6 h6 s6 b6 d6 => ?_
      have hD6 : H6 D = some (.lst xs) := s6 _ _ bD (s5 _ _ bD hD3)
      have s16 := (s3.trans s5).trans s6
      have hx6 : DaL K (rm H6 fun a => S a ∨ a = D) xs acc := hx.mono (((rm_ex e23).trans (s5.rm E4.bs)).trans (s6.rm E4.bs))
      have out : Evl.Ex (rm H6 fun a => S a ∨ a = D) (rm (upd H6 D (.lst (xs ++ [v]))) fun a => S a ∨ a = D) := rm_mono fun a o n _ h => by
        rw [upd_ne fun z => n (.inr z)]
        exact h
      refine ⟨xs, hD6, Nat.lt_of_le_of_lt (Nat.le_trans hl (by omega)) (show 1000000 < sizeLine by decide), acc ++ [z], xs ++ [v], stp_new s16 nD hD6, ?_, upd_same, ?_, (hx6.app (.cons d6 .nil)).mono out, h6⟩
      · have b7 : BxO b H6 (m + ci + (j + 1) * (ct + ce)) := b6.le (by omega)
        cases b with
        | none => trivial
        | some p =>
          obtain ⟨x1, y1, z1, g1, g2, g3, g4, g5, g6⟩ := b7
          exact ⟨x1, y1, z1, g1, g2, g3, g4, g5, by rw [upd_ne fun z => bD (by rw [z])]; exact g6⟩
      · rw [List.length_append]
        exact Nat.succ_le_succ hl
    | false =>
      rw [if_neg Bool.false_ne_true] at h5 ⊢
      exact ⟨acc, xs, s3.trans s5, b5.le (by omega), s5 _ _ bD hD3, Nat.le_succ_of_le hl, hx.mono ((rm_ex e23).trans (s5.rm E4.bs)), h5⟩
  · obtain ⟨acc, xs, s2, b2, hD, hl, hx, hc⟩ := pe
    rw [List.drop_length] at hc
    have le : ds.length * (ct + ce) ≤ N * (ct + ce) := Nat.mul_le_mul_right _ hn
    exact k acc xs D H2 hc nD0 (st.trans s2) (b2.le (by omega)) hD hx
end
end Dv
namespace Dv
open PySem PySem.Spec PyProof.Rows L2 Xg
open Classical
structure DEnds where
  nx : List Sl → Prop
  rt : PyData → Prop
  rl : List PyData → Prop
  bk : List Sl → Prop := fun _ => False
  ct : List Sl → Prop := fun _ => False
structure DLe (E E' : DEnds) : Prop where
  nx : ∀ ρ, E.nx ρ → E'.nx ρ
  rt : ∀ d, E.rt d → E'.rt d
  rl : ∀ d, E.rl d → E'.rl d
  bk : ∀ ρ, E.bk ρ → E'.bk ρ
  ct : ∀ ρ, E.ct ρ → E'.ct ρ
theorem DLe.refl {E : DEnds} : DLe E E := ⟨fun _ h => h, fun _ h => h, fun _ h => h, fun _ h => h, fun _ h => h⟩
abbrev FS := List Sl → DEnds → Prop
def SO (G : Addr → Prop) (b : Option Addr) (os : Nat → Option Addr) : Addr → Prop := fun a => G a ∨ b = some a ∨ ∃ i, os i = some a
structure Ok (K : PySem.W.Frag) (G : Addr → Prop) (H0 : Hp) (b0 b : Option Addr) (os : Nat → Option Addr) (m : Nat) (H : Hp) (σ : L2.St) (ρ : List Sl) : Prop where
  env : DEnv K b (SO G b os) m H σ ρ
  inj : ∀ i j a, os i = some a → os j = some a → i = j
  new : ∀ i a, os i = some a → H0 a = none
  old : Stp K b0 H0 H
  bn : b = b0 ∨ ∀ p, b = some p → H0 p = none
  obx : BxO b0 H m
  bo : ∀ i a, os i = some a → b ≠ some a
  slo : ∀ (i : Nat) (s : Sl), ρ[i]? = some s → isOw s = true → ∃ p, os i = some p ∧ σ[i]? = some (some (.ref p))
  al0 : Al G H0
  bG : ∀ p, b0 = some p → G p
def Lk (S : Addr → Prop) (H : Hp) (S' : Addr → Prop) (H' : Hp) : Prop := ∀ a o, ¬ S a → isT o = false → H a = some o → H' a = some o ∧ ¬ S' a
theorem Lk.trans {S S1 S2 : Addr → Prop} {H H1 H2 : Hp} (h : Lk S H S1 H1) (g : Lk S1 H1 S2 H2) : Lk S H S2 H2 := fun a o n t e => let ⟨e1, n1⟩ := h a o n t e; g a o n1 t e1
theorem Lk.step {K : PySem.W.Frag} {b : Option Addr} {S : Addr → Prop} {H H' : Hp} (h : Stp K b H H') (bs : ∀ p, b = some p → S p) : Lk S H S H' := fun a o n t e => ⟨(h a o (fun z => n (bs a z)) e).eq t, n⟩
theorem Lk.refl {S : Addr → Prop} {H : Hp} : Lk S H S H := fun a o n _ e => ⟨e, n⟩
theorem Lk.kg {K : PySem.W.Frag} {b : Option Addr} {S S' : Addr → Prop} {H H' : Hp} (h : Lk S H S' H') : KG K true b S H H' := rm_mono fun a o n t e => (h a o n t e).1
section
variable {K : PySem.W.Frag} {G : Addr → Prop} {H0 : Hp} {b0 b : Option Addr} {os : Nat → Option Addr} {m n : Nat} {H H' : Hp} {σ : L2.St} {ρ : List Sl}
theorem Ok.step (h : Ok K G H0 b0 b os m H σ ρ) (st : Stp K b H H') (bx : BxO b H' n) (le : m ≤ n) : Ok K G H0 b0 b os n H' σ ρ := by
  have old : Stp K b0 H0 H' := fun c o n1 e => (h.old c o n1 e).trans fun o' e' => by
    refine st c o' (fun z => ?_) e'
    rcases h.bn with q | q
    · exact n1 (q ▸ z)
    · rw [q c z] at e
      cases e
  refine ⟨h.env.step st bx, h.inj, h.new, old, h.bn, ?_, h.bo, h.slo, h.al0, h.bG⟩
  rcases h.bn with q | q
  · rw [← q]
    exact bx
  · cases b0 with
    | none => trivial
    | some c =>
      obtain ⟨x, y, z, h1, h2, h3, h4, h5, h6⟩ := h.obx
      refine ⟨x, y, z, h1, h2, h3, h4, by omega, st _ _ (fun w => ?_) h6⟩
      exact h.al0.no c (h.bG c rfl) (q c w)
theorem Ok.le (h : Ok K G H0 b0 b os m H σ ρ) (l : m ≤ n) : Ok K G H0 b0 b os n H σ ρ := ⟨h.env.le l, h.inj, h.new, h.old, h.bn, h.obx.le l, h.bo, h.slo, h.al0, h.bG⟩
theorem Ok.kpt {σ' : L2.St} {ρ' : List Sl} {vs : List Nat} (h : Ok K G H0 b0 b os m H σ ρ) (E : DEnv K b (SO G b os) m H σ' ρ') (k : Kpt vs σ σ' ρ ρ') : Ok K G H0 b0 b os m H σ' ρ' :=
  ⟨E, h.inj, h.new, h.old, h.bn, h.obx, h.bo, fun i ds e o => by
    obtain ⟨e1, e2⟩ := k.own i ds e o
    obtain ⟨p, q1, q2⟩ := h.slo i ds e1 o
    exact ⟨p, q1, by rw [e2]; exact q2⟩, h.al0, h.bG⟩
structure Out (K : PySem.W.Frag) (G : Addr → Prop) (H0 : Hp) (b0 : Option Addr) (m : Nat) (H : Hp) : Prop where
  old : Stp K b0 H0 H
  obx : BxO b0 H m
structure Goes (K : PySem.W.Frag) (G : Addr → Prop) (H0 : Hp) (b0 : Option Addr) (m : Nat) (S : Addr → Prop) (H : Hp) (E : DEnds) (D : Ends) : Prop where
  nx : ∀ b os σ' H' ρ', E.nx ρ' → Ok K G H0 b0 b os m H' σ' ρ' → Lk S H (SO G b os) H' → D.nx σ' H'
  rt : ∀ d v H', E.rt d → Out K G H0 b0 m H' → Da K (rm H' G) v d → D.rt v H'
  rl : ∀ ds vs p H', E.rl ds → Out K G H0 b0 m H' → H0 p = none → H' p = some (.lst vs) → DaL K (rm H' fun a => G a ∨ a = p) vs ds → D.rt (.ref p) H'
  bk : ∀ b os σ' H' ρ', E.bk ρ' → Ok K G H0 b0 b os m H' σ' ρ' → Lk S H (SO G b os) H' → D.bk σ' H'
  ct : ∀ b os σ' H' ρ', E.ct ρ' → Ok K G H0 b0 b os m H' σ' ρ' → Lk S H (SO G b os) H' → D.ct σ' H'
theorem Goes.le {S : Addr → Prop} {E : DEnds} {D : Ends} (h : Goes K G H0 b0 n S H E D) (l : m ≤ n) : Goes K G H0 b0 m S H E D :=
  ⟨fun b os σ' H' ρ' e o => h.nx b os σ' H' ρ' e (o.le l), fun d v H' e o => h.rt d v H' e ⟨o.old, o.obx.le l⟩, fun ds vs p H' e o => h.rl ds vs p H' e ⟨o.old, o.obx.le l⟩, fun b os σ' H' ρ' e o => h.bk b os σ' H' ρ' e (o.le l), fun b os σ' H' ρ' e o => h.ct b os σ' H' ρ' e (o.le l)⟩
theorem Goes.from {S S1 : Addr → Prop} {H1 : Hp} {E : DEnds} {D : Ends} (h : Goes K G H0 b0 m S H E D) (l : Lk S H S1 H1) : Goes K G H0 b0 m S1 H1 E D :=
  ⟨fun b os σ' H' ρ' e o k => h.nx b os σ' H' ρ' e o (l.trans k), h.rt, h.rl, fun b os σ' H' ρ' e o k => h.bk b os σ' H' ρ' e o (l.trans k), fun b os σ' H' ρ' e o k => h.ct b os σ' H' ρ' e o (l.trans k)⟩
structure SndS (K : PySem.W.Frag) (t : TS) (c : Nat) (f : FS) : Prop where
  mono : ∀ (ρ : List Sl) (E E' : DEnds), DLe E E' → f ρ E → f ρ E'
  go : ∀ {G : Addr → Prop} {H0 : Hp} {b0 b : Option Addr} {os : Nat → Option Addr} {m : Nat} {H : Hp} {σ : L2.St} {ρ : List Sl} {D : Ends} {E : DEnds}, Ok K G H0 b0 b os m H σ ρ → m + c ≤ LIM → f ρ E →
    Goes K G H0 b0 (m + c) (SO G b os) H E D → t D σ H
theorem SO.g {a : Addr} (h : G a) : SO G b os a := .inl h
variable {t u : TS} {c cu ca ct : Nat} {f g : FS} {ta : TE} {fa : FE} {tt : TT} {ft : FT} {md : Bool}
abbrev sSkip : FS := fun ρ E => E.nx ρ
theorem snds_nil : SndS K tNext 0 sSkip := ⟨fun ρ E E' h q => h.nx _ q, fun ok hm hf k => k.nx _ _ _ _ _ hf ok Lk.refl⟩
abbrev sSeq (f g : FS) : FS := fun ρ E => f ρ { E with nx := fun ρ' => g ρ' E }
theorem snds_seq (a : SndS K t c f) (r : SndS K u cu g) : SndS K (tSeq t u) (c + cu) (sSeq f g) :=
  ⟨fun ρ E E' h q => a.mono ρ { E with nx := fun ρ' => g ρ' E } { E' with nx := fun ρ' => g ρ' E' } ⟨fun ρ' => r.mono _ _ _ h, h.rt, h.rl, h.bk, h.ct⟩ q, fun {G H0 b0 b os m H σ ρ D E} ok hm hf k => a.go ok (by omega) hf
    ⟨fun b1 os1 σ' H' ρ' e o l => r.go o (by omega) e ((k.le (by omega)).from l), fun d v H' e o => k.rt d v H' e ⟨o.old, o.obx.le (by omega)⟩, fun ds vs p H' e o => k.rl ds vs p H' e ⟨o.old, o.obx.le (by omega)⟩,
      fun b os σ' H' ρ' e o => k.bk b os σ' H' ρ' e (o.le (by omega)), fun b os σ' H' ρ' e o => k.ct b os σ' H' ρ' e (o.le (by omega))⟩⟩
abbrev sIf (t : FT) (f g : FS) : FS := fun ρ E => t ρ fun k => if k = true then f ρ E else g ρ E
theorem snds_if (a : SndT K tt ct ft) (x : SndS K t c f) (y : SndS K u cu g) : SndS K (tIfS tt t u) (ct + (c + cu)) (sIf ft f g) :=
  ⟨fun ρ E E' h q => a.mono _ _ _ (fun k z => by
      cases k with
      | true => exact x.mono _ _ _ h z
      | false => exact y.mono _ _ _ h z) q,
   fun ok hm hf k => a.go ok.env (by omega) hf fun q H1 p st bx => by
    have ok1 := ok.step st bx (by omega)
    have l := Lk.step st ok.env.bs
    cases q with
    | true => exact x.go ok1 (by omega) p ((k.le (by omega)).from l)
    | false => exact y.go ok1 (by omega) p ((k.le (by omega)).from l)⟩
abbrev sRet (f : FE) : FS := fun ρ E => f ρ E.rt
theorem Ok.out (h : Ok K G H0 b0 b os m H σ ρ) : Out K G H0 b0 m H := ⟨h.old, h.obx⟩
theorem snds_ret (a : Snd true K ta ca fa) : SndS K (tRet ta) ca (sRet fa) :=
  ⟨fun ρ E E' h q => a.mono _ _ _ h.rt q, fun ok hm hf k => a.go ok.env hm hf fun d v H' p st bx vd => k.rt d v H' p (ok.step st bx (by omega)).out (Da.mono (rm_sub fun a => SO.g) vd)⟩
abbrev sRetL (f : FD) : FS := fun ρ E => f ρ E.rl
theorem snds_retL {fl : FD} (a : SndL K ta ca fl) : SndS K (tRet ta) ca (sRetL fl) :=
  ⟨fun ρ E E' h q => a.mono _ _ _ h.rl q, fun ok hm hf k => a.go ok.env hm hf fun ds vs p H' h n st bx e g => k.rl ds vs p H' h (ok.step st bx (by omega)).out (back ok.old ok.obx n) e (g.mono (rm_sub fun a z => z.imp_left SO.g))⟩
abbrev sRetO (i : Nat) : FS := fun ρ E => match ρ[i]? with
  | some (.own ds) => E.rl ds
  | _ => False
theorem snds_retO {i : Nat} : SndS K (tRet (tVar i)) 0 (sRetO i) :=
  ⟨fun ρ E E' h q => by
      unfold sRetO at q ⊢
      split at q
      · exact h.rl _ q
      · exact q.elim,
   fun {G H0 b0 b os m H σ ρ D E} ok hm hf k => by
      unfold sRetO at hf
      split at hf
      · rename_i ds e
        obtain ⟨p, vs, e1, e2, e3, e4, e5⟩ := ok.env.sl i _ e
        obtain ⟨p', q1, q2⟩ := ok.slo i _ e rfl
        rw [e1] at q2
        cases q2
        refine ⟨_, e1, k.rl ds vs p H hf ok.out (ok.new _ _ q1) e4 (e5.mono (rm_sub fun a z => ?_))⟩
        rcases z with z | rfl
        · exact SO.g z
        · exact e2
      · exact hf.elim⟩
variable {tg : TG} {fg : FG} {vs : List Nat}
abbrev sAsg (f : FE) (g : FG) : FS := fun ρ E => f ρ fun d => g d ρ E.nx
theorem snds_asg (a : Snd true K ta ca fa) (hg : SndG K tg vs fg) : SndS K (tAsg ta tg) ca (sAsg fa fg) :=
  ⟨fun ρ E E' h q => a.mono _ _ _ (fun d => hg.mono _ _ _ _ h.nx) q, fun ok hm hf k => a.go ok.env hm hf fun d v H' p st bx vd => by
    have ok1 := ok.step st bx (by omega)
    exact hg.go ok1.env vd p fun ρ' σ' q E1 kp => k.nx _ _ _ _ _ q (ok1.kpt E1 kp) (Lk.step st ok.env.bs)⟩
abbrev sOwn (f : FD) (i : Nat) : FS := fun ρ E => f ρ fun ds => E.nx (ρ.set i (.own ds))
def osSet (os : Nat → Option Addr) (i : Nat) (p : Addr) : Nat → Option Addr := fun j => if j = i then some p else os j
theorem os_at {i : Nat} {p : Addr} {j : Nat} {a : Addr} (h : osSet os i p j = some a) : (j = i ∧ a = p) ∨ (j ≠ i ∧ os j = some a) := by
  unfold osSet at h
  split at h
  · cases h
    exact .inl ⟨by assumption, rfl⟩
  · exact .inr ⟨by assumption, h⟩
theorem Ok.own {i : Nat} {p : Addr} {ds : List PyData} {xs : List V} (ok : Ok K G H0 b0 b os m H σ ρ) (np : H p = none) (st : Stp K b H H') (bx : BxO b H' n) (le : m ≤ n) (e : H' p = some (.lst xs)) (hd : DaL K (rm H' fun a => SO G b os a ∨ a = p) xs ds) :
    Ok K G H0 b0 b (osSet os i p) n H' (σ.set i (some (.ref p))) (ρ.set i (.own ds)) ∧ Lk (SO G b os) H (SO G b (osSet os i p)) H' := by
  have ok1 := ok.step st bx le
  have nS : ¬ SO G b os p := ok.env.al.new np
  have n0 : H0 p = none := back ok.old ok.obx np
  have sub : ∀ a, SO G b (osSet os i p) a → SO G b os a ∨ a = p := fun a h => by
    rcases h with h | h | ⟨j, h⟩
    · exact .inl (.inl h)
    · exact .inl (.inr (.inl h))
    · rcases os_at h with ⟨_, rfl⟩ | ⟨_, h⟩
      · exact .inr rfl
      · exact .inl (.inr (.inr ⟨j, h⟩))
  have Sp : SO G b (osSet os i p) p := .inr (.inr ⟨i, by unfold osSet; rw [if_pos rfl]⟩)
  have bp : b ≠ some p := fun z => nS (.inr (.inl z))
  have lk : Lk (SO G b os) H (SO G b (osSet os i p)) H' := fun a o n1 t h => ⟨(st a o (fun z => n1 (.inr (.inl z))) h).eq t, fun z => (sub a z).elim n1 fun w => by rw [w, np] at h; cases h⟩
  have ex : Evl.Ex (rm H (SO G b os)) (rm H' (SO G b (osSet os i p))) := fun a o h => by
    obtain ⟨n1, h1⟩ := rm_some h
    obtain ⟨g1, g2⟩ := lk a o n1 (rm_nt h) h1
    exact rm_in g2 g1 (rm_nt h)
  refine ⟨⟨⟨?_, fun j s h => ?_, bx, fun q h => .inr (.inl h), fun a h => ?_, ok1.env.tb⟩, fun j k a h1 h2 => ?_, fun j a h => ?_, ok1.old, ok.bn, ok1.obx, fun j a h => ?_, fun j es h ow => ?_, ok.al0, ok.bG⟩, lk⟩
  · rw [List.length_set, List.length_set]
    exact ok.env.len
  · rw [List.getElem?_set] at h ⊢
    by_cases z : i = j
    · rw [if_pos z] at h ⊢
      rw [ok.env.len]
      split at h
      · rename_i l
        cases h
        rw [if_pos l]
        exact ⟨p, xs, rfl, Sp, bp, e, hd.mono (rm_sub sub)⟩
      · cases h
    · rw [if_neg z] at h ⊢
      have q := ok.env.sl j s h
      cases s with
      | no => trivial
      | dt d => exact let ⟨v, e1, g⟩ := q; ⟨v, e1, g.mono ex⟩
      | own es =>
        obtain ⟨p1, ws, e1, s1, n1, g1, k1⟩ := q
        obtain ⟨p2, q1, q2⟩ := ok.slo j _ h rfl
        rw [e1] at q2
        cases q2
        refine ⟨p1, ws, e1, .inr (.inr ⟨j, ?_⟩), n1, st _ _ n1 g1, k1.mono ex⟩
        unfold osSet
        rw [if_neg fun w => z w.symm]
        exact q1
      | box => exact q
      | scr ns => exact let ⟨v, e1, g⟩ := q; ⟨v, e1, Evl.ex_l ex g⟩
      | op g => exact let ⟨v, e1, g⟩ := q; ⟨v, e1, g.mono ex⟩
      | fn k ds => exact let ⟨v, e1, g⟩ := q; ⟨v, e1, g.mono ex⟩
      | exc k ds => exact let ⟨v, e1, g⟩ := q; ⟨v, e1, g.mono ex⟩
      | dct ts =>
        obtain ⟨p1, ws, e1, s1, n1, g1, k1⟩ := q
        obtain ⟨p2, q1, q2⟩ := ok.slo j _ h rfl
        rw [e1] at q2
        cases q2
        refine ⟨p1, ws, e1, .inr (.inr ⟨j, ?_⟩), n1, st _ _ n1 g1, k1.mono ex⟩
        unfold osSet
        rw [if_neg fun w => z w.symm]
        exact q1
      | dck k => exact let ⟨v, e1, g⟩ := q; ⟨v, e1, g.mono ex⟩
      | frt k => exact let ⟨v, e1, g⟩ := q; ⟨v, e1, g.mono ex⟩
  · rcases sub a h with h | rfl
    · exact ok1.env.al a h
    · exact ⟨_, e, rfl⟩
  · rcases os_at h1 with ⟨r1, rfl⟩ | ⟨r1, w1⟩ <;> rcases os_at h2 with ⟨r2, q2⟩ | ⟨r2, w2⟩
    · rw [r1, r2]
    · exact absurd (Or.inr (Or.inr ⟨_, w2⟩)) nS
    · subst q2
      exact absurd (Or.inr (Or.inr ⟨_, w1⟩)) nS
    · exact ok.inj _ _ _ w1 w2
  · rcases os_at h with ⟨_, rfl⟩ | ⟨_, h⟩
    · exact n0
    · exact ok.new _ _ h
  · rcases os_at h with ⟨_, rfl⟩ | ⟨_, h⟩
    · exact bp
    · exact ok.bo _ _ h
  · rw [List.getElem?_set] at h ⊢
    by_cases z : i = j
    · rw [if_pos z] at h ⊢
      rw [ok.env.len]
      split at h
      · rename_i l
        rw [if_pos l]
        exact ⟨p, by unfold osSet; rw [if_pos z.symm], rfl⟩
      · cases h
    · rw [if_neg z] at h ⊢
      obtain ⟨p2, q1, q2⟩ := ok.slo j _ h ow
      refine ⟨p2, ?_, q2⟩
      unfold osSet
      rw [if_neg fun w => z w.symm]
      exact q1
theorem snds_own {fl : FD} {i : Nat} (a : SndL K ta ca fl) : SndS K (tAsg ta (gName i)) ca (sOwn fl i) :=
  ⟨fun ρ E E' h q => a.mono _ _ _ (fun d => h.nx _) q, fun ok hm hf k => a.go ok.env hm hf fun ds xs p H' h np st bx e g => by
    obtain ⟨o, l⟩ := ok.own (i := i) np st bx (by omega) e g
    exact k.nx _ _ _ _ _ h o l⟩
theorem Ok.mut {i : Nat} {ds es : List PyData} {p : Addr} {ys : List V} (ok : Ok K G H0 b0 b os m H σ ρ) (hi : ρ[i]? = some (.own ds)) (hp : σ[i]? = some (some (.ref p))) (hy : DaL K (rm H (SO G b os)) ys es) :
    Ok K G H0 b0 b os m (upd H p (.lst ys)) σ (ρ.set i (.own es)) ∧ Lk (SO G b os) H (SO G b os) (upd H p (.lst ys)) := by
  obtain ⟨p1, ws, e1, s1, n1, g1, k1⟩ := ok.env.sl i _ hi
  rw [hp] at e1
  cases e1
  obtain ⟨p2, q1, q2⟩ := ok.slo i _ hi rfl
  rw [hp] at q2
  cases q2
  have ex : Evl.Ex (rm H (SO G b os)) (rm (upd H p (.lst ys)) (SO G b os)) := rm_mono fun a o n _ h => by
    rw [upd_ne fun z => n (by rw [z]; exact s1)]
    exact h
  have n0 := ok.new _ _ q1
  have bxu : ∀ {c : Option Addr} {k : Nat}, c ≠ some p → BxO c H k → BxO c (upd H p (.lst ys)) k := fun {c k} hc h => by
    cases c with
    | none => trivial
    | some c =>
      obtain ⟨x, y, z, h1, h2, h3, h4, h5, h6⟩ := h
      exact ⟨x, y, z, h1, h2, h3, h4, h5, by rw [upd_ne fun w => hc (by rw [w])]; exact h6⟩
  refine ⟨⟨⟨by rw [List.length_set]; exact ok.env.len, fun j s h => ?_, bxu n1 ok.env.bx, ok.env.bs, fun a h => ?_, ok.env.tb.lst g1⟩, ok.inj, ok.new, stp_new ok.old n0 g1, ok.bn, bxu (fun z => ?_) ok.obx, ok.bo, fun j ts h ow => ?_, ok.al0, ok.bG⟩, fun a o n _ h => ⟨?_, n⟩⟩
  · rw [List.getElem?_set] at h
    by_cases z : i = j
    · subst z
      rw [if_pos rfl] at h
      split at h
      · cases h
        exact ⟨p, ys, hp, s1, n1, upd_same, hy.mono ex⟩
      · cases h
    · rw [if_neg z] at h
      have q := ok.env.sl j s h
      cases s with
      | no => trivial
      | dt d => exact let ⟨v, e1, g⟩ := q; ⟨v, e1, g.mono ex⟩
      | own ts =>
        obtain ⟨p3, us, e3, s3, n3, g3, k3⟩ := q
        obtain ⟨p4, r1, r2⟩ := ok.slo j _ h rfl
        rw [e3] at r2
        cases r2
        refine ⟨p3, us, e3, s3, n3, ?_, k3.mono ex⟩
        rw [upd_ne fun w => z (ok.inj _ _ _ q1 (by rw [← w]; exact r1))]
        exact g3
      | box => exact q
      | scr ns => exact let ⟨v, e1, g⟩ := q; ⟨v, e1, Evl.ex_l ex g⟩
      | op g => exact let ⟨v, e1, g⟩ := q; ⟨v, e1, g.mono ex⟩
      | fn k ds => exact let ⟨v, e1, g⟩ := q; ⟨v, e1, g.mono ex⟩
      | exc k ds => exact let ⟨v, e1, g⟩ := q; ⟨v, e1, g.mono ex⟩
      | dct ts =>
        obtain ⟨p3, us, e3, s3, n3, g3, k3⟩ := q
        obtain ⟨p4, r1, r2⟩ := ok.slo j _ h rfl
        rw [e3] at r2
        cases r2
        refine ⟨p3, us, e3, s3, n3, ?_, k3.mono ex⟩
        rw [upd_ne fun w => z (ok.inj _ _ _ q1 (by rw [← w]; exact r1))]
        exact g3
      | dck k => exact let ⟨v, e1, g⟩ := q; ⟨v, e1, g.mono ex⟩
      | frt k => exact let ⟨v, e1, g⟩ := q; ⟨v, e1, g.mono ex⟩
  · by_cases z : a = p
    · rw [z]
      exact ⟨_, upd_same, rfl⟩
    · rw [upd_ne z]
      exact ok.env.al a h
  · exact ok.al0.no _ (ok.bG _ z) n0
  · rw [List.getElem?_set] at h
    by_cases z : i = j
    · subst z
      exact ⟨p, q1, hp⟩
    · rw [if_neg z] at h
      exact ok.slo j _ h ow
  · rw [upd_ne fun z => n (by rw [z]; exact s1)]
    exact h
abbrev ownQ (ρ : List Sl) (i : Nat) (Q : List PyData → Prop) : Prop := match ρ[i]? with
  | some (.own ds) => Q ds
  | _ => False
theorem ownQ_of {i : Nat} {Q : List PyData → Prop} (h : ownQ ρ i Q) : ∃ ds, ρ[i]? = some (.own ds) ∧ Q ds := by
  unfold ownQ at h
  split at h
  · exact ⟨_, by assumption, h⟩
  · exact h.elim
theorem ownQ_mono {i : Nat} {Q Q' : List PyData → Prop} (h : ∀ ds, Q ds → Q' ds) (q : ownQ ρ i Q) : ownQ ρ i Q' := by
  unfold ownQ at q ⊢
  split at q
  · exact h _ q
  · exact q.elim
abbrev sApp (i : Nat) (f : FE) : FS := fun ρ E => ownQ ρ i fun ds => f ρ fun d => ds.length < 1000000 ∧ E.nx (ρ.set i (.own (ds ++ [d])))
theorem snds_app {i : Nat} (a : Snd true K ta ca fa) : SndS K (tDrop (tBM K "list" rAppend (tVar i) (tCons ta tNil))) ca (sApp i fa) :=
  ⟨fun ρ E E' h q => ownQ_mono (fun ds => a.mono _ _ _ fun d z => ⟨z.1, h.nx _ z.2⟩) q, fun ok hm hf k => by
    obtain ⟨ds, e, hf⟩ := ownQ_of hf
    obtain ⟨p, xs, e1, e2, e3, e4, e5⟩ := ok.env.sl i _ e
    refine ⟨.ref p, e1, .inl ⟨rfl, xs, .inl (.inl e4)⟩, a.go ok.env hm hf fun d v H' q st bx vd => ⟨p, xs, v, rfl, rfl, st _ _ e3 e4, ?_, ?_⟩⟩
    · rw [e5.len]
      exact Nat.lt_trans q.1 (by decide)
    · have ok1 := ok.step st bx (by omega)
      obtain ⟨o, l⟩ := ok1.mut e e1 ((e5.mono (st.rm ok.env.bs)).app (.cons vd .nil))
      exact k.nx _ _ _ _ _ q.2 o ((Lk.step st ok.env.bs).trans l)⟩
abbrev sPut (i : Nat) (fi fe : FE) : FS := fun ρ E => fe ρ fun d => ownQ ρ i fun ds => fi ρ (asI fun k => ∃ j, ixN ds.length k = some j ∧ E.nx (ρ.set i (.own (ds.set j d))))
theorem snds_put {i : Nat} {ti : TE} {ci : Nat} {fi : FE} (a : Snd true K ta ca fa) (x : Snd md K ti ci fi) : SndS K (tAsg ta (gSub (tVar i) ti rSetL)) (ca + ci) (sPut i fi fa) :=
  ⟨fun ρ E E' h q => a.mono _ _ _ (fun d => ownQ_mono fun ds => x.mono _ _ _ (asI_mono fun n ⟨j, z1, z2⟩ => ⟨j, z1, h.nx _ z2⟩)) q, fun ok hm hf k => a.go ok.env (by omega) hf fun d v H1 q st bx vd => by
    obtain ⟨ds, e, hf⟩ := ownQ_of q
    have ok1 := ok.step st bx (by omega)
    obtain ⟨p, xs, e1, e2, e3, e4, e5⟩ := ok1.env.sl i _ e
    refine ⟨.ref p, e1, x.go ok1.env (by omega) hf fun dj vj H2 q2 st2 bx2 vd2 => ?_⟩
    obtain ⟨n, rfl, j, hj, q3⟩ := asI_of q2 vd2
    refine ⟨p, xs, n, j, rfl, rfl, st2 _ _ e3 e4, by rw [e5.len]; exact hj, ?_⟩
    have ok2 := ok1.step st2 bx2 (by omega)
    obtain ⟨o, l⟩ := ok2.mut e e1 ((e5.mono (st2.rm ok.env.bs)).set_ j (Da.mono (st2.rm ok.env.bs) vd))
    exact k.nx _ _ _ _ _ q3 (o.le (by omega)) (((Lk.step st ok.env.bs).trans (Lk.step st2 ok.env.bs)).trans l)⟩
abbrev sMeth (i : Nat) (g : List PyData → List PyData) : FS := fun ρ E => ownQ ρ i fun ds => E.nx (ρ.set i (.own (g ds)))
theorem snds_rev {i : Nat} : SndS K (tDrop (tBM0 K "list" rReverse (tVar i))) 0 (sMeth i List.reverse) :=
  ⟨fun ρ E E' h q => ownQ_mono (fun ds => h.nx _) q, fun ok hm hf k => by
    obtain ⟨ds, e, hf⟩ := ownQ_of hf
    obtain ⟨p, xs, e1, e2, e3, e4, e5⟩ := ok.env.sl i _ e
    obtain ⟨o, l⟩ := ok.mut e e1 e5.rev
    exact ⟨.ref p, e1, .inl ⟨rfl, xs, .inl (.inl e4)⟩, p, xs, rfl, rfl, e4, k.nx _ _ _ _ _ hf o l⟩⟩
def forD (g : FG) (f : FS) : List PyData → List Sl → DEnds → Prop
  | [], ρ, E => E.nx ρ
  | d :: ds, ρ, E => g d ρ fun ρ1 => f ρ1 { E with nx := fun ρ2 => forD g f ds ρ2 E, ct := fun ρ2 => forD g f ds ρ2 E, bk := E.nx }
abbrev sFor (N : Nat) (fi : FD) (fg : FG) (f : FS) : FS := fun ρ E => fi ρ fun ds => ds.length ≤ N ∧ forD fg f ds ρ E
theorem forD_mono (hg : ∀ d (ρ : List Sl) (P P' : List Sl → Prop), (∀ d, P d → P' d) → fg d ρ P → fg d ρ P') (hf : ∀ (ρ : List Sl) (E E' : DEnds), DLe E E' → f ρ E → f ρ E') {E E' : DEnds} (h : DLe E E') : ∀ (ds : List PyData) (ρ : List Sl), forD fg f ds ρ E → forD fg f ds ρ E'
  | [], ρ, q => h.nx _ q
  | d :: ds, ρ, q => hg _ _ _ _ (fun ρ1 => hf ρ1 { E with nx := fun ρ2 => forD fg f ds ρ2 E, ct := fun ρ2 => forD fg f ds ρ2 E, bk := E.nx } { E' with nx := fun ρ2 => forD fg f ds ρ2 E', ct := fun ρ2 => forD fg f ds ρ2 E', bk := E'.nx } ⟨fun ρ2 => forD_mono hg hf h ds ρ2, h.rt, h.rl, h.nx, fun ρ2 => forD_mono hg hf h ds ρ2⟩) q
theorem snds_for {wi : TI} {ci N : Nat} {fi : FD} (i : SndI true K wi ci fi) (hg : SndG K tg vs fg) (a : SndS K t c f) : SndS K (tFor wi tg t) (ci + N * c) (sFor N fi fg f) := by
  refine ⟨fun ρ E E' h q => i.mono _ _ _ (fun ds z => ⟨z.1, forD_mono hg.mono a.mono h _ _ z.2⟩) q, fun {G H0 b0 b os m H σ ρ D E} ok hm hf k => i.go ok.env (by omega) hf fun ds J H1 p st bx wk => ?_⟩
  obtain ⟨hn, hc⟩ := p
  have ok1 := ok.step st bx (by omega)
  have bs := ok.env.bs
  have lk0 := Lk.step st bs
  refine for_it (w := wk) (fun j σ2 H2 => ∃ b2 os2 ρ2, Ok K G H0 b0 b2 os2 (m + ci + j * c) H2 σ2 ρ2 ∧ Lk (SO G b os) H1 (SO G b2 os2) H2 ∧ forD fg f (ds.drop j) ρ2 E)
    ⟨b, os, ρ, ok1.le (by omega), Lk.refl, hc⟩ (fun j σ2 H2 hj pe => ?_) (fun j x σ2 H2 H3 hj pe y => ?_) (fun σ2 H2 pe => ?_)
  · obtain ⟨b2, os2, ρ2, o2, l2, h2⟩ := pe
    exact l2.kg
  · obtain ⟨b2, os2, ρ2, o2, l2, h2⟩ := pe
    have nj : (j + 1) * c = j * c + c := by rw [Nat.add_mul, Nat.one_mul]
    have le : (j + 1) * c ≤ N * c := Nat.mul_le_mul_right _ (by omega)
    have exT : Evl.Ex (rm H1 (SO G b os)) (rm H2 (SO G b2 os2)) := fun a o h => by
      obtain ⟨n1, h1⟩ := rm_some h
      obtain ⟨g1, g2⟩ := l2 a o n1 (rm_nt h) h1
      exact rm_in g2 g1 (rm_nt h)
    obtain ⟨e23, d, ed, hd⟩ := y _ exT o2.env.al
    have ej := List.getElem?_eq_some_iff.mp ed
    rw [List.drop_eq_getElem_cons ej.1, ej.2] at h2
    have o3 := o2.step (Stp.ex e23) (o2.env.bx.ex e23) (Nat.le_refl _)
    have l3 : Lk (SO G b os) H1 (SO G b2 os2) H3 := l2.trans (Lk.step (Stp.ex (K := K) e23) o2.env.bs)
    refine hg.go o3.env hd h2 fun ρ4 σ4 h4 E4 k4 => ?_
    refine a.go (o3.kpt E4 k4) (by omega) h4 ⟨fun b5 os5 σ5 H5 ρ5 q o l => ⟨b5, os5, ρ5, o.le (by omega), l3.trans l, q⟩, fun d v H5 q o => k.rt d v H5 q ⟨o.old, o.obx.le (by omega)⟩, fun ds vs p H5 q o => k.rl ds vs p H5 q ⟨o.old, o.obx.le (by omega)⟩,
      fun b5 os5 σ5 H5 ρ5 q o l => k.nx b5 os5 σ5 H5 ρ5 q (o.le (by omega)) ((lk0.trans l3).trans l), fun b5 os5 σ5 H5 ρ5 q o l => ⟨b5, os5, ρ5, o.le (by omega), l3.trans l, q⟩⟩
  · obtain ⟨b2, os2, ρ2, o2, l2, h2⟩ := pe
    rw [List.drop_length] at h2
    have le : ds.length * c ≤ N * c := Nat.mul_le_mul_right _ hn
    exact k.nx _ _ _ _ _ h2 (o2.le (by omega)) (lk0.trans l2)
def sWhile (ft : FT) (f : FS) : FS := fun ρ E => ∃ W : Nat → List Sl → Prop, (∃ n, W n ρ) ∧ ∀ n ρ, W n ρ → ft ρ fun k => if k = true then f ρ { E with nx := fun ρ' => ∃ n', n' < n ∧ W n' ρ', ct := fun ρ' => ∃ n', n' < n ∧ W n' ρ', bk := E.nx } else E.nx ρ
theorem snds_while (x : SndT K tt 0 ft) (a : SndS K t 0 f) : SndS K (tWhile tt t) 0 (sWhile ft f) :=
  ⟨fun ρ E E' h q => by
    obtain ⟨W, w0, turn⟩ := q
    refine ⟨W, w0, fun n ρ w => x.mono _ _ _ (fun k z => ?_) (turn n ρ w)⟩
    cases k with
    | true => exact a.mono ρ { E with nx := fun ρ' => ∃ n', n' < n ∧ W n' ρ', ct := fun ρ' => ∃ n', n' < n ∧ W n' ρ', bk := E.nx } { E' with nx := fun ρ' => ∃ n', n' < n ∧ W n' ρ', ct := fun ρ' => ∃ n', n' < n ∧ W n' ρ', bk := E'.nx } ⟨fun _ h => h, h.rt, h.rl, h.nx, fun _ h => h⟩ z
    | false => exact h.nx _ z,
  fun {G H0 b0 b os m H σ ρ D E} ok hm hf k => by
    obtain ⟨W, ⟨n0, w0⟩, turn⟩ := hf
    refine ⟨fun n σ2 H2 => ∃ b2 os2 ρ2, Ok K G H0 b0 b2 os2 m H2 σ2 ρ2 ∧ Lk (SO G b os) H (SO G b2 os2) H2 ∧ W n ρ2, ⟨n0, b, os, ρ, ok, Lk.refl, w0⟩, fun n σ2 H2 pe => ?_⟩
    obtain ⟨b2, os2, ρ2, o2, l2, w2⟩ := pe
    refine x.go o2.env hm (turn n ρ2 w2) fun q H3 p st bx => ?_
    have o3 := o2.step st bx (Nat.le_refl _)
    have l3 := l2.trans (Lk.step st o2.env.bs)
    cases q with
    | true =>
      rw [if_pos rfl] at p ⊢
      refine ⟨fun σ5 H5 => ∃ b5 os5 ρ5, Ok K G H0 b0 b5 os5 m H5 σ5 ρ5 ∧ Lk (SO G b os) H (SO G b5 os5) H5 ∧ ∃ n', n' < n ∧ W n' ρ5, fun σ5 H5 z => ?_, a.go o3 hm p ⟨fun b5 os5 σ5 H5 ρ5 q o l => ⟨b5, os5, ρ5, o, l3.trans l, q⟩, k.rt, k.rl,
        fun b5 os5 σ5 H5 ρ5 q o l => k.nx b5 os5 σ5 H5 ρ5 q o (l3.trans l), fun b5 os5 σ5 H5 ρ5 q o l => ⟨b5, os5, ρ5, o, l3.trans l, q⟩⟩⟩
      obtain ⟨b5, os5, ρ5, o5, l5, n', ln, w5⟩ := z
      exact ⟨n', ln, b5, os5, ρ5, o5, l5, w5⟩
    | false =>
      rw [if_neg Bool.false_ne_true] at p ⊢
      exact k.nx _ _ _ _ _ p o3 l3⟩
end
end Dv
namespace Dv
open PySem PySem.Spec PyProof.Rows L2 Xg
open Classical
section
variable {K : PySem.W.Frag} {md : Bool} {ta tb te : TE} {ca cb c n : Nat} {fa fb fe : FE} {tr : TA} {fd : FD} {cr : Nat}
abbrev GB := PyData → PyData → (PyData → Prop) → Prop
theorem Vw.tup' {b : Option Addr} {S : Addr → Prop} {H : Hp} {v : V} {ds : List PyData} (h : Vw K b S H v (.tuple ds)) : Da K (rm H S) v (.tuple ds) := by
  cases h with
  | st h => exact h
abbrev gI (g : Int → Int → Int) : GB
  | .int i, .int j, Q => Q (.int (g i j))
  | _, _, _ => False
abbrev gIc (C : Int → Int → Prop) (g : Int → Int → Int) : GB
  | .int i, .int j, Q => C i j ∧ Q (.int (g i j))
  | _, _, _ => False
theorem ops_I {g : Int → Int → Int} : OpSnd K (rI0 fun i j => .int (g i j)) (gI g) :=
  ⟨fun x y P P' h q => by
    cases x <;> cases y <;> first | exact h _ q | exact q.elim, fun {b S H x y dx dy Q P} al hx hy q k => by
    cases dx <;> cases dy <;> first | exact q.elim | skip
    rw [hx.int, hy.int]
    exact ⟨_, _, rfl, rfl, k _ _ _ q (Evl.Ex.refl _) (.int _)⟩⟩
theorem ops_Ic {C : Int → Int → Prop} {g : Int → Int → Int} : OpSnd K (rI C fun i j => .int (g i j)) (gIc C g) :=
  ⟨fun x y P P' h q => by
    cases x <;> cases y <;> first | exact ⟨q.1, h _ q.2⟩ | exact q.elim, fun {b S H x y dx dy Q P} al hx hy q k => by
    cases dx <;> cases dy <;> first | exact q.elim | skip
    rw [hx.int, hy.int]
    exact ⟨_, _, rfl, rfl, q.1, k _ _ _ q.2 (Evl.Ex.refl _) (.int _)⟩⟩
abbrev gAdd : GB
  | .int i, .int j, Q => Q (.int (i + j))
  | .list a, .list b, Q => a.length + b.length ≤ 1000000 ∧ Q (.list (a ++ b))
  | .tuple a, .tuple b, Q => a.length + b.length ≤ 1000000 ∧ Q (.tuple (a ++ b))
  | _, _, _ => False
theorem sz6 {n : Nat} (h : n ≤ 1000000) : n ≤ sizeLine := Nat.le_trans h (by decide)
abbrev rAdd (K : PySem.W.Frag) : R2 := fun x y H Q => rI0 (fun i j => .int (i + j)) x y H Q ∨ (rCat x y H Q ∨ rCatA K x y H Q)
theorem op_addX {X : Cx} : OpR X (binaryOp .Add) (rAdd X.K) := Xg.op_or op_add (Xg.op_or op_cat op_catA)
theorem ops_add : OpSnd K (rAdd K) gAdd :=
  ⟨fun x y P P' h q => by
    cases x <;> cases y <;> first | exact h _ q | exact ⟨q.1, h _ q.2⟩ | exact q.elim, fun {b S H x y dx dy Q P} al hx hy q k => by
    cases dx <;> cases dy <;> first | exact q.elim | skip
    · rw [hx.int, hy.int]
      exact .inl ⟨_, _, rfl, rfl, k _ _ _ q (Evl.Ex.refl _) (.int _)⟩
    · obtain ⟨p1, v1, rfl, e1, g1⟩ := hx.list
      obtain ⟨p2, v2, rfl, e2, g2⟩ := hy.list
      exact .inr (.inl ⟨_, _, _, _, rfl, rfl, e1, e2, by rw [g1.len, g2.len]; exact sz6 q.1, fun p np => k _ _ _ q.2 (Evl.Ex.new np) (new_lst al np (g1.app g2))⟩)
    · obtain ⟨p1, v1, rfl, e1, g1⟩ := hx.tuple
      obtain ⟨p2, v2, rfl, e2, g2⟩ := hy.tuple
      have t1 := hx.tup'
      have t2 := hy.tup'
      refine .inr (.inr ⟨_, _, _, _, rfl, rfl, e1, e2, by rw [g1.len, g2.len]; exact sz6 q.1, fun z => ?_, fun z w => ?_, fun z w p np => k _ _ _ q.2 (Evl.Ex.new np) (new_tup al np (g1.app g2))⟩)
      · subst z
        cases g1
        exact k _ _ _ q.2 (Evl.Ex.refl _) t2
      · subst w
        cases g2
        refine k _ _ _ q.2 (Evl.Ex.refl _) ?_
        rw [List.append_nil]
        exact t1⟩
def rep (k : Int) (xs : List PyData) : List PyData := (List.replicate k.toNat xs).flatten
abbrev gMul : GB
  | .int i, .int j, Q => CMul i j ∧ Q (.int (i * j))
  | .list a, .int k, Q => (-(2 ^ 63) ≤ k ∧ k < 2 ^ 63 ∧ a.length * k.toNat ≤ 1000000) ∧ Q (.list (rep k a))
  | .tuple a, .int k, Q => (a ≠ [] ∧ 0 ≤ k ∧ k ≤ 1000 ∧ a.length ≤ 1000) ∧ Q (.tuple (rep k a))
  | _, _, _ => False
abbrev rMul (K : PySem.W.Frag) : R2 := fun x y H Q => rI CMul (fun i j => .int (i * j)) x y H Q ∨ (rRep x y H Q ∨ (rRepT K x y H Q ∨ (Xg.rRep1 K x y H Q ∨ Xg.rRep0 K x y H Q)))
theorem op_mulX {X : Cx} : OpR X (binaryOp .Mult) (rMul X.K) := Xg.op_or op_mul (Xg.op_or op_rep (Xg.op_or op_repT (Xg.op_or Xg.op_rep1 Xg.op_rep0)))
theorem DaL.rep {H : Hp} {vs : List V} {ds : List PyData} (h : DaL K H vs ds) : ∀ k : Nat, DaL K H (List.replicate k vs).flatten (List.replicate k ds).flatten
  | 0 => .nil
  | k + 1 => by
    rw [List.replicate_succ, List.replicate_succ, List.flatten_cons, List.flatten_cons]
    exact h.app (DaL.rep h k)
theorem ops_mul : OpSnd K (rMul K) gMul :=
  ⟨fun x y P P' h q => by
    cases x <;> cases y <;> first | exact ⟨q.1, h _ q.2⟩ | exact q.elim, fun {b S H x y dx dy Q P} al hx hy q k => by
    cases dx <;> cases dy <;> first | exact q.elim | skip
    · rw [hx.int, hy.int]
      exact .inl ⟨_, _, rfl, rfl, q.1, k _ _ _ q.2 (Evl.Ex.refl _) (.int _)⟩
    · obtain ⟨p1, v1, rfl, e1, g1⟩ := hx.list
      rw [hy.int]
      exact .inr (.inl ⟨_, _, _, rfl, rfl, e1, q.1.1, q.1.2.1, by rw [g1.len]; exact sz6 q.1.2.2, fun p np => k _ _ _ q.2 (Evl.Ex.new np) (new_lst al np (g1.rep _))⟩)
    · rename_i a i
      obtain ⟨p1, v1, rfl, e1, g1⟩ := hx.tuple
      rw [hy.int]
      have t1 := hx.tup'
      by_cases z : i = 1
      · subst z
        refine .inr (.inr (.inr (.inl ⟨_, _, rfl, rfl, e1, k _ _ _ q.2 (Evl.Ex.refl _) ?_⟩)))
        show Da K (rm H S) (.ref p1) (.tuple (List.replicate 1 a).flatten)
        rw [show (List.replicate 1 a).flatten = a by simp]
        exact t1
      · by_cases z0 : i = 0
        · subst z0
          refine .inr (.inr (.inr (.inr ⟨_, _, rfl, rfl, e1, fun w => ?_, fun p np => k _ _ _ q.2 (Evl.Ex.new np) (new_tup al np .nil)⟩)))
          subst w
          cases g1
          exact q.1.1 rfl
        refine .inr (.inr (.inl ⟨_, _, _, rfl, rfl, e1, fun w => ?_, by have := q.1.2.1; omega, q.1.2.2.1, by rw [g1.len]; exact q.1.2.2.2, fun p np => k _ _ _ q.2 (Evl.Ex.new np) (new_tup al np (g1.rep _))⟩))
        subst w
        cases g1
        exact q.1.1 rfl⟩
abbrev gC (p : Int → Int → Bool) : GB
  | .int i, .int j, Q => Q (.bool (p i j))
  | _, _, _ => False
theorem ops_C {p : Int → Int → Bool} : OpSnd K (rI0 fun i j => .bl (p i j)) (gC p) :=
  ⟨fun x y P P' h q => by
    cases x <;> cases y <;> first | exact h _ q | exact q.elim, fun {b S H x y dx dy Q P} al hx hy q k => by
    cases dx <;> cases dy <;> first | exact q.elim | skip
    rw [hx.int, hy.int]
    exact ⟨_, _, rfl, rfl, k _ _ _ q (Evl.Ex.refl _) (.bl _)⟩⟩
abbrev gEq : GB
  | .int i, .int j, Q => Q (.bool (decide (i = j)))
  | .str i, .str j, Q => Q (.bool (decide (i = j)))
  | .bool i, .bool j, Q => Q (.bool (decide (i = j)))
  | x, y, Q => SeqAt.shaped x = true ∧ SeqAt.shaped y = true ∧ Q (.bool (PyData.eqv x y))
abbrev gNe : GB
  | .int i, .int j, Q => Q (.bool (!decide (i = j)))
  | .str i, .str j, Q => Q (.bool (!decide (i = j)))
  | .bool i, .bool j, Q => Q (.bool (!decide (i = j)))
  | x, y, Q => SeqAt.shaped x = true ∧ SeqAt.shaped y = true ∧ Q (.bool (!PyData.eqv x y))
abbrev rEqX (K : PySem.W.Frag) : R2 := fun x y H Q => rEq x y H Q ∨ rEqD K x y H Q
abbrev rNeX (K : PySem.W.Frag) : R2 := fun x y H Q => rNe x y H Q ∨ rNeD K x y H Q
theorem op_eqX {X : Cx} (hu : X.A.units + 64 < cLine) : OpR X (compareOp .Eq) (rEqX X.K) := Xg.op_or op_eq (op_eqD hu)
theorem op_neX {X : Cx} (hu : X.A.units + 64 < cLine) : OpR X (compareOp .NotEq) (rNeX X.K) := Xg.op_or op_ne (op_neD hu)
theorem ops_eq : OpSnd K (rEqX K) gEq := ⟨fun x y P P' h q => by
    cases x <;> cases y <;> first | exact h _ q | exact ⟨q.1, q.2.1, h _ q.2.2⟩, fun {b S H x y dx dy Q P} al hx hy q k => by
    cases dx <;> cases dy <;> first
      | exact .inr ⟨_, _, hx.dp, hy.dp, q.1, q.2.1, k _ _ _ q.2.2 (Evl.Ex.refl _) (.bl _)⟩
      | (rw [hx.int, hy.int]; exact .inl ⟨rfl, by simp only [V.int.injEq]; exact k _ _ _ q (Evl.Ex.refl _) (.bl _)⟩)
      | (rw [hx.str, hy.str]; exact .inl ⟨rfl, by simp only [V.str.injEq]; exact k _ _ _ q (Evl.Ex.refl _) (.bl _)⟩)
      | (rw [hx.bool, hy.bool]; exact .inl ⟨rfl, by simp only [V.bl.injEq]; exact k _ _ _ q (Evl.Ex.refl _) (.bl _)⟩)⟩
theorem ops_ne : OpSnd K (rNeX K) gNe := ⟨fun x y P P' h q => by
    cases x <;> cases y <;> first | exact h _ q | exact ⟨q.1, q.2.1, h _ q.2.2⟩, fun {b S H x y dx dy Q P} al hx hy q k => by
    cases dx <;> cases dy <;> first
      | exact .inr ⟨_, _, hx.dp, hy.dp, q.1, q.2.1, k _ _ _ q.2.2 (Evl.Ex.refl _) (.bl _)⟩
      | (rw [hx.int, hy.int]; exact .inl ⟨rfl, by simp only [V.int.injEq]; exact k _ _ _ q (Evl.Ex.refl _) (.bl _)⟩)
      | (rw [hx.str, hy.str]; exact .inl ⟨rfl, by simp only [V.str.injEq]; exact k _ _ _ q (Evl.Ex.refl _) (.bl _)⟩)
      | (rw [hx.bool, hy.bool]; exact .inl ⟨rfl, by simp only [V.bl.injEq]; exact k _ _ _ q (Evl.Ex.refl _) (.bl _)⟩)⟩
abbrev isN : PyData → Bool
  | .none => true
  | _ => false
abbrev gIs : GB
  | x, .none, Q => Q (.bool (isN x))
  | _, _, _ => False
abbrev gIsNot : GB
  | x, .none, Q => Q (.bool (!isN x))
  | _, _, _ => False
abbrev atQ (o : Option PyData) (Q : PyData → Prop) : Prop := match o with
  | some d => Q d
  | none => False
theorem atQ_of {o : Option PyData} {Q : PyData → Prop} (h : atQ o Q) : ∃ d, o = some d ∧ Q d := by
  cases o with
  | none => exact h.elim
  | some d => exact ⟨d, rfl, h⟩
theorem atQ_mono {o : Option PyData} {Q Q' : PyData → Prop} (g : ∀ d, Q d → Q' d) (h : atQ o Q) : atQ o Q' := by
  cases o with
  | none => exact h.elim
  | some d => exact g _ h
abbrev gIx : GB
  | .list ds, .int i, Q => atQ (L2.atI ds i) Q
  | .tuple ds, .int i, Q => atQ (L2.atI ds i) Q
  | _, _, _ => False
theorem ops_ix : OpSnd K (rIx K) gIx := ⟨fun x y P P' h q => by
    cases x <;> cases y <;> first | exact atQ_mono h q | exact q.elim, fun {b S H x y dx dy Q P} al hx hy q k => by
    cases dx <;> cases dy <;> first | exact q.elim | skip
    · obtain ⟨d, e, q⟩ := atQ_of q
      obtain ⟨p, vs, rfl, e1, g⟩ := hx.list
      rw [hy.int]
      obtain ⟨v, e2, e3⟩ := g.atI e
      exact .inl ⟨p, vs, _, v, rfl, rfl, .inl (.inl e1), e2, k _ _ _ q (Evl.Ex.refl _) e3⟩
    · obtain ⟨d, e, q⟩ := atQ_of q
      obtain ⟨p, vs, rfl, e1, g⟩ := hx.tuple
      rw [hy.int]
      obtain ⟨v, e2, e3⟩ := g.atI e
      exact .inr (.inl ⟨p, vs, _, v, rfl, rfl, e1, e2, k _ _ _ q (Evl.Ex.refl _) e3⟩)⟩
def cutD (xs : List PyData) (lo hi : Option Int) : List PyData := (xs.drop (HT.sIx xs.length 0 lo)).take (HT.sIx xs.length xs.length hi - HT.sIx xs.length 0 lo)
theorem DaL.cut {H : Hp} {vs : List V} {ds : List PyData} (h : DaL K H vs ds) (lo hi : Option Int) : DaL K H (cutV vs lo hi) (cutD ds lo hi) := by
  unfold cutV cutD
  rw [h.len]
  exact (h.drop _).take _
structure SndO (K : PySem.W.Frag) (t : TO) (c : Nat) (f : List Sl → (Option Int → Prop) → Prop) : Prop where
  mono : ∀ (ρ : List Sl) (P P' : Option Int → Prop), (∀ d, P d → P' d) → f ρ P → f ρ P'
  go : ∀ {b : Option Addr} {S : Addr → Prop} {m : Nat} {σ : L2.St} {H : Hp} {ρ : List Sl} {Q : Option Int → Hp → Prop} {P : Option Int → Prop}, DEnv K b S m H σ ρ → m + c ≤ LIM → f ρ P →
    (∀ k H', P k → Stp K b H H' → BxO b H' (m + c) → Q k H') → t σ H Q
abbrev oNone : List Sl → (Option Int → Prop) → Prop := fun _ Q => Q none
abbrev oSome (f : FE) : List Sl → (Option Int → Prop) → Prop := fun ρ Q => f ρ (asI fun i => Q (some i))
theorem sndo_none : SndO K tNoPart 0 oNone := ⟨fun ρ P P' h q => h _ q, fun E hm hf k => k _ _ hf Stp.refl E.bx⟩
theorem sndo_some (a : Snd md K ta ca fa) : SndO K (tPart ta) ca (oSome fa) := ⟨fun ρ P P' h q => a.mono _ _ _ (asI_mono fun i => h _) q, fun E hm hf k => a.go E hm hf fun d v H' p st bx vd => by
    obtain ⟨i, rfl, q⟩ := asI_of p vd
    exact ⟨i, rfl, k _ _ q st bx⟩⟩
abbrev eSl (fa : FE) (fl fh : List Sl → (Option Int → Prop) → Prop) : FE := fun ρ Q => fa ρ fun x => fl ρ fun lo => fh ρ fun hi => match x with
  | .list ds => Q (.list (cutD ds lo hi))
  | .tuple ds => Q (.tuple (cutD ds lo hi))
  | _ => False
abbrev rSlX (K : PySem.W.Frag) : V → Option Int → Option Int → Hp → VK → Prop := fun x lo hi H Q => rSlL K x lo hi H Q ∨ rSlA K x lo hi H Q
theorem sl_X {X : Cx} : L2.SlR X (rSlX X.K) := Pw.sl_or sl_list sl_tupA
theorem snd_sl {tl th : TO} {cl ch : Nat} {fl fh : List Sl → (Option Int → Prop) → Prop} (a : Snd md K ta ca fa) (l : SndO K tl cl fl) (h : SndO K th ch fh) : Snd true K (tSl (rSlX K) ta tl th) (ca + (cl + ch)) (eSl fa fl fh) := mk_snd
  (fun ρ P P' hp q => a.mono _ _ _ (fun x => l.mono _ _ _ fun lo => h.mono _ _ _ fun hi z => by
    cases x <;> first | exact hp _ z | exact z.elim) q)
  (fun E hm hf k => a.go E (by omega) hf fun dx v H1 p st bx vd => l.go (E.step st bx) (by omega) p fun lo H2 p2 st2 bx2 => h.go ((E.step st bx).step st2 bx2) (by omega) p2 fun hi H3 p3 st3 bx3 => by
    have vd := (vd.vw.step st2 E.bs).step st3 E.bs
    have st4 := (st.trans st2).trans st3
    have al := (E.step st4 bx3).al
    cases dx <;> first | exact p3.elim | skip
    · obtain ⟨p1, vs, rfl, e1, g⟩ := vd.list
      exact .inl ⟨p1, vs, rfl, .inl (.inl e1), fun q nq => k _ _ _ p3 (st4.trans (Stp.ex (Evl.Ex.new nq))) ((bx3.le (by omega)).ex (Evl.Ex.new nq)) (new_lst al nq (g.cut lo hi))⟩
    · obtain ⟨p1, vs, rfl, e1, g⟩ := vd.tuple
      refine .inr ⟨p1, vs, rfl, e1, fun z => ?_, fun z q nq => k _ _ _ p3 (st4.trans (Stp.ex (Evl.Ex.new nq))) ((bx3.le (by omega)).ex (Evl.Ex.new nq)) (new_tup al nq (g.cut lo hi))⟩
      refine k _ _ _ p3 st4 (bx3.le (by omega)) ?_
      have t1 := vd.tup'
      unfold cutD
      rw [← g.len, z.1, z.2, List.drop_zero, Nat.sub_zero, g.len, List.take_length]
      exact t1)
abbrev eRevL (fa : FE) : FE := fun ρ Q => fa ρ fun x => match x with
  | .list ds => Q (.list ds.reverse)
  | _ => False
theorem snd_revL (a : Snd md K ta ca fa) : Snd true K (tRevL K ta) ca (eRevL fa) := mk_snd
  (fun ρ P P' hp q => a.mono _ _ _ (fun x z => by
    cases x <;> first | exact hp _ z | exact z.elim) q)
  (fun E hm hf k => a.go E (by omega) hf fun dx v H1 p st bx vd => by
    cases dx <;> first | exact p.elim | skip
    obtain ⟨p1, vs, rfl, e1, g⟩ := vd.vw.list
    exact ⟨p1, vs, rfl, .inl (.inl e1), fun q nq => k _ _ _ p (st.trans (Stp.ex (Evl.Ex.new nq))) (bx.ex (Evl.Ex.new nq)) (new_lst (E.step st bx).al nq g.rev)⟩)
structure CallSnd (K : PySem.W.Frag) (r : List V → Hp → VK → Prop) (g : List PyData → (PyData → Prop) → Prop) : Prop where
  mono : ∀ x (P P' : PyData → Prop), (∀ d, P d → P' d) → g x P → g x P'
  run : ∀ {b : Option Addr} {S : Addr → Prop} {H : Hp} {vs : List V} {ds : List PyData} {Q : VK} {P : PyData → Prop}, Al S H → VwL false K b S H vs ds → g ds P →
    (∀ d v H', P d → Evl.Ex H H' → Da K (rm H' S) v d → Q v H') → r vs H Q
abbrev eCB (g : List PyData → (PyData → Prop) → Prop) (fd : FD) : FE := fun ρ Q => fd ρ fun ds => g ds Q
theorem VwL.v {b : Option Addr} {S : Addr → Prop} {H : Hp} : ∀ {vs : List V} {ds : List PyData}, VwL md K b S H vs ds → VwL false K b S H vs ds
  | _, _, .nil => .nil
  | _, _, .cons h g => .cons h.vw (VwL.v g)
theorem snd_cb {r : List V → Hp → VK → Prop} {g : List PyData → (PyData → Prop) → Prop} (o : CallSnd K r g) (a : SndD md K tr n cr fd) : Snd true K (tCB r tr) cr (eCB g fd) := mk_snd
  (fun ρ P P' h q => a.mono _ _ _ (fun ds => o.mono ds _ _ h) q)
  (fun E hm hf k => a.go E hm hf fun ds vs H1 h1 l s1 b1 d1 => o.run (E.step s1 b1).al d1.v h1 fun d v H' p e q => k d v H' p (s1.trans (Stp.ex e)) (b1.ex e) q)
abbrev g1 (g : PyData → (PyData → Prop) → Prop) : List PyData → (PyData → Prop) → Prop
  | [d], Q => g d Q
  | _, _ => False
abbrev g2 (g : PyData → PyData → (PyData → Prop) → Prop) : List PyData → (PyData → Prop) → Prop
  | [d, e], Q => g d e Q
  | _, _ => False
abbrev lenD : PyData → (PyData → Prop) → Prop
  | .list ds, Q => Q (.int ds.length)
  | .tuple ds, Q => Q (.int ds.length)
  | _, _ => False
theorem call1 {r : List V → Hp → VK → Prop} {g : PyData → (PyData → Prop) → Prop} (m : ∀ x (P P' : PyData → Prop), (∀ d, P d → P' d) → g x P → g x P')
    (run : ∀ {b : Option Addr} {S : Addr → Prop} {H : Hp} {v : V} {d : PyData} {Q : VK} {P : PyData → Prop}, Al S H → Vw K b S H v d → g d P → (∀ d v H', P d → Evl.Ex H H' → Da K (rm H' S) v d → Q v H') → r [v] H Q) : CallSnd K r (g1 g) :=
  ⟨fun x P P' h q => by
    unfold g1 at q ⊢
    split at q
    · exact m _ _ _ h q
    · exact q.elim, fun al vw q k => by
    unfold g1 at q
    split at q
    · cases vw with
      | cons h g =>
        cases g
        exact run al h q k
    · exact q.elim⟩
theorem call2 {r : List V → Hp → VK → Prop} {g : PyData → PyData → (PyData → Prop) → Prop} (m : ∀ x y (P P' : PyData → Prop), (∀ d, P d → P' d) → g x y P → g x y P')
    (run : ∀ {b : Option Addr} {S : Addr → Prop} {H : Hp} {v w : V} {d e : PyData} {Q : VK} {P : PyData → Prop}, Al S H → Vw K b S H v d → Vw K b S H w e → g d e P → (∀ d v H', P d → Evl.Ex H H' → Da K (rm H' S) v d → Q v H') → r [v, w] H Q) : CallSnd K r (g2 g) :=
  ⟨fun x P P' h q => by
    unfold g2 at q ⊢
    split at q
    · exact m _ _ _ _ h q
    · exact q.elim, fun al vw q k => by
    unfold g2 at q
    split at q
    · cases vw with
      | cons h g =>
        cases g with
        | cons h2 g =>
          cases g
          exact run al h h2 q k
    · exact q.elim⟩
theorem cs_len : CallSnd K (fun xs H Q => ∃ x n, xs = [x] ∧ LenV K x H n ∧ Q (.int n) H) (g1 lenD) := call1
  (fun x P P' h q => by cases x <;> first | exact h _ q | exact q.elim)
  (fun {b S H v d Q P} al h q k => by
    cases d <;> first | exact q.elim | skip
    · obtain ⟨p, vs, rfl, e, g⟩ := h.list
      exact ⟨_, vs.length, rfl, .inl ⟨vs, .inl (.inl e), rfl⟩, by rw [g.len]; exact k _ _ _ q (Evl.Ex.refl _) (.int _)⟩
    · obtain ⟨p, vs, rfl, e, g⟩ := h.tuple
      exact ⟨_, vs.length, rfl, .inr ⟨vs, e, rfl⟩, by rw [g.len]; exact k _ _ _ q (Evl.Ex.refl _) (.int _)⟩)
theorem cs_max2 : CallSnd K (fun xs H Q => ∃ i j, xs = [.int i, .int j] ∧ Q (.int (if j > i then j else i)) H) (g2 (gI fun i j => if j > i then j else i)) := call2
  (fun x y P P' h q => by cases x <;> cases y <;> first | exact h _ q | exact q.elim)
  (fun {b S H v w d e Q P} al h h2 q k => by
    cases d <;> cases e <;> first | exact q.elim | skip
    rw [h.int, h2.int]
    exact ⟨_, _, rfl, k _ _ _ q (Evl.Ex.refl _) (.int _)⟩)
theorem cs_min2 : CallSnd K (fun xs H Q => ∃ i j, xs = [.int i, .int j] ∧ Q (.int (if j < i then j else i)) H) (g2 (gI fun i j => if j < i then j else i)) := call2
  (fun x y P P' h q => by cases x <;> cases y <;> first | exact h _ q | exact q.elim)
  (fun {b S H v w d e Q P} al h h2 q k => by
    cases d <;> cases e <;> first | exact q.elim | skip
    rw [h.int, h2.int]
    exact ⟨_, _, rfl, k _ _ _ q (Evl.Ex.refl _) (.int _)⟩)
abbrev intsQ (Q : List Int → Prop) : PyData → Prop
  | .list ds => ∃ ns : List Int, ds = ns.map PyData.int ∧ Q ns
  | _ => False
abbrev boolsQ (Q : List Bool → Prop) : PyData → Prop
  | .list ds => ∃ ns : List Bool, ds = ns.map PyData.bool ∧ Q ns
  | _ => False
theorem boolsQ_mono {P P' : List Bool → Prop} (h : ∀ k, P k → P' k) : ∀ d, boolsQ P d → boolsQ P' d := fun d g => by
  cases d <;> first | exact let ⟨ns, e, q⟩ := g; ⟨ns, e, h _ q⟩ | exact g.elim
theorem boolsQ_of {b : Option Addr} {S : Addr → Prop} {H : Hp} {Q : List Bool → Prop} {d : PyData} {v : V} (h : boolsQ Q d) (g : Vw K b S H v d) : ∃ p ns, v = .ref p ∧ SqL K H p (ns.map V.bl) ∧ Q ns := by
  cases d with
  | list ds =>
    obtain ⟨ns, rfl, q⟩ := h
    obtain ⟨p, vs, rfl, e, g⟩ := g.list
    rw [g.bools_inv] at e
    exact ⟨p, ns, rfl, .inl (.inl e), q⟩
  | _ => exact h.elim
theorem cs_all : CallSnd K (rAll K) (g1 fun d Q => boolsQ (fun ns => Q (.bool (ns.all id))) d) := call1
  (fun x P P' h q => boolsQ_mono (fun ns => h _) _ q)
  (fun al h q k => let ⟨p, ns, e, s, q⟩ := boolsQ_of q h; ⟨p, ns, by rw [e], s, k _ _ _ q (Evl.Ex.refl _) (.bl _)⟩)
abbrev negD : PyData → (PyData → Prop) → Prop
  | .int i, Q => Q (.int (-i))
  | _, _ => False
theorem us_neg : UnSnd K (rU fun i => .int (-i)) negD := ⟨fun x P P' h q => by cases x <;> first | exact h _ q | exact q.elim, fun {b S H x dx Q P} al h q k => by
    cases dx <;> first | exact q.elim | skip
    rw [h.int]
    exact ⟨_, rfl, k _ _ _ q (Evl.Ex.refl _) (.int _)⟩⟩
abbrev tupD : PyData → (PyData → Prop) → Prop
  | .list ds, Q => Q (.tuple ds)
  | .tuple ds, Q => Q (.tuple ds)
  | _, _ => False
theorem us_tup : UnSnd K (kTup K) tupD := ⟨fun x P P' h q => by cases x <;> first | exact h _ q | exact q.elim, fun {b S H x dx Q P} al h q k => by
    cases dx <;> first | exact q.elim | skip
    · obtain ⟨p, vs, rfl, e, g⟩ := h.list
      exact .inl ⟨p, vs, rfl, .inl (.inl e), fun q1 nq => k _ _ _ q (Evl.Ex.new nq) (new_tup al nq g)⟩
    · obtain ⟨p, vs, rfl, e, g⟩ := h.tuple
      refine .inr ⟨p, vs, rfl, e, k _ _ _ q (Evl.Ex.refl _) ?_⟩
      cases h with
      | st h => exact h⟩
theorem snd_tupOf (a : Snd md K ta ca fa) : Snd true K (tThen ta (kTup K)) ca (eUn tupD fa) := snd_un0 (r := kTup K) us_tup a
abbrev listOfD : PyData → (List PyData → Prop) → Prop
  | .list ds, Q => Q ds
  | .tuple ds, Q => Q ds
  | _, _ => False
theorem sndl_listOf (a : Snd md K ta ca fa) : SndL K (tCB (fun xs H Q => ∃ p ys, xs = [.ref p] ∧ (SqL K H p ys ∨ SqT K H p ys) ∧ ∀ l, H l = none → Q (.ref l) (upd H l (.lst ys))) (tCons ta tNil)) ca (fun ρ Q => fa ρ fun d => listOfD d Q) := ⟨
  fun ρ P P' h q => a.mono _ _ _ (fun x z => by cases x <;> first | exact h _ z | exact z.elim) q,
  fun E hm hf k => a.go E hm hf fun dx v H1 p st bx vd => by
    cases dx <;> first | exact p.elim | skip
    · obtain ⟨p1, vs, rfl, e, g⟩ := vd.vw.list
      exact ⟨p1, vs, rfl, .inl (.inl (.inl e)), fun l nl => k _ _ _ _ p (back st bx nl) (st.trans (Stp.ex (Evl.Ex.new nl))) (bx.ex (Evl.Ex.new nl)) upd_same (g.fresh nl)⟩
    · obtain ⟨p1, vs, rfl, e, g⟩ := vd.vw.tuple
      exact ⟨p1, vs, rfl, .inr e, fun l nl => k _ _ _ _ p (back st bx nl) (st.trans (Stp.ex (Evl.Ex.new nl))) (bx.ex (Evl.Ex.new nl)) upd_same (g.fresh nl)⟩⟩
abbrev eLenS (i : Nat) : FE := fun ρ Q => match ρ[i]? with
  | some (.scr ns) => Q (.int ns.length)
  | _ => False
theorem snd_lenS {i : Nat} : Snd true K (tCB (fun xs H Q => ∃ x n, xs = [x] ∧ LenV K x H n ∧ Q (.int n) H) (tCons (tVar i) tNil)) 0 (eLenS i) := mk_snd
  (fun ρ P P' h q => by
    unfold eLenS at q ⊢
    split at q
    · exact h _ q
    · exact q.elim)
  (fun {b S m σ H ρ Q P} E hm hf k => by
    unfold eLenS at hf
    split at hf
    · rename_i ns e
      obtain ⟨p, e1, e2⟩ := E.sl i _ e
      refine ⟨_, e1, _, (ns.map V.int).length, rfl, .inl ⟨_, Evl.ex_l rm_le e2, rfl⟩, ?_⟩
      rw [List.length_map]
      exact k _ _ _ hf Stp.refl E.bx (.int _)
    · exact hf.elim)
inductive Ty5 where
  | int | bool | str | list | tuple
def Ty5.nm : Ty5 → String
  | .int => "int" | .bool => "bool" | .str => "str" | .list => "list" | .tuple => "tuple"
abbrev isD : Ty5 → PyData → Bool
  | .int, .int _ => true
  | .int, .bool _ => true
  | .bool, .bool _ => true
  | .str, .str _ => true
  | .list, .list _ => true
  | .tuple, .tuple _ => true
  | _, _ => false
def tyN : PyData → String
  | .none => "NoneType" | .bool _ => "bool" | .int _ => "int" | .str _ => "str" | .list _ => "list" | .tuple _ => "tuple" | .dict _ => "dict"
end
end Dv
namespace Dv
open PySem PySem.Spec PyProof.Rows L2 Xg
open Classical
section
variable {K : PySem.W.Frag} {md : Bool} {ta : TE} {ca : Nat} {fa : FE}
theorem kit_is (t : Ty5) (d : PyData) : kitB (tyN d) t.nm = some (isD t d) := by
  cases t <;> cases d <;> (dsimp only [tyN, Ty5.nm, isD]; decide +kernel)
theorem ty_of {H : Hp} {v : V} {d : PyData} : Dp K H v d → TyX K H v (.type (tyN d))
  | .non => .base .non
  | .bl b => .base (.bl b)
  | .int i => .base (.int i)
  | .str x => .base (.str x)
  | .lst h _ => by
    rcases h with (h | ⟨o, h⟩) | ⟨o, its, n, h1, h2, _⟩
    · exact .base (.lst h)
    · exact .base (.frz h)
    · exact .kList h1 h2
  | .tup h _ => by
    rcases h with (h | ⟨o, h⟩) | ⟨o, its, n, h1, h2, _⟩
    · exact .base (.tup h)
    · exact .fTuple h
    · exact .kTuple h1 h2
abbrev eIsi (t : Ty5) (fa : FE) : FE := fun ρ Q => fa ρ fun d => Q (.bool (isD t d))
theorem snd_isi {t : Ty5} (a : Snd md K ta ca fa) : Snd true K (tCB (rIsi K) (tCons ta (tCons (tC (.ty t.nm)) tNil))) ca (eIsi t fa) := mk_snd
  (fun ρ P P' h q => a.mono _ _ _ (fun d => h _) q)
  (fun E hm hf k => a.go E hm hf fun d v H' p st bx vd => ⟨v, _, _, _, isD t d, rfl, .ty _, ty_of vd.vw.dp, kit_ty (kit_is t d), k _ _ _ p st bx (.bl _)⟩)
end
abbrev pad (n : Nat) (as : List Sl) : List Sl := as ++ List.replicate (n - as.length) .no
abbrev mkF (np n : Nat) (f : FS) : FF := fun as Q => as.length = np ∧ f (pad n as) { nx := fun _ => Q .none, rt := Q, rl := fun ds => Q (.list ds) }
abbrev mkL (np n : Nat) (f : FS) : FFL := fun as Q => as.length = np ∧ f (pad n as) { nx := fun _ => False, rt := fun _ => False, rl := Q }
section
variable {P : Program} {w : World} {K : PySem.W.Frag} {mg : Str → Option Value} {base : Heap}
theorem mkF_mono {t : TS} {c np n : Nat} {f : FS} (h : SndS K t c f) : MonoF (mkF np n f) := fun as P P' hp q => ⟨q.1, h.mono _ { nx := fun _ => P .none, rt := P, rl := fun ds => P (.list ds) } { nx := fun _ => P' .none, rt := P', rl := fun ds => P' (.list ds) } ⟨fun _ => hp _, hp, fun ds => hp _, fun _ h => h, fun _ h => h⟩ q.2⟩
theorem ArgL.len {b : Option Addr} {S : Addr → Prop} {H : Hp} : ∀ {vs : List V} {as : List Sl}, ArgL K b S H vs as → vs.length = as.length
  | _, _, .nil => rfl
  | _, _, .cons _ g => by rw [List.length_cons, List.length_cons, ArgL.len g]
theorem ArgL.at_ {b : Option Addr} {S : Addr → Prop} {H : Hp} : ∀ {vs : List V} {as : List Sl} {i : Nat} {s : Sl}, ArgL K b S H vs as → as[i]? = some s → ∃ v, vs[i]? = some v ∧ ArgR K b S H v s
  | _, _, _, _, .nil, e => by simp at e
  | _, _, 0, _, .cons h g, e => by
    simp at e
    subst e
    exact ⟨_, rfl, h⟩
  | _, _, i + 1, _, .cons h g, e => ArgL.at_ (i := i) g (by simpa using e)
theorem pad_at {n i : Nat} {as : List Sl} {s : Sl} (h : (pad n as)[i]? = some s) : (i < as.length ∧ as[i]? = some s) ∨ s = .no := by
  unfold pad at h
  by_cases l : i < as.length
  · rw [List.getElem?_append_left l] at h
    exact .inl ⟨l, h⟩
  · rw [List.getElem?_append_right (by omega), List.getElem?_replicate] at h
    split at h
    · cases h
      exact .inr rfl
    · cases h
theorem start_at {N : List Str} {vs : List V} {i : Nat} (l : i < vs.length) : (L2.start N vs)[i]? = some (vs[i]?) := by
  unfold L2.start
  rw [List.getElem?_append_left (by rw [List.length_map]; exact l), List.getElem?_map, List.getElem?_eq_getElem l]
  rfl
theorem ok_start {b : Option Addr} {S : Addr → Prop} {m : Nat} {H : Hp} {N : List Str} {vs : List V} {as : List Sl} (hA : ArgL K b S H vs as) (bx : BxO b H m) (bs : ∀ p, b = some p → S p) (al : Al S H ∧ Tbs K H) :
    Ok K S H b b (fun _ => none) m H (L2.start N vs) (pad N.length as) := by
  have sub : ∀ a, SO S b (fun _ => none) a → S a := fun a h => by
    rcases h with h | h | ⟨i, h⟩
    · exact h
    · exact bs a h
    · cases h
  refine ⟨⟨?_, fun i s e => ?_, bx, fun p e => .inr (.inl e), fun a h => al.1 a (sub a h), al.2⟩, fun i j a h => (by cases h), fun i a h => (by cases h), Stp.refl, .inl rfl, bx, fun i a h => (by cases h), fun i ds e ow => ?_, al.1, bs⟩
  · unfold L2.start pad
    rw [List.length_append, List.length_append, List.length_map, List.length_replicate, List.length_replicate, hA.len]
  · rcases pad_at e with ⟨l, e⟩ | rfl
    · obtain ⟨v, e1, e2⟩ := hA.at_ e
      rw [start_at (by rw [hA.len]; exact l), e1]
      cases s with
      | no => trivial
      | dt d => exact ⟨v, rfl, Da.mono (rm_sub sub) e2⟩
      | own _ => exact e2.elim
      | box => exact let ⟨p, r1, r2⟩ := e2; ⟨p, by rw [r1], r2⟩
      | scr ns => exact let ⟨p, r1, r2⟩ := e2; ⟨p, by rw [r1], Evl.ex_l (rm_sub sub) r2⟩
      | op g => exact ⟨v, rfl, TbO.mono (rm_sub sub) e2⟩
      | fn k ds => exact ⟨v, rfl, LamV.mono (rm_sub sub) e2⟩
      | exc k ds => exact e2.elim
      | dct k => exact e2.elim
      | dck k => exact ⟨v, rfl, DcO.mono (rm_sub sub) e2⟩
      | frt k => exact e2.elim
    · trivial
  · rcases pad_at e with ⟨l, e⟩ | z
    · obtain ⟨v, e1, e2⟩ := hA.at_ e
      cases ds <;> first | exact absurd ow Bool.false_ne_true | exact e2.elim
    · subst z
      exact absurd ow Bool.false_ne_true
theorem okD {x qual : Str} {st : Stmt} {f : Addr} {fd : FuncData} {N ps : List Str} {k c : Nat} {t : TS} {g : FS} (F : Fun K x qual st f fd) (S : FnScope N ps (defScope st)) (sn : SndS K t c g)
    (hbody : ∀ (cdv : Value) (A : Around) (outer : List Env) (s : Shared) (H : Hp), (A.deeper (envOfC qual (defScope st) s.heap.objs.size f cdv)).guards = some [] → Room k (A.deeper (envOfC qual (defScope st) s.heap.objs.size f cdv)) →
      PSs (cxOf CX0 P w K mg base N qual (defScope st) f cdv A outer s H E0).nox (defBody st) t) : FnG P w K mg base (k + 1) f fd ps (spD K c (mkF ps.length N.length g)) := by
  refine okG F S (fun vs H Q h => ?_) fun cdv A outer s H vs Q hG hr h => ⟨t, hbody cdv A outer s H hG hr, ?_⟩
  · obtain ⟨b, S, m, as, hA, _, _, _, _, l, _⟩ := h
    rw [hA.len, l]
  · obtain ⟨b, S, m, as, hA, bx, bs, al, hm, l, hf⟩ := h
    refine sn.go (ok_start (N := N) hA bx bs al) hm hf ⟨fun b' os σ' H' ρ' q o _ => q _ _ o.old o.obx .non, fun d v H' q o hd => q _ _ o.old o.obx hd, fun ds vs p H' q o n e g => q _ _ o.old o.obx (.lst (rm_in (al.1.new n) e) (g.mono (rm_sub fun a z => .inl z))), fun _ _ _ _ _ q => q.elim, fun _ _ _ _ _ q => q.elim⟩
theorem okL {x qual : Str} {st : Stmt} {f : Addr} {fd : FuncData} {N ps : List Str} {k c : Nat} {t : TS} {g : FS} (F : Fun K x qual st f fd) (S : FnScope N ps (defScope st)) (sn : SndS K t c g)
    (hbody : ∀ (cdv : Value) (A : Around) (outer : List Env) (s : Shared) (H : Hp), (A.deeper (envOfC qual (defScope st) s.heap.objs.size f cdv)).guards = some [] → Room k (A.deeper (envOfC qual (defScope st) s.heap.objs.size f cdv)) →
      PSs (cxOf CX0 P w K mg base N qual (defScope st) f cdv A outer s H E0).nox (defBody st) t) : FnG P w K mg base (k + 1) f fd ps (spL K c (mkL ps.length N.length g)) := by
  refine okG F S (fun vs H Q h => ?_) fun cdv A outer s H vs Q hG hr h => ⟨t, hbody cdv A outer s H hG hr, ?_⟩
  · obtain ⟨b, S, m, as, hA, _, _, _, _, l, _⟩ := h
    rw [hA.len, l]
  · obtain ⟨b, S, m, as, hA, bx, bs, al, hm, l, hf⟩ := h
    exact sn.go (ok_start (N := N) hA bx bs al) hm hf ⟨fun _ _ _ _ _ q => q.elim, fun _ _ _ q => q.elim, fun ds vs p H' q o n e g => q _ _ _ n o.old o.obx e g, fun _ _ _ _ _ q => q.elim, fun _ _ _ _ _ q => q.elim⟩
structure Df (P : Program) (w : World) (K : PySem.W.Frag) (mg : Str → Option Value) (base : Heap) (x : Str) (ps : List Str) (k : Nat) (sp : Sp) : Prop where
  ex : ∃ (f : Addr) (fd : FuncData), FnG P w K mg base k f fd ps sp ∧ mg x = some (.ref f) ∧ PySem.W.keepIn K (.ref f) = true ∧ L2.Binds K fd ps []
theorem pe_df {X : Cx} {x : Str} {ps : List Str} {k : Nat} {sp : Sp} {p pos : Pos} {e : Expr} {es : List Expr} {t : TA} (D : Df X.prog X.w X.K X.mg X.base x ps k sp) (hG : X.A.guards = some []) (hr : Room k X.A) (hg : Gl X x) (ha : PA X (e :: es) t)
    (hdb : (x == ("__debug__" : Str)) = false := by decide) (he : starEach (e :: es) X.env = (false, eval e X.env) :: starEach es X.env := by rfl) (hpl : (backTo pos (starEach es X.env)).any (·.1) = false := by rfl) :
    PE X (.Call (.Name x p) (e :: es) [] pos) (tCallG sp t) := by
  obtain ⟨f, fd, G, gm, kp, b⟩ := D.ex
  exact pe_callG G hG hr hg gm kp b ha hdb he hpl
theorem pe_con {X : Cx} {x : Str} {v : V} {pos : Pos} (hg : Gl X x) (h : ∃ u, X.mg x = some u ∧ L2.RelV v u) (hd : (x == ("__debug__" : Str)) = false := by decide) : PE X (.Name x pos) (tC v) := let ⟨_, g1, g2⟩ := h; pe_glob hg g1 g2 hd
theorem toG {f : Addr} {fd : FuncData} {ps : List Str} {k : Nat} {sp : Sp} (F : FnOk P w K mg base CX0 k f fd ps sp) : FnG P w K mg base k f fd ps sp :=
  ⟨fun vs H Q h => F.len _ _ _ _ h, fun A outer s H args us vs Q _ hr ev hb r h => F.run A outer s H args us vs Q E0 hr ev hb r h⟩
theorem impG {f : Addr} {fd : FuncData} {ps : List Str} {k : Nat} {sp sp' : Sp} (F : FnG P w K mg base k f fd ps sp) (h : ∀ vs H Q, sp' vs H Q E0 → sp vs H Q E0) : FnG P w K mg base k f fd ps sp' :=
  ⟨fun vs H Q q => F.len _ _ _ (h _ _ _ q), fun A outer s H args us vs Q hG hr ev hb r q => F.run A outer s H args us vs Q hG hr ev hb r (h _ _ _ q)⟩
end
def F_take : FF := fun as Q => match as with
  | [.box, .dt (.int n)] => (0 < n ∧ n < 1073741824) ∧ ∀ r, 0 ≤ r → r < n → Q (.int r)
  | _ => False
theorem m_take : MonoF F_take := fun as P P' h q => by
  unfold F_take at q ⊢
  split at q
  · exact ⟨q.1, fun r a b => h _ (q.2 r a b)⟩
  · exact q.elim
def spBx (K : PySem.W.Frag) : Sp := fun vs H Q _ => ∃ (a : Addr) (ns : List Int) (k : Nat), vs = [.ref a, .int k] ∧ SqL K H a (ns.map V.int) ∧ k ≤ 1000 ∧
  ∀ p x y, H p = none → 0 ≤ x → 0 ≤ y → y < 1000000000000 → Q (.ref p) (upd H p (.lst [.int x, .int y, .int 0]))
abbrev noBox : Sl → Sl
  | .box => .no
  | s => s
abbrev sBox (i : Nat) (fr : FA) : FS := fun ρ E => fr ρ fun as => match as with
  | [.scr _, .dt (.int k)] => (0 ≤ k ∧ k ≤ 1000) ∧ E.nx ((ρ.map noBox).set i .box)
  | _ => False
theorem snds_box {K : PySem.W.Frag} {i : Nat} {tr : TA} {fr : FA} {cr : Nat} (r : SndA K tr cr fr) : SndS K (tAsg (tCallG (spBx K) tr) (gName i)) cr (sBox i fr) :=
  ⟨fun ρ E E' h q => r.mono _ _ _ (fun as z => by
    split at z
    · exact ⟨z.1, h.nx _ z.2⟩
    · exact z.elim) q,
  fun {G H0 b0 b os m H σ ρ D E} ok hm hf kk => r.go ok.env hm hf fun as vs H1 h1 st bx hA => by
    split at h1
    · rename_i ns k
      obtain ⟨⟨k0, k1⟩, h1⟩ := h1
      cases hA with
      | cons a1 a2 =>
      cases a2 with
      | cons a2 a3 =>
      cases a3
      obtain ⟨p, rfl, hs⟩ := a1
      cases a2
      have ok1 := ok.step st bx (by omega)
      refine ⟨p, ns, k.toNat, ?_, Evl.ex_l rm_le hs, by omega, fun q x y nq x0 y0 y1 => ?_⟩
      · rw [Int.toNat_of_nonneg k0]
      have ex := Evl.Ex.new (o := .lst [.int x, .int y, .int 0]) nq
      have nS : ¬ SO G b os q := ok1.env.al.new nq
      have n0 : H0 q = none := back ok1.old ok1.obx nq
      have sub : ∀ a, SO G (some q) os a → SO G b os a ∨ a = q := fun a h => by
        rcases h with h | h | h
        · exact .inl (.inl h)
        · cases h
          exact .inr rfl
        · exact .inl (.inr (.inr h))
      have lk : Lk (SO G b os) H1 (SO G (some q) os) (upd H1 q (.lst [.int x, .int y, .int 0])) := fun a o n _ h => ⟨ex a o h, fun z => (sub a z).elim n fun w => by rw [w, nq] at h; cases h⟩
      have exr : Evl.Ex (rm H1 (SO G b os)) (rm (upd H1 q (.lst [.int x, .int y, .int 0])) (SO G (some q) os)) := fun a o h => by
        obtain ⟨n1, h1⟩ := rm_some h
        obtain ⟨g1, g2⟩ := lk a o n1 (rm_nt h) h1
        exact rm_in g2 g1 (rm_nt h)
      refine kk.nx (some q) os _ _ _ h1 ⟨⟨?_, fun j s h => ?_, ⟨x, y, 0, x0, y0, y1, by omega, by omega, upd_same⟩, fun p' e => .inr (.inl e), fun a h => ?_, ok1.env.tb.ex ex⟩, ok.inj, ok.new, ok1.old.trans (Stp.ex ex), .inr fun p' e => by cases e; exact n0, ok1.obx.ex ex, fun j a h e => ?_, fun j ds h ow => ?_, ok.al0, ok.bG⟩ ((Lk.step st ok.env.bs).trans lk)
      · rw [List.length_set, List.length_set, List.length_map]
        exact ok.env.len
      · rw [List.getElem?_set] at h ⊢
        by_cases z : i = j
        · rw [if_pos z] at h ⊢
          rw [List.length_map] at h
          rw [ok.env.len]
          split at h
          · rename_i l
            cases h
            rw [if_pos l]
            exact ⟨q, rfl, rfl⟩
          · cases h
        · rw [if_neg z] at h ⊢
          rw [List.getElem?_map] at h
          cases e0 : ρ[j]? with
          | none => rw [e0] at h; cases h
          | some s0 =>
          rw [e0] at h
          have h : noBox s0 = s := Option.some.inj h
          have w := ok1.env.sl j s0 e0
          cases s0 with
          | box => subst h; trivial
          | no => subst h; trivial
          | dt d => subst h; exact let ⟨v, e1, g⟩ := w; ⟨v, e1, g.mono exr⟩
          | own es =>
            subst h
            obtain ⟨p1, ws, e1, s1, n1, g1, k1⟩ := w
            obtain ⟨p2, q1, q2⟩ := ok.slo j _ e0 rfl
            rw [e1] at q2
            cases q2
            exact ⟨p1, ws, e1, .inr (.inr ⟨j, q1⟩), fun z => nS (by cases z; exact s1), ex _ _ g1, k1.mono exr⟩
          | scr ns => subst h; exact let ⟨v, e1, g⟩ := w; ⟨v, e1, Evl.ex_l exr g⟩
          | op g => subst h; exact let ⟨v, e1, g⟩ := w; ⟨v, e1, g.mono exr⟩
          | fn k ds => subst h; exact let ⟨v, e1, g⟩ := w; ⟨v, e1, g.mono exr⟩
          | exc k ds => subst h; exact let ⟨v, e1, g⟩ := w; ⟨v, e1, g.mono exr⟩
          | dct es =>
            subst h
            obtain ⟨p1, ws, e1, s1, n1, g1, k1⟩ := w
            obtain ⟨p2, q1, q2⟩ := ok.slo j _ e0 rfl
            rw [e1] at q2
            cases q2
            exact ⟨p1, ws, e1, .inr (.inr ⟨j, q1⟩), fun z => nS (by cases z; exact s1), ex _ _ g1, k1.mono exr⟩
          | dck k => subst h; exact let ⟨v, e1, g⟩ := w; ⟨v, e1, g.mono exr⟩
          | frt k => subst h; exact let ⟨v, e1, g⟩ := w; ⟨v, e1, g.mono exr⟩
      · rcases sub a h with h | rfl
        · exact ok1.env.al.ex ex a h
        · exact ⟨_, upd_same, rfl⟩
      · cases e
        exact nS (.inr (.inr ⟨j, h⟩))
      · rw [List.getElem?_set] at h ⊢
        by_cases z : i = j
        · rw [if_pos z] at h
          split at h
          · cases h
            exact absurd ow Bool.false_ne_true
          · cases h
        · rw [if_neg z] at h ⊢
          rw [List.getElem?_map] at h
          cases e0 : ρ[j]? with
          | none => rw [e0] at h; cases h
          | some s0 =>
          rw [e0] at h
          have h : noBox s0 = ds := Option.some.inj h
          subst h
          cases s0 with
          | own es => exact ok.slo j _ e0 rfl
          | dct es => exact ok.slo j _ e0 rfl
          | _ => exact absurd ow Bool.false_ne_true
    · exact h1.elim⟩
end Dv
namespace Dv
open PySem PySem.Spec PyProof.Rows L2 Xg
open Classical
section
variable {K : PySem.W.Frag} {ta tb : TE} {ca cb : Nat} {fa fb : FE}
theorem gs_some0 : ∀ ds (ρ : List Sl) (P : List Sl → Prop), gsNil ds ρ P → ∃ ρ', P ρ' := fun ds ρ P h => by
  cases ds with
  | nil => exact ⟨_, h⟩
  | cons => exact h.elim
theorem gs_someS {f : FG} {g : FGs} (mf : ∀ d (ρ : List Sl) (P : List Sl → Prop), f d ρ P → ∃ ρ', P ρ') (h : ∀ ds (ρ : List Sl) (P : List Sl → Prop), g ds ρ P → ∃ ρ', P ρ') : ∀ ds (ρ : List Sl) (P : List Sl → Prop), gsCons f g ds ρ P → ∃ ρ', P ρ' := fun ds ρ P e => by
  cases ds with
  | nil => exact e.elim
  | cons d r =>
    obtain ⟨ρ', z⟩ := mf _ _ _ e
    exact h _ _ _ z
theorem gN_some {i : Nat} : ∀ d (ρ : List Sl) (P : List Sl → Prop), gN i d ρ P → ∃ ρ', P ρ' := fun d ρ P h => ⟨_, h⟩
theorem gT_some {g : FGs} (h : ∀ ds (ρ : List Sl) (P : List Sl → Prop), g ds ρ P → ∃ ρ', P ρ') : ∀ d (ρ : List Sl) (P : List Sl → Prop), gT g d ρ P → ∃ ρ', P ρ' := fun d ρ P e => by
  cases d <;> first | exact h _ _ _ e | exact e.elim
abbrev sPar (i j : Nat) (fa fb : FE) : FS := fun ρ E => fa ρ fun x => fb ρ fun y => E.nx ((ρ.set i (.dt x)).set j (.dt y))
theorem snds_par {i j : Nat} (a : Snd true K ta ca fa) (r : Snd true K tb cb fb) : SndS K (tPar i j (tCons ta (tCons tb tNil))) (ca + cb) (sPar i j fa fb) :=
  ⟨fun ρ E E' h q => a.mono _ _ _ (fun x => r.mono _ _ _ fun y => h.nx _) q, fun ok hm hf k => a.go ok.env (by omega) hf fun dx v H1 p st bx vd => by
    have ok1 := ok.step st bx (by omega)
    refine r.go ok1.env (by omega) p fun dy w H2 p2 st2 bx2 vd2 => ⟨v, w, rfl, ?_⟩
    have ok2 := ok1.step st2 bx2 (by omega)
    have k1 := ok2.kpt (ok2.env.set (i := i) (s := .dt dx) fun z e => ⟨_, e, Da.mono (st2.rm ok.env.bs) vd⟩) (kpt_set (vs := [i]) (by simp))
    have k2 := k1.kpt (k1.env.set (i := j) (s := .dt dy) fun z e => ⟨_, e, vd2⟩) (kpt_set (vs := [j]) (by simp))
    exact k.nx _ _ _ _ _ p2 (k2.le (by omega)) ((Lk.step st ok.env.bs).trans (Lk.step st2 ok.env.bs))⟩
abbrev sParO (i j : Nat) (fa : FD) (fb : FE) : FS := fun ρ E => fa ρ fun x => fb ρ fun y => E.nx ((ρ.set i (.own x)).set j (.dt y))
theorem snds_parO {i j : Nat} {fl : FD} (a : SndL K ta ca fl) (r : Snd true K tb cb fb) : SndS K (tPar i j (tCons ta (tCons tb tNil))) (ca + cb) (sParO i j fl fb) :=
  ⟨fun ρ E E' h q => a.mono _ _ _ (fun x => r.mono _ _ _ fun y => h.nx _) q, fun {G H0 b0 b os m H σ ρ D E} ok hm hf k => a.go ok.env (by omega) hf fun dx xs p H1 h1 np st bx e g => by
    have ok1 := ok.step st bx (by omega)
    have bp : b ≠ some p := fun z => ok.env.al.new np (.inr (.inl z))
    have E1 := ok.env.hold np st bx ⟨_, e, rfl⟩
    refine r.go E1 (by omega) h1 fun dy w H2 p2 st2 bx2 vd2 => ⟨.ref p, w, rfl, ?_⟩
    obtain ⟨o2, l2⟩ := ok.own (i := i) (n := m + ca + cb) np (st.trans st2) bx2 (by omega) (st2 _ _ bp e) (g.mono (st2.rm E1.bs))
    have sub : ∀ a, SO G b (osSet os i p) a → SO G b os a ∨ a = p := fun a h => by
      rcases h with h | h | ⟨j, h⟩
      · exact .inl (.inl h)
      · exact .inl (.inr (.inl h))
      · rcases os_at h with ⟨_, rfl⟩ | ⟨_, h⟩
        · exact .inr rfl
        · exact .inl (.inr (.inr ⟨j, h⟩))
    have k2 := o2.kpt (o2.env.set (i := j) (s := .dt dy) fun z e => ⟨_, e, Da.mono (rm_sub sub) vd2⟩) (kpt_set (vs := [j]) (by simp))
    exact k.nx _ _ _ _ _ p2 (k2.le (by omega)) l2⟩
abbrev eL (f : FD) : FE := fun ρ Q => f ρ fun ds => Q (.list ds)
abbrev fListOf (fa : FE) : FD := fun ρ Q => fa ρ fun d => listOfD d Q
abbrev minD : List PyData → (PyData → Prop) → Prop := g1 fun d Q => intsQ (fun ns => 0 < ns.length ∧ ∀ m, m ∈ ns → (∀ y, y ∈ ns → m ≤ y) → Q (.int m)) d
abbrev allD : List PyData → (PyData → Prop) → Prop := g1 fun d Q => boolsQ (fun ns => Q (.bool (ns.all id))) d
def shal : Nat → PyData → Bool
  | _, .none => true
  | _, .bool _ => true
  | _, .int _ => true
  | _, .str _ => true
  | 0, .list _ => false
  | 0, .tuple _ => false
  | n + 1, .list ds => decide (ds.length ≤ 1000) && ds.all (shal n)
  | n + 1, .tuple ds => decide (ds.length ≤ 1000) && ds.all (shal n)
  | _, .dict _ => false
def F_same : FF := fun as Q => match as with
  | [.dt x, .dt y] => (x = y ∧ shal 5 x = true) ∧ Q (.bool true)
  | _ => False
theorem m_same : MonoF F_same := fun as P P' h q => by
  unfold F_same at q ⊢
  split at q
  · exact ⟨q.1, h _ q.2⟩
  · exact q.elim
end
end Dv
namespace Kd
open PySem PySem.Spec PyProof.Rows L2 Xg
open Dv (shal)
def topS (i : Nat) : Stmt := PySem.Challenge.pw_forthback_k13_forgotten_or_not.main.body.getD i (.Pass ⟨0, 0, 0, 0⟩)
abbrev stBox : Stmt := topS 15
abbrev stTake : Stmt := topS 16
theorem scB : FnScope ["_law_script", "_law_k", "_law_cell"] ["_law_script", "_law_k"] (defScope stBox) := ⟨rfl, rfl, rfl, by decide +kernel, rfl, by decide +kernel, by decide +kernel⟩
theorem scT : FnScope ["_law_box_here", "_law_bound", "_law_found", "_law_once"] ["_law_box_here", "_law_bound"] (defScope stTake) := ⟨rfl, rfl, rfl, by decide +kernel, rfl, by decide +kernel, by decide +kernel⟩
theorem inRange {i n : Int} (h : 0 < n) : 0 ≤ i % n ∧ i % n < n := ⟨Int.emod_nonneg i (by omega), Int.emod_lt_of_pos i h⟩
theorem pos1 : (0 : Int) < 2147483647 := by decide
theorem pos2 : (0 : Int) < 40009 := by decide
theorem pos3 : (0 : Int) < 2147483629 := by decide
section
variable {P : Program} {w : World} {K : PySem.W.Frag} {mg : Str → Option Value} {base : Heap}
def spTake : Sp := fun vs H Q _ => ∃ (b : Addr) (x y z n : Int), vs = [.ref b, .int n] ∧ H b = some (.lst [.int x, .int y, .int z]) ∧
  0 ≤ x ∧ 0 ≤ y ∧ y < 1000000000000 ∧ 0 ≤ z ∧ z < 1000000000 ∧ 0 < n ∧ n < 1073741824 ∧
  ∀ r x' z', 0 ≤ r → r < n → 0 ≤ x' → z ≤ z' → z' ≤ z + 1 → Q (.int r) (upd H b (.lst [.int x', .int y, .int z']))
theorem ok_take {f : Addr} {fd : FuncData} {k : Nat} (F : Fun K "_law_take" "_law_take" stTake f fd) :
    FnOk P w K mg base CX0 (k + 1) f fd ["_law_box_here", "_law_bound"] spTake := by
  refine F.ok scT (fun vs H Q E h => ?_) (fun cdv A outer s H vs Q E hr h => ?_)
  · obtain ⟨b, x, y, z, n, rfl, _⟩ := h
    rfl
  · obtain ⟨b, x, y, z, n, rfl, hb, hx, hy, hy2, hz, hz2, hn, hn2, q⟩ := h
    refine ⟨_, pss_cons (ps_if (pt_cmpR op_gt (pe_ix ix_list (pv 0) pe_int (fun _ _ => rfl)) pe_int (nomark _))
        (pss_cons (ps_set (i := 2) scT.nd rfl (.inl rfl) (pe_op op_mod (pe_ix ix_list (pv 0) pe_int (fun _ _ => rfl)) (pv 1)))
        (pss_cons (ps_asg (pe_op op_fdiv (pe_ix ix_list (pv 0) pe_int (fun _ _ => rfl)) (pv 1)) (pg_sub (pv 0) pe_int set_list))
        (pss_one (ps_ret (pv 2))))) pss_nil)
      (pss_cons (ps_asg (pe_op op_add (pe_ix ix_list (pv 0) pe_int (fun _ _ => rfl)) pe_int) (pg_sub (pv 0) pe_int set_list))
      (pss_cons (ps_set (i := 3) scT.nd rfl (.inl rfl) (pe_op op_mod (pe_op op_pow (pe_op op_add (pe_ix ix_list (pv 0) pe_int (fun _ _ => rfl)) (pe_op op_mul pe_int (pe_ix ix_list (pv 0) pe_int (fun _ _ => rfl)))) pe_int) pe_int))
      (pss_one (ps_ret (pe_op op_mod (pe_op op_fdiv (pe_op op_mod (pe_op op_add (pe_op op_mul (pv 3) (pe_op op_add (pe_op op_mod (pv 3) pe_int) pe_int)) (pe_op op_mul (pe_ix ix_list (pv 0) pe_int (fun _ _ => rfl)) pe_int)) pe_int) pe_int) (pv 1)))))), ?_⟩
    have s0 : SqL K H b [.int x, .int y, .int z] := .inl (.inl hb)
    refine ⟨_, rfl, b, _, 0, _, rfl, rfl, s0, atI_nat (j := 0) rfl, x, 0, rfl, rfl, _, rfl, ite2 (fun e => ?_) (fun e => ?_)⟩
    · refine ⟨_, rfl, b, _, 0, _, rfl, rfl, s0, atI_nat (j := 0) rfl, _, rfl, x, n, rfl, rfl, hn, ?_⟩
      refine ⟨_, rfl, b, _, 0, _, rfl, rfl, s0, atI_nat (j := 0) rfl, _, rfl, x, n, rfl, rfl, ⟨hn, hn2⟩, ?_⟩
      refine ⟨_, rfl, b, _, 0, 0, rfl, rfl, hb, rfl, ?_⟩
      refine ⟨_, rfl, ?_⟩
      have g := inRange (i := x) hn
      exact q _ _ _ g.1 g.2 (Int.ediv_nonneg hx (by omega)) (Int.le_refl _) (by omega)
    · refine ⟨_, rfl, b, _, 2, _, rfl, rfl, s0, atI_nat (j := 2) rfl, z, 1, rfl, rfl, ?_⟩
      refine ⟨_, rfl, b, _, 2, 2, rfl, rfl, hb, rfl, ?_⟩
      have s1 : SqL K (upd H b (.lst [.int x, .int y, .int (z + 1)])) b [.int x, .int y, .int (z + 1)] := .inl (.inl upd_same)
      refine ⟨_, rfl, b, _, 1, _, rfl, rfl, s1, atI_nat (j := 1) rfl, _, rfl, b, _, 2, _, rfl, rfl, s1, atI_nat (j := 2) rfl, 39373, z + 1, rfl, rfl, .inl ⟨by decide, by decide⟩,
        y, 39373 * (z + 1), rfl, rfl, _, 5, rfl, rfl, ⟨by decide, by decide, ?_⟩, _, 2147483647, rfl, rfl, pos1, ?_⟩
      · omega
      · have g := inRange (i := (y + 39373 * (z + 1)) ^ (5 : Int).toNat) (n := 2147483647) (by decide)
        have g2 := inRange (i := (y + 39373 * (z + 1)) ^ (5 : Int).toNat % 2147483647) (n := 40009) (by decide)
        refine ⟨_, rfl, _, rfl, _, 40009, rfl, rfl, pos2, _, 7, rfl, rfl, _, _, rfl, rfl, .inl ⟨by omega, by omega⟩,
          _, rfl, b, _, 2, _, rfl, rfl, s1, atI_nat (j := 2) rfl, z + 1, 7919, rfl, rfl, .inr ⟨by decide, by decide⟩, _, _, rfl, rfl, _, 2147483629, rfl, rfl, pos3,
          _, 64, rfl, rfl, ⟨by decide, by decide⟩, _, rfl, _, n, rfl, rfl, hn, ?_⟩
        exact q _ x (z + 1) (inRange hn).1 (inRange hn).2 hx (by omega) (Int.le_refl _)
def spBox (K : PySem.W.Frag) : Sp := fun vs H Q _ => ∃ (a : Addr) (ns : List Int) (k : Nat), vs = [.ref a, .int k] ∧ SqL K H a (ns.map V.int) ∧ k ≤ 1000 ∧
  ∀ p x y, H p = none → 0 ≤ x → 0 ≤ y → y < 1000000000000 → Q (.ref p) (upd H p (.lst [.int x, .int y, .int 0]))
theorem ok_box {f : Addr} {fd : FuncData} {k : Nat} (F : Fun K "_law_box" "_law_box" stBox f fd) (ml : mg "len" = none) (ma : mg "abs" = none) (mi : mg "int" = none) :
    FnOk P w K mg base CX0 (k + 1) f fd ["_law_script", "_law_k"] (spBox K) := by
  refine F.ok scB (fun vs H Q E h => ?_) (fun cdv A outer s H vs Q E hr h => ?_)
  · obtain ⟨a, ns, k, rfl, _⟩ := h
    rfl
  · obtain ⟨a, ns, k, rfl, hS, hk, q⟩ := h
    refine ⟨_, pss_cons (ps_set (i := 2) scB.nd rfl (.inl rfl) pe_int)
      (Evl.pss_cut (ps_if (pt_cmpR op_lt (pv 1) (pe_callB call_len_seq (by rfl) ml PySem.boot_len (pa_cons (pv 0) pa_nil)) (nomark _))
        (pss_one (ps_set (i := 2) scB.nd rfl (.inl rfl) (pe_ix ix_list (pv 0) (pv 1) (fun _ _ => rfl)))) pss_nil)
      (pss_one (ps_ret (pe_lst (pa_cons (pe_op op_mul (pe_callB call_abs (by rfl) ma (by decide +kernel) (pa_cons (pv 2) pa_nil))
          (pe_callTy call_int1 (by rfl) mi (by decide +kernel) (pa_cons (pe_cmpR op_ge (pe_callB call_abs (by rfl) ma (by decide +kernel) (pa_cons (pv 2) pa_nil)) (pe_op op_pow pe_int pe_int) (nomark _)) pa_nil)))
        (pa_cons (pe_op op_add (pe_op op_add (pe_op op_mod (pv 2) pe_int) (pe_op op_mul pe_int (pv 1))) pe_int)
        (pa_cons pe_int pa_nil))))))), ?_⟩
    refine ⟨fun σ' H' => H' = H ∧ ∃ c : Int, σ' = [some (.ref a), some (.int k), some (.int c)], ?_, fun σ' H' h => ?_⟩
    · refine ⟨_, rfl, _, rfl, a, _, rfl, .inl hS, _, _, rfl, rfl, _, rfl, ite2 (fun e => ?_) (fun e => ?_)⟩
      · have e1 : (k : Int) < ((ns.map V.int).length : Nat) := of_decide_eq_true e
        have e2 : k < ns.length := by
          rw [List.length_map] at e1
          omega
        have g : (ns.map V.int)[k]? = some (.int ns[k]) := by
          rw [List.getElem?_map, List.getElem?_eq_getElem e2]
          rfl
        exact ⟨_, rfl, _, rfl, a, _, _, _, rfl, rfl, hS, atI_nat g, rfl, ns[k], rfl⟩
      · exact ⟨rfl, 0, rfl⟩
    · obtain ⟨rfl, c, rfl⟩ := h
      have g := inRange (i := c) (n := 2147483629) (by decide)
      refine ⟨_, rfl, c, rfl, _, rfl, c, rfl, 10, 18, rfl, rfl, ⟨by decide, by decide, by decide⟩, _, _, rfl, rfl, .inr ⟨_, rfl, ?_⟩⟩
      have hb : ∀ b : Bool, (0 : Int) ≤ (if b = true then 1 else 0) ∧ (if b = true then (1 : Int) else 0) ≤ 1 := by decide
      have ha : (0 : Int) ≤ (if c < 0 then -c else c) := by split <;> omega
      refine ⟨_, _, rfl, rfl, .inr ⟨?_, ?_⟩, _, rfl, c, 2147483629, rfl, rfl, pos3, _, rfl, 7919, k, rfl, rfl, .inl ⟨by decide, by decide⟩, _, _, rfl, rfl, _, 11, rfl, rfl,
        (show 3 ≤ sizeLine by decide), fun p hp => ?_⟩
      · exact Int.lt_of_lt_of_le (by decide) (hb _).1
      · exact Int.lt_of_le_of_lt (hb _).2 (by decide)
      · exact q p _ _ hp (Int.mul_nonneg ha (hb _).1) (by omega) (by omega)
end
abbrev stSame : Stmt := topS 17
theorem scS : FnScope ["_law_found", "_law_due", "_law_one", "_law_two"] ["_law_found", "_law_due"] (defScope stSame) := ⟨rfl, rfl, rfl, by decide +kernel, rfl, by decide +kernel, by decide +kernel⟩
section
variable {K : PySem.W.Frag} {H H' : Hp} {a b : Addr} {xs ys : List V}
theorem tyx_l (h : SqL K H a xs) : TyX K H (.ref a) (.type "list") := by
  rcases h with (h | ⟨o, h⟩) | ⟨o, its, n, h1, h2, _⟩
  · exact .base (.lst h)
  · exact .base (.frz h)
  · exact .kList h1 h2
theorem tyx_t (h : SqT K H a xs) : TyX K H (.ref a) (.type "tuple") := by
  rcases h with (h | ⟨o, h⟩) | ⟨o, its, n, h1, h2, _⟩
  · exact .base (.tup h)
  · exact .fTuple h
  · exact .kTuple h1 h2
mutual
theorem dp_mono (e : Evl.Ex H H') : ∀ {v : V} {d : PyData}, Dp K H v d → Dp K H' v d
  | _, _, .non => .non
  | _, _, .bl b => .bl b
  | _, _, .int i => .int i
  | _, _, .str x => .str x
  | _, _, .lst h g => .lst (Evl.ex_l e h) (dpa_mono e g)
  | _, _, .tup h g => .tup (Evl.ex_t e h) (dpa_mono e g)
theorem dpa_mono (e : Evl.Ex H H') : ∀ {vs : List V} {ds : List PyData}, DpAll K H vs ds → DpAll K H' vs ds
  | _, _, .nil => .nil
  | _, _, .cons h g => .cons (dp_mono e h) (dpa_mono e g)
end
theorem dpa_len : ∀ {vs : List V} {ds : List PyData}, DpAll K H vs ds → vs.length = ds.length
  | _, _, .nil => rfl
  | _, _, .cons _ g => by rw [List.length_cons, List.length_cons, dpa_len g]
theorem dpa_at : ∀ {vs : List V} {ds : List PyData} {i : Nat} {v : V}, DpAll K H vs ds → vs[i]? = some v → ∃ d, ds[i]? = some d ∧ Dp K H v d
  | _, _, _, _, .nil, e => by simp at e
  | _, _, 0, _, .cons h g, e => by
    simp at e
    subst e
    exact ⟨_, rfl, h⟩
  | _, _, i + 1, v, .cons h g, e => dpa_at (i := i) g (by simpa using e)
theorem walk_zipT {n : Nat} (hn : n = min xs.length ys.length) : Walk (RZ.ItzT K a b) n (fun H => SqT K H a xs ∧ SqT K H b ys) (YPair (fun i => xs[i]?) (fun i => ys[i]?)) := by
  subst hn
  refine ⟨fun i _ hi q => ?_, fun _ q => ⟨xs, ys, q.1, q.2, by omega⟩, fun i H v H' _ q y => ?_⟩
  · exact ⟨xs, ys, xs[i]'(by omega), ys[i]'(by omega), q.1, q.2, List.getElem?_eq_getElem _, List.getElem?_eq_getElem _⟩
  · obtain ⟨T, x, z, g1, g2, g3, g4, g5⟩ := y
    exact ⟨T, x, z, g1, g2, g3, g4 xs q.1, g5 ys q.2⟩
end
section
variable {P : Program} {w : World} {K : PySem.W.Frag} {mg : Str → Option Value} {base : Heap}
theorem ifY {b : Bool} {A B : Prop} (h : b = true) (hA : A) : if b = true then A else B := by
  rw [if_pos h]
  exact hA
theorem ifN {b : Bool} {A B : Prop} (h : b = false) (hB : B) : if b = true then A else B := by
  rw [h]
  exact iteF hB
theorem kit2 {K : PySem.W.Frag} {t : String} {b c : Bool} (h1 : kitB t "list" = some b) (h2 : kitB t "tuple" = some c) : PySem.W.kitAny K (.type t) [.type "list", .type "tuple"] = some (b || c) := by
  refine kitAny_cons (kit_ty h1) (fun e => ?_) (fun e => by rw [e]; rfl)
  subst e
  refine kitAny_cons (kit_ty h2) (fun e => ?_) (fun e => by rw [e]; rfl)
  subst e
  exact kitAny_nil
theorem two_cls : Paired ClsV [.ty "list", .ty "tuple"] [.type "list", .type "tuple"] := .cons (.ty _) (.cons (.ty _) .nil)
theorem two_size : 2 ≤ sizeLine := by decide
theorem all_yes : ∀ n : Nat, (List.replicate n true).all id = true
  | 0 => rfl
  | n + 1 => by rw [List.replicate_succ, List.all_cons, all_yes n]; rfl
theorem all_at {α : Type} {p : α → Bool} : ∀ {l : List α} {i : Nat} {a : α}, l.all p = true → l[i]? = some a → p a = true := fun {l i a} h e =>
  List.all_eq_true.mp h a (List.mem_of_getElem? e)
def spSame (K : PySem.W.Frag) (n : Nat) : Sp := fun vs H Q _ => ∃ (x y : V) (d : PyData), vs = [x, y] ∧ Dp K H x d ∧ Dp K H y d ∧ shal n d = true ∧ ∀ H', Evl.Ex H H' → Q (.bl true) H'
def spPrev (K : PySem.W.Frag) : Nat → Sp
  | 0 => fun _ _ _ _ => False
  | n + 1 => spSame K n
structure Names (mg : Str → Option Value) : Prop where
  isi : mg "isinstance" = none
  lst : mg "list" = none
  tup : mg "tuple" = none
  len : mg "len" = none
  all : mg "all" = none
  zip : mg "zip" = none
  str : mg "str" = none
  int : mg "int" = none
  bool : mg "bool" = none
theorem bt_isi : bootBuiltins "isinstance" = some (.builtin "isinstance") := by decide +kernel
theorem bt_tup : bootBuiltins "tuple" = some (.type "tuple") := by decide +kernel
theorem bt_lst : bootBuiltins "list" = some (.type "list") := by decide +kernel
theorem bt_str : bootBuiltins "str" = some (.type "str") := by decide +kernel
theorem bt_int : bootBuiltins "int" = some (.type "int") := by decide +kernel
theorem bt_bool : bootBuiltins "bool" = some (.type "bool") := by decide +kernel
theorem bt_all : bootBuiltins "all" = some (.builtin "all") := by decide +kernel
theorem ok_same {f : Addr} {fd : FuncData} (F : Fun K "_law_same" "_law_same" stSame f fd) (b : Binds K fd ["_law_found", "_law_due"] []) (gs : mg "_law_same" = some (.ref f)) (N : Names mg) :
    ∀ n : Nat, FnOk P w K mg base CX0 n f fd ["_law_found", "_law_due"] (spPrev K n)
  | 0 => ⟨fun _ _ _ _ h => h.elim, fun _ _ _ _ _ _ _ _ _ _ _ _ _ h => h.elim⟩
  | n + 1 => by
    have G := ok_same F b gs N n
    refine F.ok scS (fun vs H Q E h => ?_) (fun cdv A outer s H vs Q E hr h => ?_)
    · obtain ⟨x, y, d, rfl, _⟩ := h
      rfl
    obtain ⟨x, y, d, rfl, hx, hy, hd, q⟩ := h
    refine ⟨_, pss_cons (ps_if (pt_val (pe_callB call_isiT (by rfl) N.isi bt_isi (pa_cons (pv 1) (pa_cons (pe_tup (pa_cons (pe_bltn (v := .ty "list") (by rfl) N.lst bt_lst rfl) (pa_cons (pe_bltn (v := .ty "tuple") (by rfl) N.tup bt_tup rfl) pa_nil))) pa_nil))))
        (pss_cons (ps_if (pw_or (pt_cmpR op_ne (pe_callB call_isi (by rfl) N.isi bt_isi (pa_cons (pv 0) (pa_cons (pe_bltn (v := .ty "list") (by rfl) N.lst bt_lst rfl) pa_nil))) (pe_callB call_isi (by rfl) N.isi bt_isi (pa_cons (pv 1) (pa_cons (pe_bltn (v := .ty "list") (by rfl) N.lst bt_lst rfl) pa_nil))) (nomark _)) (pw_or1 (pt_cmpR op_ne (pe_callB call_isi (by rfl) N.isi bt_isi (pa_cons (pv 0) (pa_cons (pe_bltn (v := .ty "tuple") (by rfl) N.tup bt_tup rfl) pa_nil))) (pe_callB call_isi (by rfl) N.isi bt_isi (pa_cons (pv 1) (pa_cons (pe_bltn (v := .ty "tuple") (by rfl) N.tup bt_tup rfl) pa_nil))) (nomark _)))).pt
          (pss_one (ps_ret pe_bl)) pss_nil)
        (pss_cons (ps_if (pt_cmpR op_ne (pe_callB call_len_seq (by rfl) N.len PySem.boot_len (pa_cons (pv 0) pa_nil)) (pe_callB call_len_seq (by rfl) N.len PySem.boot_len (pa_cons (pv 1) pa_nil)) (nomark _))
          (pss_one (ps_ret pe_bl)) pss_nil)
        (pss_one (ps_ret (pe_callB (cr_all rfl) (by rfl) N.all bt_all (pa_cons
          (pe_lc (own := [("_law_one", 2), ("_law_two", 3)]) (g := gTup K 2 (gCons (gName 2) (gCons (gName 3) gNil))) (tt := tYes) rfl scS.nd (RZ.pi_zipA (by rfl) N.zip (pa_cons (pv 0) (pa_cons (pv 1) pa_nil)))
            (blkOk_by (N := ["_law_found", "_law_due", "_law_one", "_law_two"]) (sc := defScope stSame) (by decide +kernel))
            (fun _ _ _ _ _ => pg_tup rfl (pgs_cons (pg_name (i := 2) scS.nd rfl (.inl rfl)) (pgs_cons (pg_name (i := 3) scS.nd rfl (.inl rfl)) pgs_nil)))
            (fun _ _ _ _ _ => pts_nil)
            (fun _ _ _ _ _ => pe_call G hr (by rfl) gs F.kp b .nil pass0 (pa_cons (pv 2) (pa_cons (pv 3) pa_nil))))
          pa_nil)))))) pss_nil)
      (pss_cons (ps_if (pw_or (pt_cmp (pc_isN (pv 1))) (pw_or1 (pt_val (pe_callB call_isi (by rfl) N.isi bt_isi (pa_cons (pv 1) (pa_cons (pe_bltn (v := .ty "str") (by rfl) N.str bt_str rfl) pa_nil)))))).pt
        (pss_one (ps_ret (pe_and (pe_cmpR op_eq (pv 0) (pv 1) (nomark _)) (pe_one (pe_cmpR op_eq (pe_callB call_isi (by rfl) N.isi bt_isi (pa_cons (pv 0) (pa_cons (pe_bltn (v := .ty "str") (by rfl) N.str bt_str rfl) pa_nil))) (pe_callB call_isi (by rfl) N.isi bt_isi (pa_cons (pv 1) (pa_cons (pe_bltn (v := .ty "str") (by rfl) N.str bt_str rfl) pa_nil))) (nomark _)))))) pss_nil)
      (pss_one (ps_ret (pe_and (pe_callB call_isi (by rfl) N.isi bt_isi (pa_cons (pv 0) (pa_cons (pe_bltn (v := .ty "int") (by rfl) N.int bt_int rfl) pa_nil))) (pe_and (pe_cmpR op_eq (pe_callB call_isi (by rfl) N.isi bt_isi (pa_cons (pv 0) (pa_cons (pe_bltn (v := .ty "bool") (by rfl) N.bool bt_bool rfl) pa_nil))) (pe_callB call_isi (by rfl) N.isi bt_isi (pa_cons (pv 1) (pa_cons (pe_bltn (v := .ty "bool") (by rfl) N.bool bt_bool rfl) pa_nil))) (nomark _)) (pe_one (pe_cmpR op_eq (pv 0) (pv 1) (nomark _)))))))), ?_⟩
    cases d with
    | none =>
      cases hx
      cases hy
      refine ⟨_, rfl, two_size, fun t nt => ?_⟩
      have e0 : Evl.Ex H (upd H t (.tup [.ty "list", .ty "tuple"])) := Evl.Ex.new nt
      refine ⟨_, t, _, _, _, false, rfl, upd_same, two_cls, .base (.non), kit2 (b := false) (c := false) (by decide +kernel) (by decide +kernel), _, rfl, iteF ?_⟩
      refine ⟨_, rfl, _, rfl, iteT ?_⟩
      refine iteT ?_
      refine ⟨_, rfl, _, rfl, rfl, _, rfl, ifY (decide_eq_true rfl) ?_⟩
      refine ⟨_, rfl, _, _, _, _, false, rfl, .ty _, .base (.non), kit_ty (by decide +kernel), _, rfl, _, _, _, _, false, rfl, .ty _, .base (.non), kit_ty (by decide +kernel), rfl, ?_⟩
      exact q _ e0
    | bool b0 =>
      cases hx
      cases hy
      refine ⟨_, rfl, two_size, fun t nt => ?_⟩
      have e0 : Evl.Ex H (upd H t (.tup [.ty "list", .ty "tuple"])) := Evl.Ex.new nt
      refine ⟨_, t, _, _, _, false, rfl, upd_same, two_cls, .base (.bl b0), kit2 (b := false) (c := false) (by decide +kernel) (by decide +kernel), _, rfl, iteF ?_⟩
      refine ⟨_, rfl, _, rfl, ifN (decide_eq_false (fun z => nomatch z)) ?_⟩
      refine ⟨_, rfl, _, _, _, _, false, rfl, .ty _, .base (.bl b0), kit_ty (by decide +kernel), _, rfl, ?_⟩
      refine iteF ?_
      refine ⟨_, rfl, _, _, _, _, true, rfl, .ty _, .base (.bl b0), kit_ty (by decide +kernel), _, rfl, iteT ?_⟩
      refine ⟨_, rfl, _, _, _, _, true, rfl, .ty _, .base (.bl b0), kit_ty (by decide +kernel), _, rfl, _, _, _, _, true, rfl, .ty _, .base (.bl b0), kit_ty (by decide +kernel), rfl, _, rfl, ifY (decide_eq_true rfl) ?_⟩
      refine ⟨_, rfl, _, rfl, rfl, ?_⟩
      rw [decide_eq_true rfl]
      exact q _ e0
    | int i0 =>
      cases hx
      cases hy
      refine ⟨_, rfl, two_size, fun t nt => ?_⟩
      have e0 : Evl.Ex H (upd H t (.tup [.ty "list", .ty "tuple"])) := Evl.Ex.new nt
      refine ⟨_, t, _, _, _, false, rfl, upd_same, two_cls, .base (.int i0), kit2 (b := false) (c := false) (by decide +kernel) (by decide +kernel), _, rfl, iteF ?_⟩
      refine ⟨_, rfl, _, rfl, ifN (decide_eq_false (fun z => nomatch z)) ?_⟩
      refine ⟨_, rfl, _, _, _, _, false, rfl, .ty _, .base (.int i0), kit_ty (by decide +kernel), _, rfl, ?_⟩
      refine iteF ?_
      refine ⟨_, rfl, _, _, _, _, true, rfl, .ty _, .base (.int i0), kit_ty (by decide +kernel), _, rfl, iteT ?_⟩
      refine ⟨_, rfl, _, _, _, _, false, rfl, .ty _, .base (.int i0), kit_ty (by decide +kernel), _, rfl, _, _, _, _, false, rfl, .ty _, .base (.int i0), kit_ty (by decide +kernel), rfl, _, rfl, ifY (decide_eq_true rfl) ?_⟩
      refine ⟨_, rfl, _, rfl, rfl, ?_⟩
      rw [decide_eq_true rfl]
      exact q _ e0
    | str z0 =>
      cases hx
      cases hy
      refine ⟨_, rfl, two_size, fun t nt => ?_⟩
      have e0 : Evl.Ex H (upd H t (.tup [.ty "list", .ty "tuple"])) := Evl.Ex.new nt
      refine ⟨_, t, _, _, _, false, rfl, upd_same, two_cls, .base (.str z0), kit2 (b := false) (c := false) (by decide +kernel) (by decide +kernel), _, rfl, iteF ?_⟩
      refine ⟨_, rfl, _, rfl, ifN (decide_eq_false (fun z => nomatch z)) ?_⟩
      refine ⟨_, rfl, _, _, _, _, true, rfl, .ty _, .base (.str z0), kit_ty (by decide +kernel), _, rfl, ?_⟩
      refine iteT ?_
      refine ⟨_, rfl, _, rfl, rfl, _, rfl, ifY (decide_eq_true rfl) ?_⟩
      refine ⟨_, rfl, _, _, _, _, true, rfl, .ty _, .base (.str z0), kit_ty (by decide +kernel), _, rfl, _, _, _, _, true, rfl, .ty _, .base (.str z0), kit_ty (by decide +kernel), rfl, ?_⟩
      exact q _ e0
    | list ds =>
      cases hx with
      | lst h1 g1 =>
      cases hy with
      | lst h2 g2 =>
      rename_i a1 xs a2 ys
      cases n with
      | zero => exact absurd hd (by simp [shal])
      | succ n =>
      have hd0 : (decide (ds.length ≤ 1000) && ds.all (shal n)) = true := by
        rw [shal] at hd
        exact hd
      have hd' : ds.all (shal n) = true := (Bool.and_eq_true_iff.mp hd0).2
      have hsz : ds.length ≤ 1000 := of_decide_eq_true (Bool.and_eq_true_iff.mp hd0).1
      have l1 := dpa_len g1
      have l2 := dpa_len g2
      refine ⟨_, rfl, two_size, fun t nt => ?_⟩
      have e0 : Evl.Ex H (upd H t (.tup [.ty "list", .ty "tuple"])) := Evl.Ex.new nt
      have L1 := Evl.ex_l e0 h1
      have L2 := Evl.ex_l e0 h2
      refine ⟨_, t, _, _, _, true, rfl, upd_same, two_cls, tyx_l L2, kit2 (b := true) (c := false) (by decide +kernel) (by decide +kernel), _, rfl, iteT ?_⟩
      refine ⟨_, rfl, _, _, _, _, true, rfl, .ty _, tyx_l L1, kit_ty (by decide +kernel), _, rfl, _, _, _, _, true, rfl, .ty _, tyx_l L2, kit_ty (by decide +kernel), rfl, _, rfl, ifN rfl ?_⟩
      refine ⟨_, rfl, _, _, _, _, false, rfl, .ty _, tyx_l L1, kit_ty (by decide +kernel), _, rfl, _, _, _, _, false, rfl, .ty _, tyx_l L2, kit_ty (by decide +kernel), rfl, _, rfl, ifN rfl ?_⟩
      refine ⟨_, rfl, a1, _, rfl, .inl L1, _, rfl, a2, _, rfl, .inl L2, rfl, _, rfl, ifN ?_ ?_⟩
      · rw [l1, l2, decide_eq_true rfl]
        rfl
      refine ⟨_, rfl, _, rfl, a1, a2, xs, ys, rfl, .inl ⟨L1, L2, fun D nD => lc_it (walk_zip (xs := xs) (ys := ys) rfl)
        (fun i H' => Evl.Ex (upd H t (.tup [.ty "list", .ty "tuple"])) H' ∧ H' D = some (.lst ((List.replicate i true).map V.bl))) ⟨Evl.Ex.new nD, upd_same⟩
        (fun i H' _ p => ⟨Evl.ex_l p.1 L1, Evl.ex_l p.1 L2⟩) (fun i x H2 H3 hi p y => ?_) (fun H' p => ?_)⟩⟩
      · obtain ⟨T, u, v, rfl, nT, rfl, eu, ev⟩ := y
        have e2 := e0.trans (p.1.trans (Evl.Ex.new (o := .tup [u, v]) nT))
        obtain ⟨d1, k1, j1⟩ := dpa_at g1 eu
        obtain ⟨d2, k2, j2⟩ := dpa_at g2 ev
        rw [k1] at k2
        cases k2
        refine ⟨T, _, rfl, .inl (.inl upd_same), rfl, _, _, rfl, _, [], rfl, rfl, rfl, ?_⟩
        unfold tYes
        dsimp only
        rw [if_pos rfl]
        refine ⟨_, rfl, _, rfl, u, v, d1, rfl, dp_mono e2 j1, dp_mono e2 j2, all_at hd' k1, fun H4 e4 => ?_⟩
        have hD4 : H4 D = some (.lst ((List.replicate i true).map V.bl)) := e4 _ _ (by
          rw [upd_ne (ne_of_none p.2 nT)]
          exact p.2)
        refine ⟨_, hD4, ?_, ?_, ?_⟩
        · rw [List.length_map, List.length_replicate]
          exact Evl.sz_lt (by have := hsz; omega)
        · exact Evl.Ex.mut ((p.1.trans (Evl.Ex.new nT)).trans e4) nD
        · rw [upd_same, List.replicate_succ', List.map_append]
          rfl
      · refine ⟨D, _, rfl, .inl (.inl p.2), ?_⟩
        rw [all_yes]
        exact q _ (e0.trans p.1)
    | tuple ds =>
      cases hx with
      | tup h1 g1 =>
      cases hy with
      | tup h2 g2 =>
      rename_i a1 xs a2 ys
      cases n with
      | zero => exact absurd hd (by simp [shal])
      | succ n =>
      have hd0 : (decide (ds.length ≤ 1000) && ds.all (shal n)) = true := by
        rw [shal] at hd
        exact hd
      have hd' : ds.all (shal n) = true := (Bool.and_eq_true_iff.mp hd0).2
      have hsz : ds.length ≤ 1000 := of_decide_eq_true (Bool.and_eq_true_iff.mp hd0).1
      have l1 := dpa_len g1
      have l2 := dpa_len g2
      refine ⟨_, rfl, two_size, fun t nt => ?_⟩
      have e0 : Evl.Ex H (upd H t (.tup [.ty "list", .ty "tuple"])) := Evl.Ex.new nt
      have L1 := Evl.ex_t e0 h1
      have L2 := Evl.ex_t e0 h2
      refine ⟨_, t, _, _, _, true, rfl, upd_same, two_cls, tyx_t L2, kit2 (b := false) (c := true) (by decide +kernel) (by decide +kernel), _, rfl, iteT ?_⟩
      refine ⟨_, rfl, _, _, _, _, false, rfl, .ty _, tyx_t L1, kit_ty (by decide +kernel), _, rfl, _, _, _, _, false, rfl, .ty _, tyx_t L2, kit_ty (by decide +kernel), rfl, _, rfl, ifN rfl ?_⟩
      refine ⟨_, rfl, _, _, _, _, true, rfl, .ty _, tyx_t L1, kit_ty (by decide +kernel), _, rfl, _, _, _, _, true, rfl, .ty _, tyx_t L2, kit_ty (by decide +kernel), rfl, _, rfl, ifN rfl ?_⟩
      refine ⟨_, rfl, a1, _, rfl, .inr L1, _, rfl, a2, _, rfl, .inr L2, rfl, _, rfl, ifN ?_ ?_⟩
      · rw [l1, l2, decide_eq_true rfl]
        rfl
      refine ⟨_, rfl, _, rfl, a1, a2, xs, ys, rfl, .inr ⟨L1, L2, fun D nD => lc_it (walk_zipT (xs := xs) (ys := ys) rfl)
        (fun i H' => Evl.Ex (upd H t (.tup [.ty "list", .ty "tuple"])) H' ∧ H' D = some (.lst ((List.replicate i true).map V.bl))) ⟨Evl.Ex.new nD, upd_same⟩
        (fun i H' _ p => ⟨Evl.ex_t p.1 L1, Evl.ex_t p.1 L2⟩) (fun i x H2 H3 hi p y => ?_) (fun H' p => ?_)⟩⟩
      · obtain ⟨T, u, v, rfl, nT, rfl, eu, ev⟩ := y
        have e2 := e0.trans (p.1.trans (Evl.Ex.new (o := .tup [u, v]) nT))
        obtain ⟨d1, k1, j1⟩ := dpa_at g1 eu
        obtain ⟨d2, k2, j2⟩ := dpa_at g2 ev
        rw [k1] at k2
        cases k2
        refine ⟨T, _, rfl, .inl (.inl upd_same), rfl, _, _, rfl, _, [], rfl, rfl, rfl, ?_⟩
        unfold tYes
        dsimp only
        rw [if_pos rfl]
        refine ⟨_, rfl, _, rfl, u, v, d1, rfl, dp_mono e2 j1, dp_mono e2 j2, all_at hd' k1, fun H4 e4 => ?_⟩
        have hD4 : H4 D = some (.lst ((List.replicate i true).map V.bl)) := e4 _ _ (by
          rw [upd_ne (ne_of_none p.2 nT)]
          exact p.2)
        refine ⟨_, hD4, ?_, ?_, ?_⟩
        · rw [List.length_map, List.length_replicate]
          exact Evl.sz_lt (by have := hsz; omega)
        · exact Evl.Ex.mut ((p.1.trans (Evl.Ex.new nT)).trans e4) nD
        · rw [upd_same, List.replicate_succ', List.map_append]
          rfl
      · refine ⟨D, _, rfl, .inl (.inl p.2), ?_⟩
        rw [all_yes]
        exact q _ (e0.trans p.1)
    | dict kvs => cases hx
end
open Dv
section
variable {P : Program} {w : World} {K : PySem.W.Frag} {mg : Str → Option Value} {base : Heap}
theorem g_take {f : Addr} {fd : FuncData} (F : Fun K "_law_take" "_law_take" stTake f fd) : FnG P w K mg base 1 f fd ["_law_box_here", "_law_bound"] (spD K 1 F_take) :=
  impG (toG (ok_take (k := 0) F)) fun vs H Q h => by
    obtain ⟨b, S, m, as, hA, bx, bs, al, hm, hF⟩ := h
    unfold F_take at hF
    split at hF
    · rename_i n
      cases hA with
      | cons a1 a2 =>
      cases a2 with
      | cons a2 a3 =>
      cases a3
      cases a2
      obtain ⟨p, rfl, rfl⟩ := a1
      obtain ⟨x, y, z, h1, h2, h3, h4, h5, h6⟩ := bx
      have hm' : m < 900000000 := by
        have : m + 1 ≤ 900000000 := hm
        omega
      refine ⟨p, x, y, z, n, rfl, h6, h1, h2, h3, h4, by omega, hF.1.1, hF.1.2, fun r x' z' g1 g2 g3 g4 g5 => hF.2 r g1 g2 _ _ (fun c o hc e => .lst (fun w => hc (by rw [w])) e h6) ⟨x', y, z', g3, h2, h3, by omega, by omega, upd_same⟩ (.int _)⟩
    · exact hF.elim
theorem g_box {f : Addr} {fd : FuncData} (F : Fun K "_law_box" "_law_box" stBox f fd) (ml : mg "len" = none) (ma : mg "abs" = none) (mi : mg "int" = none) : FnG P w K mg base 1 f fd ["_law_script", "_law_k"] (spBx K) :=
  impG (toG (ok_box (k := 0) F ml ma mi)) fun vs H Q h => h
theorem g_same {f : Addr} {fd : FuncData} (F : Fun K "_law_same" "_law_same" stSame f fd) (b : Binds K fd ["_law_found", "_law_due"] []) (gs : mg "_law_same" = some (.ref f)) (N : Names mg) : FnG P w K mg base 6 f fd ["_law_found", "_law_due"] (spD K 0 F_same) :=
  impG (toG (ok_same F b gs N 6)) fun vs H Q h => by
    obtain ⟨b, S, m, as, hA, bx, bs, al, hm, hF⟩ := h
    unfold F_same at hF
    split at hF
    · rename_i x y
      obtain ⟨⟨rfl, sh⟩, hF⟩ := hF
      cases hA with
      | cons a1 a2 =>
      cases a2 with
      | cons a2 a3 =>
      cases a3
      exact ⟨_, _, x, rfl, (Da.mono rm_le a1).dp, (Da.mono rm_le a2).dp, sh, fun H' e => hF _ _ (Stp.ex e) (bx.ex e) (.bl true)⟩
    · exact hF.elim
end
end Kd
namespace Dv
open PySem PySem.Spec PyProof.Rows L2 Xg
open Classical
theorem law_sp {K : PySem.W.Frag} {c : Nat} {F : FF} (mF : MonoF F) (hc : c ≤ LIM) {H : Hp} {a : Addr} {ns : List Int} {E : XK} (hS : SqL K H a (ns.map V.int)) (hT : Tbs K H) (hF : F [.scr ns] (fun d => d = .bool true)) : spD K c F [.ref a] H (fun v _ => v = .bl true) E := by
  have b0 : BxO none H 0 := trivial
  have bs : ∀ p : Addr, (none : Option Addr) = some p → (fun _ : Addr => False) p := fun p e => nomatch e
  have al : Al (fun _ => False) H ∧ Tbs K H := ⟨fun a h => h.elim, hT⟩
  have hS' : SqL K (rm H fun _ => False) a (ns.map V.int) := by
    rcases hS with (h | ⟨o, h⟩) | h
    · exact .inl (.inl (rm_in id h))
    · exact .inl (.inr ⟨o, rm_in id h⟩)
    · exact .inr h
  refine ⟨none, fun _ => False, 0, [.scr ns], .cons ⟨a, rfl, hS'⟩ .nil, b0, bs, al, by omega, mF _ _ _ (fun d e v H' _ _ hd => ?_) hF⟩
  subst e
  cases hd
  rfl
end Dv
namespace Dv
open PySem PySem.Spec PyProof.Rows L2 Xg
end Dv
namespace Dv
open PySem PySem.Spec PyProof.Rows L2 Xg
open Classical
section
variable {K : PySem.W.Frag} {G : Addr → Prop} {H0 : Hp} {b0 b : Option Addr} {os : Nat → Option Addr} {m : Nat} {H : Hp} {σ : L2.St} {ρ : List Sl} {t : TS} {c : Nat} {f : FS}
abbrev frz (i : Nat) (ρ : List Sl) : List Sl := match ρ[i]? with
  | some (.own ds) => ρ.set i (.dt (.list ds))
  | _ => ρ
theorem Ok.frz {i : Nat} {ds : List PyData} (ok : Ok K G H0 b0 b os m H σ ρ) (hi : ρ[i]? = some (.own ds)) : ∃ os', Ok K G H0 b0 b os' m H σ (ρ.set i (.dt (.list ds))) ∧ Lk (SO G b os) H (SO G b os') H := by
  obtain ⟨p, vs, e1, e2, e3, e4, e5⟩ := ok.env.sl i _ hi
  obtain ⟨p', q1, q2⟩ := ok.slo i _ hi rfl
  rw [e1] at q2
  cases q2
  have p0 := ok.new _ _ q1
  have sub : ∀ a, SO G b (fun j => if j = i then none else os j) a → SO G b os a := fun a h => by
    rcases h with h | h | ⟨j, h⟩
    · exact .inl h
    · exact .inr (.inl h)
    · refine .inr (.inr ⟨j, ?_⟩)
      dsimp only at h
      split at h
      · cases h
      · exact h
  have nS : ¬ SO G b (fun j => if j = i then none else os j) p := fun h => by
    rcases h with h | h | ⟨j, h⟩
    · exact ok.al0.no p h p0
    · exact e3 h
    · dsimp only at h
      split at h
      · cases h
      · rename_i n
        exact n (ok.inj _ _ _ h q1)
  have ex : Evl.Ex (rm H (SO G b os)) (rm H (SO G b fun j => if j = i then none else os j)) := rm_sub sub
  refine ⟨fun j => if j = i then none else os j, ⟨⟨by rw [List.length_set]; exact ok.env.len, fun j s h => ?_, ok.env.bx, fun q e => .inr (.inl e), fun a h => ok.env.al a (sub a h), ok.env.tb⟩, fun j k a h1 h2 => ?_, fun j a h => ?_, ok.old, ok.bn, ok.obx, fun j a h => ?_, fun j es h ow => ?_, ok.al0, ok.bG⟩, fun a o n _ h => ⟨h, fun z => n (sub a z)⟩⟩
  · rw [List.getElem?_set] at h
    by_cases z : i = j
    · subst z
      rw [if_pos rfl] at h
      split at h
      · cases h
        exact ⟨.ref p, e1, .lst (rm_in nS e4) (e5.mono ex)⟩
      · cases h
    · rw [if_neg z] at h
      have q := ok.env.sl j s h
      cases s with
      | no => trivial
      | dt d => exact let ⟨v, r1, g⟩ := q; ⟨v, r1, g.mono ex⟩
      | own ts =>
        obtain ⟨p3, us, r1, s3, n3, g3, k3⟩ := q
        obtain ⟨p4, w1, w2⟩ := ok.slo j _ h rfl
        rw [r1] at w2
        cases w2
        exact ⟨p3, us, r1, .inr (.inr ⟨j, by show (if j = i then none else os j) = some p3; rw [if_neg fun w => z w.symm]; exact w1⟩), n3, g3, k3.mono ex⟩
      | box => exact q
      | scr ns => exact let ⟨v, r1, g⟩ := q; ⟨v, r1, Evl.ex_l ex g⟩
      | op g => exact let ⟨v, r1, g⟩ := q; ⟨v, r1, g.mono ex⟩
      | fn k ds => exact let ⟨v, r1, g⟩ := q; ⟨v, r1, g.mono ex⟩
      | exc k ds => exact let ⟨v, r1, g⟩ := q; ⟨v, r1, g.mono ex⟩
      | dct ts =>
        obtain ⟨p3, us, r1, s3, n3, g3, k3⟩ := q
        obtain ⟨p4, w1, w2⟩ := ok.slo j _ h rfl
        rw [r1] at w2
        cases w2
        exact ⟨p3, us, r1, .inr (.inr ⟨j, by show (if j = i then none else os j) = some p3; rw [if_neg fun w => z w.symm]; exact w1⟩), n3, g3, k3.mono ex⟩
      | dck k => exact let ⟨v, r1, g⟩ := q; ⟨v, r1, g.mono ex⟩
      | frt k => exact let ⟨v, r1, g⟩ := q; ⟨v, r1, g.mono ex⟩
  · split at h1
    · cases h1
    · split at h2
      · cases h2
      · exact ok.inj _ _ _ h1 h2
  · split at h
    · cases h
    · exact ok.new _ _ h
  · split at h
    · cases h
    · exact ok.bo _ _ h
  · rw [List.getElem?_set] at h
    by_cases z : i = j
    · rw [if_pos z] at h
      split at h
      · cases h
        exact absurd ow Bool.false_ne_true
      · cases h
    · rw [if_neg z] at h
      obtain ⟨p4, w1, w2⟩ := ok.slo j _ h ow
      exact ⟨p4, by show (if j = i then none else os j) = some p4; rw [if_neg fun w => z w.symm]; exact w1, w2⟩
abbrev sParP (i j : Nat) (fa : FE) (fb : FD) : FS := fun ρ E => fa ρ fun x => fb ρ fun y => E.nx ((ρ.set i (.dt x)).set j (.own y))
theorem snds_parP {i j : Nat} {ta tb : TE} {ca cb : Nat} {fa : FE} {fl : FD} (a : Snd true K ta ca fa) (r : SndL K tb cb fl) : SndS K (tPar i j (tCons ta (tCons tb tNil))) (ca + cb) (sParP i j fa fl) :=
  ⟨fun ρ E E' h q => a.mono _ _ _ (fun x => r.mono _ _ _ fun y => h.nx _) q, fun {G H0 b0 b os m H σ ρ D E} ok hm hf k => a.go ok.env (by omega) hf fun dx v H1 p st bx vd => by
    have ok1 := ok.step st bx (by omega)
    refine r.go ok1.env (by omega) p fun dy xs w H2 p2 np st2 bx2 e g => ⟨v, .ref w, rfl, ?_⟩
    have k1 := ok1.kpt (ok1.env.set (i := i) (s := .dt dx) fun z e => ⟨_, e, vd⟩) (kpt_set (vs := [i]) (by simp))
    obtain ⟨o2, l2⟩ := k1.own (i := j) (n := m + ca + cb) np st2 bx2 (by omega) e g
    exact k.nx _ _ _ _ _ p2 (o2.le (by omega)) ((Lk.step st ok.env.bs).trans l2)⟩
abbrev gIsB : GB
  | .bool x, .bool y, Q => Q (.bool (decide (x = y)))
  | _, _, _ => False
theorem ops_isB : OpSnd K (fun x y H Q => ∃ a b, x = .bl a ∧ y = .bl b ∧ Q (.bl (decide (a = b))) H) gIsB := ⟨fun x y P P' h q => by
    cases x <;> cases y <;> first | exact h _ q | exact q.elim, fun {b S H x y dx dy Q P} al hx hy q k => by
    cases dx <;> cases dy <;> first | exact q.elim | skip
    exact ⟨_, _, hx.bool, hy.bool, k _ _ _ q (Evl.Ex.refl _) (.bl _)⟩⟩
end
end Dv
namespace Sv
open PySem PySem.Spec PyProof.Rows L2 HT
theorem fm_congr {α β : Type} {f g : α → Option β} : ∀ {l : List α}, (∀ x ∈ l, f x = g x) → l.filterMap f = l.filterMap g
  | [], _ => rfl
  | a :: l, h => by
    rw [List.filterMap_cons, List.filterMap_cons, h a (List.mem_cons_self ..), fm_congr fun x m => h x (List.mem_cons_of_mem _ m)]
theorem fm_self {α : Type} : ∀ l : List α, (List.range l.length).filterMap (fun m => l[m]?) = l
  | [] => rfl
  | a :: l => by
    rw [List.length_cons, List.range_succ_eq_map, List.filterMap_cons, List.filterMap_map]
    show a :: (List.range l.length).filterMap (fun m => (a :: l)[m + 1]?) = a :: l
    rw [show (fun m => (a :: l)[m + 1]?) = (fun m => l[m]?) from rfl, fm_self l]
def Upto (hi : Option Int) (d : Nat) : Prop := (hi = none ∧ d = 0) ∨ (hi = some 0 ∧ d = 1)
theorem adj {hi : Option Int} {d n : Nat} (u : Upto hi d) : ∃ b, Builtin.Slice.sliceAdjust none hi (-1) (n : Int) = ((n : Int) - 1, b) ∧ Builtin.Slice.slicePlaces ((n : Int) - 1) b (-1) = n - d := by
  rcases u with ⟨rfl, rfl⟩ | ⟨rfl, rfl⟩
  · refine ⟨-1, rfl, ?_⟩
    unfold Builtin.Slice.slicePlaces
    rw [if_neg (by decide), show (-(-1 : Int)) = 1 by decide, Int.ediv_one]
    split <;> omega
  · refine ⟨min 0 ((n : Int) - 1), rfl, ?_⟩
    unfold Builtin.Slice.slicePlaces
    rw [if_neg (by decide), show (-(-1 : Int)) = 1 by decide, Int.ediv_one]
    split <;> omega
theorem pk (xs : Array Value) (d : Nat) : ((List.range (xs.size - d)).filterMap fun (m : Nat) => xs[(((xs.size : Nat) : Int) - 1 + (m : Int) * (-1)).toNat]?).toArray = ((xs.toList.drop d).reverse).toArray := by
  congr 1
  have l : ((xs.toList.drop d).reverse).length = xs.size - d := by
    rw [List.length_reverse, List.length_drop, Array.length_toList]
  have e := fm_self ((xs.toList.drop d).reverse)
  rw [l] at e
  refine Eq.trans (fm_congr fun m hm => ?_) e
  have hm := List.mem_range.mp hm
  have z : (((xs.size : Nat) : Int) - 1 + (m : Int) * (-1)).toNat = xs.size - 1 - m := by omega
  rw [z, List.getElem?_reverse (by rw [List.length_drop, Array.length_toList]; exact hm), List.getElem?_drop, List.length_drop, Array.length_toList, ← Array.getElem?_toList]
  congr 1
  omega
section
variable {prog : Program} {w : World} {A : Around} {E : Value → Shared → Prop} {s : Shared}
theorem ap {sl : Addr} {vl vu vs : Value} {hi : Option Int} {d n : Nat} {Q : Int × Int × Nat → Shared → Prop} (u : Upto hi d) (hs : s.heap.IsSliceOf sl vl vu vs) (pl : IsPart vl none) (pu : IsPart vu hi) (ps : IsPart vs (some (-1)))
    (q : Q ((n : Int) - 1, -1, n - d) s) : wpAny (model prog w) A (Builtin.Slice.sliceApplied (.ref sl) (pure (n : Int))) Q E s := by
  obtain ⟨os, h1, h2, h3⟩ := id hs
  unfold Builtin.Slice.sliceApplied Builtin.Slice.sliceFields
  refine wpAny_bind (wpAny_bind (wpAny_field h1 h3 (x := vl) rfl (wpAny_bind (wpAny_field h1 h3 (x := vu) rfl (wpAny_bind (wpAny_field h1 h3 (x := vs) rfl (wpAny_pure ?_)))))))
  refine wpAny_bind (slicePart_ ps ?_)
  show wpAny _ _ (if ((-1 : Int) == 0) = true then _ else _) _ _ s
  rw [if_neg (by decide)]
  refine wpAny_bind (slicePart_ pl (wpAny_bind (slicePart_ pu (wpAny_bind (wpAny_pure ?_)))))
  obtain ⟨b, g1, g2⟩ := adj (n := n) u
  show wpAny _ _ (match Builtin.Slice.sliceAdjust none hi (-1) (n : Int) with | (lo, hi) => pure (lo, (-1 : Int), Builtin.Slice.slicePlaces lo hi (-1))) _ _ s
  rw [g1]
  show wpAny _ _ (pure ((n : Int) - 1, (-1 : Int), Builtin.Slice.slicePlaces ((n : Int) - 1) b (-1))) _ _ s
  rw [g2]
  exact wpAny_pure q
theorem gi {t sl : Addr} {xs : Array Value} {vl vu vs : Value} {hi : Option Int} {d : Nat} {Q : Value → Shared → Prop} (u : Upto hi d) (ht : IsTup s.heap t xs) (hs : s.heap.IsSliceOf sl vl vu vs) (pl : IsPart vl none) (pu : IsPart vu hi) (ps : IsPart vs (some (-1)))
    (q : Q (.ref s.heap.objs.size) { s with heap := s.heap.push { cls := .type "tuple", data := .seq ((xs.toList.drop d).reverse).toArray } }) (hz : xs.size ≤ sizeLine) : wpAny (model prog w) A (getItem (.ref t) (.ref sl)) Q E s := by
  have fit : sizeOk (.seq ((xs.toList.drop d).reverse).toArray) := by
    show ((xs.toList.drop d).reverse).toArray.size ≤ sizeLine
    rw [List.size_toArray, List.length_reverse, List.length_drop, Array.length_toList]
    omega
  obtain ⟨os, h1, h2, h3⟩ := id hs
  have tS : s.TypeIs (.ref sl) "slice" := ⟨os, h1, h2⟩
  unfold getItem
  try with_reducible refine wpAny_holding ?_
  first | refine wpAny_bind (wpAny_pure ?_) | skip
  refine wpAny_bind (wpAny_sequenceKey (IsTup.typeIs ht) (by decide) ?_)
  refine wpAny_bind (wpAny_callSpecial?_slot (name := Str.ofString "__getitem__") (IsTup.typeIs ht) slot_tuple_getitem (wpAny_call_entry slot_tuple_getitem (IsTup.typeIs ht) entry_tuple_getitem ?_ (args_tuple_getitem _ _)))
  show wpAny _ _ (Builtin.Tuple.tupleItemsOf (.ref t) >>= _) _ _ s
  refine wpAny_bind (tupleItemsOf_ ht (wpAny_bind (wpAny_typeOf tS ?_)))
  rw [if_pos (by decide)]
  refine wpAny_bind (ap u hs pl pu ps ?_)
  have no : ¬ (((((xs.size : Nat) : Int) - 1) == 0 && (-1 : Int) == 1 && (xs.size - d) == xs.size) = true) := fun z => by
    rw [Bool.and_eq_true, Bool.and_eq_true] at z
    exact absurd (eq_of_beq z.1.2) (by decide)
  show wpAny _ _ (if ((((xs.size : Nat) : Int) - 1) == 0 && (-1 : Int) == 1 && (xs.size - d) == xs.size) = true then _ else _) _ _ s
  rw [if_neg no, pk]
  first
    | exact wpAny_bind (m := Builtin.Tuple.tupleExact _) (wpAny_newObj_type (wpAny_pure ⟨_, rfl, wpAny_pure q⟩) fit)
    | exact wpAny_bind (m := Builtin.Tuple.tupleExact _) (wpAny_newObj_type (wpAny_bind (wpAny_pure (wpAny_pure ⟨_, rfl, wpAny_pure q⟩))) fit)
    | exact wpAny_bind (wpAny_bind (m := Builtin.Tuple.tupleExact _) (wpAny_newObj_type (wpAny_pure (wpAny_pure ⟨_, rfl, wpAny_pure q⟩)) fit))
    | exact wpAny_bind (wpAny_bind (m := Builtin.Tuple.tupleExact _) (wpAny_newObj_type (wpAny_pure ⟨_, rfl, wpAny_pure q⟩) fit))
end
section
variable {X : Cx}
end
end Sv
namespace Dv
open PySem PySem.Spec PyProof.Rows L2 Xg
open Classical
section
variable {K : PySem.W.Frag} {md : Bool} {ta : TE} {ca : Nat} {fa : FE}
abbrev sPar00 (i j : Nat) : FS := fun ρ E => E.nx ((ρ.set i (.own [])).set j (.own []))
theorem snds_par00 {i j : Nat} : SndS K (tPar i j (tCons (tLst tNil) (tCons (tLst tNil) tNil))) 0 (sPar00 i j) :=
  ⟨fun ρ E E' h q => h.nx _ q, fun {G H0 b0 b os m H σ ρ D E} ok hm hf k => ⟨Nat.zero_le _, fun p np => ⟨Nat.zero_le _, fun r nr => ⟨.ref p, .ref r, rfl, by
    obtain ⟨o1, l1⟩ := ok.own (i := i) (n := m) np (Stp.ex (Evl.Ex.new np)) (ok.env.bx.ex (Evl.Ex.new np)) (Nat.le_refl _) upd_same .nil
    obtain ⟨o2, l2⟩ := o1.own (i := j) (n := m) nr (Stp.ex (Evl.Ex.new nr)) (o1.env.bx.ex (Evl.Ex.new nr)) (Nat.le_refl _) upd_same .nil
    exact k.nx _ _ _ _ _ hf (o2.le (by omega)) (l1.trans l2)⟩⟩⟩⟩
end
end Dv
namespace Kd
open PySem PySem.Spec PyProof.Rows L2 Xg Dv
def f_is_number : FS := (sRet (eAnd (eIsi .int (eVar 0)) (eNot (eIsi .bool (eVar 0)))))
@[irreducible] def F_is_number : FF := mkF 1 1 f_is_number
def t_is_number (K : PySem.W.Frag) : TS := (tRet (tAndV (tCB (rIsi K) (tCons (tVar 0) (tCons (tC (.ty "int")) tNil))) (tNotV (tCB (rIsi K) (tCons (tVar 0) (tCons (tC (.ty "bool")) tNil))))))
theorem s_is_number (K : PySem.W.Frag) : SndS K (t_is_number K) 0 f_is_number := (snds_ret (snd_and (snd_isi (t := .int) snd_var) (snd_not (snd_isi (t := .bool) snd_var))))
theorem m_is_number (K : PySem.W.Frag) : MonoF F_is_number := by
  unfold F_is_number
  exact mkF_mono (s_is_number K)
def f_is_number_from : FS := (sRet (eAnd (eCall F_is_number (aCons (eVar 0) aNil)) (eBin (gC fun i j => decide (j ≤ i)) (eVar 0) (eVar 1))))
@[irreducible] def F_is_number_from : FF := mkF 2 2 f_is_number_from
def t_is_number_from (K : PySem.W.Frag) : TS := (tRet (tAndV (tCallG (spD K 0 F_is_number) (tCons (tVar 0) tNil)) (tOp (rI0 fun i j => .bl (decide (j ≤ i))) (tVar 0) (tVar 1))))
theorem s_is_number_from (K : PySem.W.Frag) : SndS K (t_is_number_from K) 0 f_is_number_from := (snds_ret (snd_and (snd_call (m_is_number K) (snda_cons snd_var snda_nil)) (snd_op ops_C snd_var snd_var)))
theorem m_is_number_from (K : PySem.W.Frag) : MonoF F_is_number_from := by
  unfold F_is_number_from
  exact mkF_mono (s_is_number_from K)
def f_is_tuple_of : FS := (sRet (eAnd (eIsi .tuple (eVar 0)) (eBin gEq (eCB (g1 lenD) (dCons (eVar 0) dNil)) (eVar 1))))
@[irreducible] def F_is_tuple_of : FF := mkF 2 2 f_is_tuple_of
def t_is_tuple_of (K : PySem.W.Frag) : TS := (tRet (tAndV (tCB (rIsi K) (tCons (tVar 0) (tCons (tC (.ty "tuple")) tNil))) (tOp (rEqX K) (tCB (fun xs H Q => ∃ x n, xs = [x] ∧ LenV K x H n ∧ Q (.int n) H) (tCons (tVar 0) tNil)) (tVar 1))))
theorem s_is_tuple_of (K : PySem.W.Frag) : SndS K (t_is_tuple_of K) 0 f_is_tuple_of := (snds_ret (snd_and (snd_isi (t := .tuple) snd_var) (snd_op ops_eq (snd_cb cs_len (sndd_cons snd_var sndd_nil)) snd_var)))
theorem m_is_tuple_of (K : PySem.W.Frag) : MonoF F_is_tuple_of := by
  unfold F_is_tuple_of
  exact mkF_mono (s_is_tuple_of K)
end Kd
namespace Kd
open PySem PySem.Spec PyProof.Rows L2 Xg Dv
theorem comp_of {g : FG} {te : FE} {ρ : List Sl} {Q : List PyData → Prop} (h : PyData → PyData) : ∀ (ds acc : List PyData), (∀ d ∈ ds, ∀ P : PyData → Prop, P (h d) → g d ρ fun ρ' => te ρ' P) → Q (acc ++ ds.map h) → compD g fYes te ρ ds acc Q
  | [], acc, _, q => by
    rw [List.map_nil, List.append_nil] at q
    exact q
  | d :: ds, acc, hs, q => hs d (List.mem_cons_self ..) (fun y => compD g fYes te ρ ds (acc ++ [y]) Q) (comp_of h ds _ (fun e he => hs e (List.mem_cons_of_mem _ he)) (by
    rw [List.append_assoc]
    exact q))
def vec (n : Nat) (f : Nat → Int) : List Int := (List.range n).map f
theorem vec_len {n : Nat} {f : Nat → Int} : (vec n f).length = n := by unfold vec; rw [List.length_map, List.length_range]
theorem vec_at {n i : Nat} {f : Nat → Int} (h : i < n) : (vec n f)[i]? = some (f i) := by
  unfold vec
  rw [List.getElem?_map, List.getElem?_range h]
  rfl
theorem vec_get {n i : Nat} {f : Nat → Int} (h : i < n) : (vec n f).getD i 0 = f i := by
  rw [List.getD_eq_getElem?_getD, vec_at h]
  rfl
def sqd (k : Bool) (ds : List PyData) : PyData := match k with
  | true => .tuple ds
  | false => .list ds
abbrev iq (k : Bool) (ns : List Int) : PyData := sqd k (ns.map PyData.int)
def oI : Option Int → PyData
  | none => .none
  | some i => .int i
def fm (row : Bool) : Str := if row = true then "row" else "ring"
def wy (forth : Bool) : Str := if forth = true then "forth" else "back"
def ln (k row : Bool) (rooms : List Int) : PyData := sqd k [.str (fm row), iq k rooms]
theorem len_i (ns : List Int) : (ns.map PyData.int).length = ns.length := List.length_map ..
def gts (row : Bool) (n : Nat) : Nat := if row = true then n + 1 else n
def mn : List Int → Int
  | [] => 0
  | [x] => x
  | x :: y :: r => if x ≤ mn (y :: r) then x else mn (y :: r)
theorem mn_mem : ∀ {l : List Int}, l ≠ [] → mn l ∈ l
  | [x], _ => by simp [mn]
  | x :: y :: r, _ => by
    have h := mn_mem (l := y :: r) (by simp)
    rw [mn]
    split
    · exact List.mem_cons_self ..
    · exact List.mem_cons_of_mem _ h
theorem mn_le : ∀ {l : List Int} {y : Int}, y ∈ l → mn l ≤ y
  | [x], y, h => by
    rw [List.mem_singleton.mp h]
    exact Int.le_refl _
  | x :: z :: r, y, h => by
    rw [mn]
    rcases List.mem_cons.mp h with rfl | h
    · split <;> omega
    · have g := mn_le (l := z :: r) h
      split <;> omega
theorem mn_is {l : List Int} {m : Int} (h : m ∈ l) (g : ∀ y ∈ l, m ≤ y) : m = mn l := Int.le_antisymm (g _ (mn_mem fun z => by rw [z] at h; cases h)) (mn_le h)
theorem min_of {l : List Int} {Q : PyData → Prop} (h : l ≠ []) (q : Q (.int (mn l))) : minD [.list (l.map PyData.int)] Q :=
  ⟨l, rfl, List.length_pos_iff.mpr h, fun m h1 h2 => by rw [mn_is h1 h2]; exact q⟩
def prev (be : List Int) (j : Nat) : Int := if j = 0 then be.getD (be.length - 1) 0 else be.getD (j - 1) 0
def bnd (ring : Bool) (be ah : List Int) (j : Nat) (w : Option Int) : List Int := w.toList ++ (if (ring || decide (0 < j)) = true then [prev be j] else []) ++ (if j < ah.length then [ah.getD j 0] else [])
theorem atI_i {ns : List Int} {i : Nat} (h : i < ns.length) : L2.atI (ns.map PyData.int) ((i : Nat) : Int) = some (.int (ns.getD i 0)) := atI_nat (by
  rw [List.getElem?_map, List.getElem?_eq_getElem h, List.getD_eq_getElem?_getD, List.getElem?_eq_getElem h]
  rfl)
end Kd
namespace Kd
open PySem PySem.Spec PyProof.Rows L2 Xg Dv
def gone (row : Bool) (be ah : List Int) (ws : List (Option Int)) (j : Nat) : Int := mn (bnd (!row) be ah j (ws.getD j none))
def lackL (rooms hs : List Int) : List Int := vec rooms.length fun i => rooms.getD i 0 - hs.getD i 0
def mvd (row : Bool) (rooms : List Int) (ws : List (Option Int)) (hs : List Int) (forth : Bool) : List Int :=
  vec ws.length (if forth = true then gone row hs (lackL rooms hs) ws else gone row (lackL rooms hs) hs ws)
structure Ft (row : Bool) (rooms : List Int) (ws : List (Option Int)) (hs : List Int) : Prop where
  n0 : 0 < rooms.length
  n2 : row = false → 2 ≤ rooms.length
  nz : rooms.length ≤ 1000
  nw : ws.length = gts row rooms.length
  nh : hs.length = rooms.length
theorem bnd_ne {row : Bool} {be ah : List Int} {ws : List (Option Int)} {w : Option Int} {n j : Nat} (hb : be.length = n) (ha : ah.length = n) (n0 : 0 < n) : bnd (!row) be ah j w ≠ [] := fun e => by
  unfold bnd at e
  rw [List.append_eq_nil_iff, List.append_eq_nil_iff] at e
  obtain ⟨⟨_, e2⟩, e3⟩ := e
  by_cases z : j < ah.length
  · rw [if_pos z] at e3
    cases e3
  · rw [if_pos (by cases row <;> simp; omega)] at e2
    cases e2
end Kd
namespace Kd
open PySem PySem.Spec PyProof.Rows L2 Xg Dv
def cnt (row : Bool) (rooms : List Int) (ws : List (Option Int)) (hs : List Int) (forth : Bool) : List Int :=
  vec ws.length fun j => if forth = true then (mvd row rooms ws hs forth).getD j 0 else -(mvd row rooms ws hs forth).getD j 0
end Kd
namespace Kd
open PySem PySem.Spec PyProof.Rows L2 Xg Dv
def ledL (hs cs : List Int) : List Int := vec hs.length fun i => hs.getD i 0 + cs.getD i 0 - cs.getD ((i + 1) % cs.length) 0
def btL (row : Bool) (rooms : List Int) (ws : List (Option Int)) (hs : List Int) (forth : Bool) : List Int := ledL hs (cnt row rooms ws hs forth)
end Kd
namespace Kd
open PySem PySem.Spec PyProof.Rows L2 Xg Dv
theorem btL_len {row : Bool} {rooms hs : List Int} {ws : List (Option Int)} {forth : Bool} : (btL row rooms ws hs forth).length = hs.length := vec_len
theorem Ft.next {row : Bool} {rooms hs : List Int} {ws : List (Option Int)} {forth : Bool} (F : Ft row rooms ws hs) : Ft row rooms ws (btL row rooms ws hs forth) := ⟨F.n0, F.n2, F.nz, F.nw, btL_len.trans F.nh⟩
end Kd
namespace Kd
open PySem PySem.Spec PyProof.Rows L2 Xg Dv
variable {b : Int}
end Kd
namespace Kd
open PySem PySem.Spec PyProof.Rows L2 Xg Dv
theorem comp_enc {α : Type} {g : FG} {te : FE} {ρ : List Sl} {Q : List PyData → Prop} (e r : α → PyData) : ∀ (xs : List α) (acc : List PyData), (∀ x ∈ xs, ∀ P : PyData → Prop, P (r x) → g (e x) ρ fun ρ' => te ρ' P) → Q (acc ++ xs.map r) → compD g fYes te ρ (xs.map e) acc Q
  | [], acc, _, q => by
    rw [List.map_nil, List.append_nil] at q
    exact q
  | x :: xs, acc, hs, q => hs x (List.mem_cons_self ..) (fun y => compD g fYes te ρ (xs.map e) (acc ++ [y]) Q) (comp_enc e r xs _ (fun z hz => hs z (List.mem_cons_of_mem _ hz)) (by
    rw [List.append_assoc]
    exact q))
theorem for_inv {g : FG} {f : FS} {E : DEnds} (I : List Sl → Prop) : ∀ (ds : List PyData) (ρ : List Sl), (∀ ρ d (N : List Sl → Prop), I ρ → d ∈ ds → (∀ ρ', I ρ' → N ρ') → g d ρ fun ρ1 => f ρ1 { E with nx := N, ct := N, bk := E.nx }) → I ρ → (∀ ρ, I ρ → E.nx ρ) → forD g f ds ρ E
  | [], ρ, _, h0, he => he ρ h0
  | d :: ds, ρ, hs, h0, he => hs ρ d (fun ρ2 => forD g f ds ρ2 E) h0 (List.mem_cons_self ..) fun ρ' h => for_inv I ds ρ' (fun ρ e N i m => hs ρ e N i (List.mem_cons_of_mem _ m)) h he
theorem lay_flat {α : Type} (c : α → PyData) (h1 : ∀ a, (c a).canLay0 = true) (h2 : ∀ a, (c a).depth = 0) : ∀ ms : List α, PyData.canLayAll0 (ms.map c) = true ∧ PyData.depthAll (ms.map c) = 0
  | [] => ⟨rfl, rfl⟩
  | m :: r => by
    obtain ⟨g1, g2⟩ := lay_flat c h1 h2 r
    refine ⟨?_, ?_⟩
    · rw [List.map_cons, PyData.canLayAll0, h1, g1]
      rfl
    · rw [List.map_cons, PyData.depthAll, h2, g2]
      rfl
theorem shp_iq {k : Bool} {l : List Int} : SeqAt.shaped (iq k l) = true := by
  obtain ⟨g1, g2⟩ := lay_flat PyData.int (fun _ => by simp [PyData.canLay0]) (fun _ => by simp [PyData.depth]) l
  cases k with
  | true =>
    show SeqAt.shaped (.tuple (l.map PyData.int)) = true
    unfold SeqAt.shaped
    rw [PyData.canLay0, PyData.depth, g1, g2]
    rfl
  | false =>
    show SeqAt.shaped (.list (l.map PyData.int)) = true
    unfold SeqAt.shaped
    rw [PyData.canLay0, PyData.depth, g1, g2]
    rfl
theorem range_mem {n : Nat} {d : PyData} (h : d ∈ rangeD 0 n) : ∃ k : Nat, k < n ∧ d = .int (k : Nat) := by
  unfold rangeD at h
  obtain ⟨k, hk, rfl⟩ := List.mem_map.mp h
  exact ⟨k, List.mem_range.mp hk, by rw [Int.zero_add]⟩
theorem range_len {lo : Int} {n : Nat} : (rangeD lo n).length = n := by
  unfold rangeD
  rw [List.length_map, List.length_range]
theorem law_for {ns : List Int} {c : Int} {f : FS} {E : DEnds} {rest : List Sl} (hc : 1 ≤ c ∧ c ≤ 100) (I : List Sl → Prop) (h0 : I (.scr ns :: rest))
    (hs : ∀ ρ (k : Nat) (N : List Sl → Prop), I ρ → (k : Int) < c → (∀ ρ', I ρ' → N ρ') → gN 1 (.int (k : Nat)) ρ fun ρ1 => f ρ1 { E with nx := N, ct := N, bk := E.nx }) (he : ∀ ρ, I ρ → E.nx ρ) :
    sFor 100 (fRange1 (eCB (g2 (gI fun i j => if j > i then j else i)) (dCons (eC (.int 1)) (dCons (eCB (g2 (gI fun i j => if j < i then j else i)) (dCons (eC (.int c)) (dCons (eLenS 0) dNil))) dNil)))) (gN 1) f (.scr ns :: rest) E := by
  have main : ∀ m : Int, 1 ≤ m → m ≤ c → (-(2 ^ 62) ≤ m ∧ m < 2 ^ 62) ∧ (rangeD 0 m.toNat).length ≤ 100 ∧ forD (gN 1) f (rangeD 0 m.toNat) (.scr ns :: rest) E := fun m h1 h2 => by
    refine ⟨⟨by omega, by omega⟩, by rw [range_len]; omega, for_inv I _ _ (fun ρ d N i hm k => ?_) h0 he⟩
    obtain ⟨j, hj, rfl⟩ := range_mem hm
    exact hs ρ j N i (by omega) k
  refine main (if (if ((ns.length : Nat) : Int) < c then ((ns.length : Nat) : Int) else c) > 1 then (if ((ns.length : Nat) : Int) < c then ((ns.length : Nat) : Int) else c) else 1) ?_ ?_
  · split <;> (try split) <;> omega
  · split <;> (try split) <;> omega
end Kd
namespace Kd
open PySem PySem.Spec PyProof.Rows L2 Xg Dv
def Nn (l : List Int) : Prop := ∀ i, 0 ≤ l.getD i 0
def Wn (ws : List (Option Int)) : Prop := ∀ j x, ws.getD j none = some x → 0 ≤ x
structure Vd (rooms hs : List Int) : Prop where
  len : hs.length = rooms.length
  lo : ∀ i, i < rooms.length → 0 ≤ hs.getD i 0
  hi : ∀ i, i < rooms.length → hs.getD i 0 ≤ rooms.getD i 0
theorem get_out {l : List Int} {i : Nat} (h : l.length ≤ i) : l.getD i 0 = 0 := by
  rw [List.getD_eq_getElem?_getD, List.getElem?_eq_none h]
  rfl
theorem Vd.nn {rooms hs : List Int} (h : Vd rooms hs) : Nn hs := fun i => by
  by_cases z : i < rooms.length
  · exact h.lo i z
  · rw [get_out (by rw [h.len]; omega)]
    exact Int.le_refl _
theorem Vd.lack {rooms hs : List Int} (h : Vd rooms hs) : Nn (lackL rooms hs) := fun i => by
  unfold lackL
  by_cases z : i < rooms.length
  · rw [vec_get z]
    have := h.hi i z
    omega
  · rw [get_out (by rw [vec_len]; omega)]
    exact Int.le_refl _
theorem prev_nn {be : List Int} {j : Nat} (h : Nn be) : 0 ≤ prev be j := by
  unfold prev
  split
  · exact h _
  · exact h _
section
variable {row : Bool} {be ah : List Int} {ws : List (Option Int)} {j n : Nat}
theorem mem_bnd {ring : Bool} {w : Option Int} {x : Int} : x ∈ bnd ring be ah j w ↔ (w = some x ∨ ((ring || decide (0 < j)) = true ∧ x = prev be j) ∨ (j < ah.length ∧ x = ah.getD j 0)) := by
  unfold bnd
  rw [List.mem_append, List.mem_append]
  constructor
  · rintro ((h | h) | h)
    · left
      cases w with
      | none => simp at h
      | some y => simp at h; rw [h]
    · right; left
      split at h
      · exact ⟨by assumption, List.mem_singleton.mp h⟩
      · simp at h
    · right; right
      split at h
      · exact ⟨by assumption, List.mem_singleton.mp h⟩
      · simp at h
  · rintro (h | ⟨h, e⟩ | ⟨h, e⟩)
    · subst h
      left; left
      simp
    · left; right
      rw [if_pos h, e]
      simp
    · right
      rw [if_pos h, e]
      simp
theorem gone_nn (hb : Nn be) (ha : Nn ah) (hw : Wn ws) (lb : be.length = n) (la : ah.length = n) (n0 : 0 < n) : 0 ≤ gone row be ah ws j := by
  have h := mn_mem (bnd_ne (row := row) (ws := ws) (w := ws.getD j none) (j := j) lb la n0)
  unfold gone
  rcases mem_bnd.mp h with e | ⟨_, e⟩ | ⟨_, e⟩
  · exact hw j _ e
  · rw [e]
    exact prev_nn hb
  · rw [e]
    exact ha _
theorem gone_a (h : j < ah.length) : gone row be ah ws j ≤ ah.getD j 0 := mn_le (mem_bnd.mpr (.inr (.inr ⟨h, rfl⟩)))
theorem gone_b (h : ((!row) || decide (0 < j)) = true) : gone row be ah ws j ≤ prev be j := mn_le (mem_bnd.mpr (.inr (.inl ⟨h, rfl⟩)))
theorem next_prev {i : Nat} (hi : i < n) (lb : be.length = n) : ((!row) || decide (0 < (i + 1) % gts row n)) = true ∧ prev be ((i + 1) % gts row n) = be.getD i 0 ∧ (i + 1) % gts row n < gts row n := by
  have g0 : 0 < gts row n := by
    unfold gts
    split <;> omega
  refine ⟨?_, ?_, Nat.mod_lt _ g0⟩
  · cases row with
    | false => rfl
    | true =>
      show (false || decide (0 < (i + 1) % (n + 1))) = true
      rw [Nat.mod_eq_of_lt (by omega)]
      simp
  · unfold prev
    cases row with
    | true =>
      show (if (i + 1) % (n + 1) = 0 then _ else be.getD ((i + 1) % (n + 1) - 1) 0) = _
      rw [Nat.mod_eq_of_lt (by omega), if_neg (by omega)]
      rfl
    | false =>
      show (if (i + 1) % n = 0 then be.getD (be.length - 1) 0 else be.getD ((i + 1) % n - 1) 0) = _
      by_cases z : i + 1 = n
      · rw [z, Nat.mod_self, if_pos rfl, lb, ← z]
        rfl
      · rw [Nat.mod_eq_of_lt (by omega), if_neg (by omega)]
        rfl
end
section
variable {row : Bool} {rooms hs : List Int} {ws : List (Option Int)} {forth : Bool}
theorem cnt_len : (cnt row rooms ws hs forth).length = ws.length := vec_len
theorem mvd_get {j : Nat} (h : j < ws.length) : (mvd row rooms ws hs forth).getD j 0 = if forth = true then gone row hs (lackL rooms hs) ws j else gone row (lackL rooms hs) hs ws j := by
  unfold mvd
  rw [vec_get h]
  cases forth <;> rfl
theorem cnt_get {j : Nat} (h : j < ws.length) : (cnt row rooms ws hs forth).getD j 0 = if forth = true then gone row hs (lackL rooms hs) ws j else -gone row (lackL rooms hs) hs ws j := by
  unfold cnt
  rw [vec_get h, mvd_get h]
  cases forth <;> rfl
theorem lack_len : (lackL rooms hs).length = rooms.length := vec_len
theorem lack_get {i : Nat} (h : i < rooms.length) : (lackL rooms hs).getD i 0 = rooms.getD i 0 - hs.getD i 0 := vec_get h
theorem bt_get (F : Ft row rooms ws hs) {i : Nat} (h : i < rooms.length) : (btL row rooms ws hs forth).getD i 0 = hs.getD i 0 + (cnt row rooms ws hs forth).getD i 0 - (cnt row rooms ws hs forth).getD ((i + 1) % gts row rooms.length) 0 := by
  unfold btL ledL
  rw [vec_get (by rw [F.nh]; exact h), cnt_len, F.nw]
theorem gate_lt (F : Ft row rooms ws hs) {i : Nat} (h : i < rooms.length) : i < ws.length := by
  rw [F.nw]
  unfold gts
  split <;> omega
theorem Vd.next (F : Ft row rooms ws hs) (V : Vd rooms hs) (W : Wn ws) : Vd rooms (btL row rooms ws hs forth) := by
  have key : ∀ i, i < rooms.length → 0 ≤ (btL row rooms ws hs forth).getD i 0 ∧ (btL row rooms ws hs forth).getD i 0 ≤ rooms.getD i 0 := fun i hi => by
    have gi := gate_lt F hi
    have lk := lack_get (hs := hs) hi
    rw [bt_get F hi]
    cases forth with
    | true =>
      obtain ⟨p1, p2, p3⟩ := next_prev (row := row) (be := hs) hi F.nh
      have q : (i + 1) % gts row rooms.length < ws.length := by
        rw [F.nw]
        exact p3
      rw [cnt_get gi, cnt_get q]
      have a1 := gone_nn (row := row) (j := i) V.nn V.lack W F.nh lack_len F.n0
      have a2 := gone_nn (row := row) (j := (i + 1) % gts row rooms.length) V.nn V.lack W F.nh lack_len F.n0
      have a3 := gone_a (row := row) (be := hs) (ah := lackL rooms hs) (ws := ws) (j := i) (by rw [lack_len]; exact hi)
      have a4 := gone_b (row := row) (be := hs) (ah := lackL rooms hs) (ws := ws) p1
      rw [p2] at a4
      simp only [if_pos]
      omega
    | false =>
      obtain ⟨p1, p2, p3⟩ := next_prev (row := row) (be := lackL rooms hs) hi lack_len
      have q : (i + 1) % gts row rooms.length < ws.length := by
        rw [F.nw]
        exact p3
      rw [cnt_get gi, cnt_get q]
      have a1 := gone_nn (row := row) (j := i) V.lack V.nn W lack_len F.nh F.n0
      have a2 := gone_nn (row := row) (j := (i + 1) % gts row rooms.length) V.lack V.nn W lack_len F.nh F.n0
      have a3 := gone_a (row := row) (be := lackL rooms hs) (ah := hs) (ws := ws) (j := i) (by rw [F.nh]; exact hi)
      have a4 := gone_b (row := row) (be := lackL rooms hs) (ah := hs) (ws := ws) p1
      rw [p2] at a4
      simp only [Bool.false_eq_true, if_false]
      omega
  exact ⟨btL_len.trans F.nh, fun i hi => (key i hi).1, fun i hi => (key i hi).2⟩
end
end Kd
namespace Kd
open PySem PySem.Spec PyProof.Rows L2 Xg Dv
def f__law_of : FS := (sRet (eBin gIx (eVar 1) (eCall F_take (aBox 0 (aCons (eCB (g1 lenD) (dCons (eVar 1) dNil)) aNil)))))
@[irreducible] def F__law_of : FF := mkF 2 2 f__law_of
def t__law_of (K : PySem.W.Frag) : TS := (tRet (tOp (rIx K) (tVar 1) (tCallG (spD K 1 F_take) (tCons (tVar 0) (tCons (tCB (fun xs H Q => ∃ x n, xs = [x] ∧ LenV K x H n ∧ Q (.int n) H) (tCons (tVar 1) tNil)) tNil)))))
theorem s__law_of (K : PySem.W.Frag) : SndS K (t__law_of K) 1 f__law_of := (snds_ret (snd_op ops_ix snd_var (snd_call m_take (snda_box (snda_cons (snd_cb cs_len (sndd_cons snd_var sndd_nil)) snda_nil)))))
theorem m__law_of (K : PySem.W.Frag) : MonoF F__law_of := by
  unfold F__law_of
  exact mkF_mono (s__law_of K)
end Kd
namespace Dv
open PySem PySem.Spec PyProof.Rows L2 Xg
open Classical
section
variable {K : PySem.W.Frag} {ta tb tc : TE} {ca cb cc : Nat} {fa fb fc : FE}
end
end Dv
namespace Ez
open PySem PySem.Spec PyProof.Rows L2 Zq
open PySem.Sem (wp)
open AutoSeq1 (wpAny_loadPart')
abbrev ZpF (g : Heap) (z S T : Addr) (v : Value) (f : Bool) : Prop := g.get? z = some { cls := .type "zip", dict := none, data := .fields #[v, .bool f, .bool false, .ref S, .ref T], slots := #[] }
def Og (v : Value) : Prop := v = .none ∨ ∃ a : Nat, v = rawInt a
structure ZS (t u : Bool) (g : Heap) (z S T p1 p2 a b : Addr) (i : Nat) : Prop where
  zp : ∃ v f, Og v ∧ ZpF g z S T v f
  S0 : IsPair g S (.ref p1) (.ref p2)
  T0 : ∃ x y, IsPair g T x y
  f1 : itK t g p1 a i
  f2 : itK u g p2 b i
section
variable {prog : Program} {w : World} {A : Around} {E : Value → Shared → Prop} {s : Shared}
end
end Ez
namespace Ez
open PySem PySem.Spec PyProof.Rows L2 Zq
open PySem.Sem (wp)
open AutoSeq1 (wpAny_loadPart')
theorem ZS.keep {t u : Bool} {g g' : Heap} {z S T p1 p2 a b : Addr} {i : Nat} (st : ZS t u g z S T p1 p2 a b i) (k : ∀ c ∈ [z, S, T, p1, p2], ∀ o, g.get? c = some o → g'.get? c = some o) : ZS t u g' z S T p1 p2 a b i :=
  ⟨let ⟨v, f, og, z0⟩ := st.zp; ⟨v, f, og, k z (by simp) _ z0⟩, k S (by simp) _ st.S0, let ⟨x, y, T0⟩ := st.T0; ⟨x, y, k T (by simp) _ T0⟩, it_at st.f1 (k p1 (by simp)), it_at st.f2 (k p2 (by simp))⟩
theorem ZS.obj {t u : Bool} {g : Heap} {z S T p1 p2 a b : Addr} {i : Nat} (st : ZS t u g z S T p1 p2 a b i) {c : Addr} (hc : c ∈ [z, S, T, p1, p2]) : ∃ o, g.get? c = some o ∧ ∀ v, o.data ≠ .cell v := by
  obtain ⟨⟨v, f, og, z0⟩, S0, ⟨x, y, T0⟩, f1, f2⟩ := st
  obtain ⟨o1, g1, d1⟩ := it_obj f1
  obtain ⟨o2, g2, d2⟩ := it_obj f2
  refine five hc (fun e => ?_) (fun e => ?_) (fun e => ?_) (fun e => ?_) (fun e => ?_) <;> rw [e]
  · exact ⟨_, z0, fun _ k => nomatch k⟩
  · exact ⟨_, S0, fun _ k => nomatch k⟩
  · exact ⟨_, T0, fun _ k => nomatch k⟩
  · exact ⟨o1, g1, fun _ k => by cases d1.symm.trans k⟩
  · exact ⟨o2, g2, fun _ k => by cases d2.symm.trans k⟩
section
variable {prog : Program} {w : World} {A : Around} {E : Value → Shared → Prop} {s : Shared}
end
end Ez
namespace Ez
open PySem PySem.Spec PyProof.Rows L2 Zq Xg
end Ez
namespace Dv
open PySem PySem.Spec PyProof.Rows L2 Xg
open Classical
section
variable {K : PySem.W.Frag} {md : Bool} {ta tb : TE} {ca cb : Nat} {fa fb : FE}
end
end Dv
namespace Dv
open PySem PySem.Spec PyProof.Rows L2 Xg
open Classical
section
variable {K : PySem.W.Frag} {md : Bool} {ta tc : TE} {ca cc : Nat} {fa fc : FE}
abbrev dctQ (k1 v1 k2 v2 : Str) (Q : PyData → Prop) : PyData → Prop
  | .str x => (k1 ≠ k2 ∧ (x = k1 ∨ x = k2)) ∧ Q (.str (if x = k1 then v1 else v2))
  | _ => False
abbrev eDct (k1 v1 k2 v2 : Str) (f : FE) : FE := fun ρ Q => f ρ (dctQ k1 v1 k2 v2 Q)
theorem dctQ_mono {k1 v1 k2 v2 : Str} {P P' : PyData → Prop} (h : ∀ k, P k → P' k) : ∀ x, dctQ k1 v1 k2 v2 P x → dctQ k1 v1 k2 v2 P' x := fun x g => by
  cases x <;> first | exact ⟨g.1, h _ g.2⟩ | exact g.elim
abbrev tDct (k1 v1 k2 v2 : Str) (t : TE) : TE := tDGet (tDisp [(tC (.str k1), tC (.str v1)), (tC (.str k2), tC (.str v2))]) t
theorem snd_dct {k1 v1 k2 v2 : Str} (a : Snd md K ta ca fa) : Snd true K (tDct k1 v1 k2 v2 ta) ca (eDct k1 v1 k2 v2 fa) := mk_snd
  (fun ρ P P' h q => a.mono _ _ _ (dctQ_mono h) q)
  (fun {b S m σ H ρ Q P} E hm hf k => by
    intro p np
    have n1 : upd H p (.dK []) p = some (.dK []) := upd_same
    refine ⟨n1, [(.inr k1, .str v1), (.inr k2, .str v2)], rfl, by show 2 ≤ 15; decide, ?_⟩
    have st : Stp K b H (upd (upd H p (.dK [])) p (.dK (mergeK [] [(.inr k1, .str v1), (.inr k2, .str v2)]))) := Stp.ex fun c o e => by
      have ne : c ≠ p := fun z => by rw [z, np] at e; cases e
      rw [upd_ne ne, upd_ne ne]
      exact e
    have bx : BxO b (upd (upd H p (.dK [])) p (.dK (mergeK [] [(.inr k1, .str v1), (.inr k2, .str v2)]))) m := by
      cases b with
      | none => trivial
      | some q =>
        obtain ⟨x, y, z, h1, h2, h3, h4, h5, h6⟩ := E.bx
        have ne : q ≠ p := fun w => by rw [w, np] at h6; cases h6
        exact ⟨x, y, z, h1, h2, h3, h4, h5, by rw [upd_ne ne, upd_ne ne]; exact h6⟩
    have bp : b ≠ some p := fun z => by
      rw [z] at E
      obtain ⟨_, _, _, _, _, _, _, _, e⟩ := E.bx
      rw [np] at e
      cases e
    refine a.go (E.step st bx) hm hf fun d v H2 h2 s2 b2 d2 => ?_
    cases d with
    | str x =>
      obtain ⟨⟨ne, hx⟩, q⟩ := h2
      have hp := s2 p _ bp (upd_same (H := upd H p (.dK [])))
      have mg : mergeK [] [((.inr k1 : Key), V.str v1), (.inr k2, .str v2)] = [(.inr k1, .str v1), (.inr k2, .str v2)] := by
        show putK (putK [] (Sum.inr k1) (V.str v1)) (Sum.inr k2) (V.str v2) = _
        unfold putK
        simp [ne]
      rw [mg] at hp
      have vv : valV [((.inr k1 : Key), V.str v1), (.inr k2, .str v2)] (.inr x) = some (.str (if x = k1 then v1 else v2)) := by
        unfold valV
        by_cases z : x = k1
        · subst z
          simp
        · have z2 : x = k2 := hx.resolve_left z
          subst z2
          have z3 : ¬ k1 = x := fun w => z w.symm
          simp [z, z3]
      have dg : DGet H2 p (kV (.inr x)) (valV [((.inr k1 : Key), V.str v1), (.inr k2, .str v2)] (.inr x)) := DGet.k hp
      rw [vv] at dg
      rw [d2.vw.str]
      exact ⟨p, _, rfl, dg, k _ _ _ q (st.trans s2) b2 (.str _)⟩
    | _ => exact h2.elim)
end
end Dv
namespace Dv
open PySem PySem.Spec PyProof.Rows L2 Xg
open Classical
end Dv
namespace Dv
open PySem PySem.Spec PyProof.Rows L2 Xg
open Classical
section
variable {K : PySem.W.Frag} {md : Bool} {ta tb : TE} {ca cb : Nat} {fa fb : FE}
end
end Dv
namespace Dv
open PySem PySem.Spec PyProof.Rows L2 Xg
open Classical
theorem pe_kwG {X : Cx} {k : Nat} {f : Addr} {fd : FuncData} {ps ks : List Str} {sp : Sp} {x : Str} {p pos : Pos} {kws : List Keyword} {tk : TA} {g : {α : Type} → List α → List α}
    (F : FnG X.prog X.w X.K X.mg X.base k f fd ps sp) (hG : X.A.guards = some []) (hr : Room k X.A) (hg : Gl X x) (hm : X.mg x = some (.ref f)) (hk : PySem.W.keepIn X.K (.ref f) = true)
    (hb : KwOnly X.K fd ps ks g) (hrel : ∀ {zs : List V} {ws : List Value}, Vals zs ws → Vals (g zs) (g ws)) (hkw : PK X kws tk)
    (hall : (backToKw pos (keywordEach kws X.env)).all (·.1.isSome) = true := by rfl) (hks : (backToKw pos (keywordEach kws X.env)).filterMap (·.1) = ks := by rfl)
    (hdb : (x == ("__debug__" : Str)) = false := by decide) (hpl : ((backTo pos (starEach [] X.env)).any (·.1) || (backToKw pos (keywordEach kws X.env)).any (·.1.isNone)) = false := by rfl) :
    PE X (.Call (.Name x p) [] kws pos) (tKw ks.length sp g tk) := by
  refine ⟨fun pins s σ H Q I h => wpAny_Call_Name_kw (ld_glob I hg hm ?_ hdb)⟩
  refine PySem.W.callWith_KW0 (h₀ := X.base) I.ok.mod.kin hk hall (thn (hkw.run pos pins s σ H _ I h) fun ws s1 ⟨zs, H1, I1, rz, l1, q⟩ => ⟨I1.kIn, ?_⟩) hpl
  rw [hks]
  refine wpAny_call (codeAny_mono (F.run X.A X.stack s1 H1 ⟨[], ks.zip ws⟩ (g ws) (g zs) Q hG hr I1.env0 (hb s1 ws I1.kIn (rz.length.symm.trans l1)) (hrel rz) q) fun res s' hq => ?_)
  cases res with
  | error er => exact hq.elim
  | ok fl =>
    cases fl with
    | ret u => exact I1.after hq
    | next => exact False.elim hq
    | brk => exact False.elim hq
    | cont => exact False.elim hq
structure DfR (P : Program) (w : World) (K : PySem.W.Frag) (mg : Str → Option Value) (base : Heap) (x : Str) (ps : List Str) (k : Nat) (sp : Sp) : Prop where
  ex : ∃ (f : Addr) (fd : FuncData), FnG P w K mg base k f fd ps sp ∧ mg x = some (.ref f) ∧ PySem.W.keepIn K (.ref f) = true ∧ KwOnly K fd ps ps.reverse List.reverse
theorem pe_dfr {X : Cx} {x : Str} {ps : List Str} {k n : Nat} {sp : Sp} {p pos : Pos} {kws : List Keyword} {tk : TA} (D : DfR X.prog X.w X.K X.mg X.base x ps k sp) (hG : X.A.guards = some []) (hr : Room k X.A) (hg : Gl X x) (hkw : PK X kws tk) (hn : ps.reverse.length = n := by rfl)
    (hall : (backToKw pos (keywordEach kws X.env)).all (·.1.isSome) = true := by rfl) (hks : (backToKw pos (keywordEach kws X.env)).filterMap (·.1) = ps.reverse := by rfl)
    (hdb : (x == ("__debug__" : Str)) = false := by decide) (hpl : ((backTo pos (starEach [] X.env)).any (·.1) || (backToKw pos (keywordEach kws X.env)).any (·.1.isNone)) = false := by rfl) :
    PE X (.Call (.Name x p) [] kws pos) (tKw n sp List.reverse tk) := by
  subst hn
  obtain ⟨f, fd, G, gm, kp, b⟩ := D.ex
  exact pe_kwG G hG hr hg gm kp b (fun r => r.reverse) hkw hall hks hdb hpl
section
variable {K : PySem.W.Frag} {tr : TA} {cr c : Nat} {fr : FA}
theorem ArgL.app {b : Option Addr} {S : Addr → Prop} {H : Hp} : ∀ {vs ws : List V} {as bs : List Sl}, ArgL K b S H vs as → ArgL K b S H ws bs → ArgL K b S H (vs ++ ws) (as ++ bs)
  | _, _, _, _, .nil, h => h
  | _, _, _, _, .cons h g, k => .cons h (ArgL.app g k)
theorem ArgL.rev {b : Option Addr} {S : Addr → Prop} {H : Hp} : ∀ {vs : List V} {as : List Sl}, ArgL K b S H vs as → ArgL K b S H vs.reverse as.reverse
  | _, _, .nil => .nil
  | _, _, .cons h g => by
    rw [List.reverse_cons, List.reverse_cons]
    exact (ArgL.rev g).app (.cons h .nil)
abbrev eKw (n : Nat) (F : FF) (fr : FA) : FE := fun ρ Q => fr ρ fun as => as.length = n ∧ F as.reverse Q
theorem snd_kw {n : Nat} {F : FF} (mF : MonoF F) (r : SndA K tr cr fr) : Snd true K (tKw n (spD K c F) List.reverse tr) (cr + c) (eKw n F fr) := mk_snd
  (fun ρ P P' h g => r.mono _ _ _ (fun as z => ⟨z.1, mF _ _ _ h z.2⟩) g)
  (fun {b S m σ H ρ Q P} E hm hf k => r.go E (by omega) hf fun as vs H1 h1 s1 b1 d1 => ⟨by rw [d1.len, h1.1], b, S, m + cr, as.reverse, d1.rev, b1, E.bs, (E.step s1 b1).both, by omega,
    mF _ _ _ (fun d p v H' s2 b2 d2 => k _ _ _ p (s1.trans s2) (b2.le (by omega)) d2) h1.2⟩)
end
end Dv
namespace Dv
open PySem PySem.Spec PyProof.Rows L2 Xg
end Dv
namespace Dv
open PySem PySem.Spec PyProof.Rows L2 Xg
open Classical
section
variable {K : PySem.W.Frag} {md : Bool} {ta : TE} {ca : Nat} {fa : FE}
theorem kitLT {t : String} {b c : Bool} (h1 : kitB t "list" = some b) (h2 : kitB t "tuple" = some c) : PySem.W.kitAny K (.type t) [.type "list", .type "tuple"] = some (b || c) := by
  refine kitAny_cons (kit_ty h1) (fun e => ?_) (fun e => by rw [e]; rfl)
  subst e
  refine kitAny_cons (kit_ty h2) (fun e => ?_) (fun e => by rw [e]; rfl)
  subst e
  exact kitAny_nil
abbrev eIsiLT (fa : FE) : FE := fun ρ Q => fa ρ fun d => Q (.bool (isD .list d || isD .tuple d))
theorem snd_isiLT (a : Snd md K ta ca fa) : Snd true K (tCB (rIsiT K) (tCons ta (tCons (tTup (tCons (tC (.ty "list")) (tCons (tC (.ty "tuple")) tNil))) tNil))) ca (eIsiLT fa) := mk_snd
  (fun ρ P P' h q => a.mono _ _ _ (fun d => h _) q)
  (fun E hm hf k => a.go E hm hf fun d v H1 p st bx vd => ⟨by show 2 ≤ sizeLine; decide, fun t nt =>
    ⟨v, t, _, _, _, isD .list d || isD .tuple d, rfl, upd_same, .cons (.ty _) (.cons (.ty _) .nil), ty_of ((vd.vw.step (H' := upd H1 t (.tup [.ty "list", .ty "tuple"])) (Stp.ex (Evl.Ex.new nt)) E.bs).dp), kitLT (kit_is .list d) (kit_is .tuple d),
      k _ _ _ p (st.trans (Stp.ex (Evl.Ex.new nt))) (bx.ex (Evl.Ex.new nt)) (.bl _)⟩⟩)
end
end Dv
namespace Dv
open PySem PySem.Spec PyProof.Rows L2 Xg
open Classical
section
variable {K : PySem.W.Frag} {tt : TT} {ft : FT} {ct ca cb c : Nat} {ta tb : TE} {fa fb : FD}
abbrev fIf (t : FT) (f g : FD) : FD := fun ρ Q => t ρ fun k => if k = true then f ρ Q else g ρ Q
end
end Dv
namespace Dv
open PySem PySem.Spec PyProof.Rows L2 Xg
open Classical
abbrev FN := List Sl → (List (List PyData) → Prop) → Prop
structure SndN (K : PySem.W.Frag) (t : TA) (n c : Nat) (f : FN) : Prop where
  mono : ∀ (ρ : List Sl) (P P' : List (List PyData) → Prop), (∀ d, P d → P' d) → f ρ P → f ρ P'
  go : ∀ {b : Option Addr} {S : Addr → Prop} {m : Nat} {σ : L2.St} {H : Hp} {ρ : List Sl} {Q : List V → Hp → Prop} {P : List (List PyData) → Prop}, DEnv K b S m H σ ρ → m + c ≤ LIM → f ρ P →
    (∀ (dss : List (List PyData)) (ps : List Addr) (H' : Hp), P dss → ps.length = n → Stp K b H H' → BxO b H' (m + c) → (∀ q ∈ ps, H q = none) → ps.Nodup → DaL K (rm H' S) (ps.map V.ref) (dss.map PyData.list) → Q (ps.map V.ref) H') → t σ H Q
section
variable {K : PySem.W.Frag} {ta : TE} {tr : TA} {ca cr n c : Nat} {fa : FD} {fr : FN}
def Ch (H : Hp) (q : Addr) (B : Nat) (H' : Hp) : Prop := (∀ a o, a ≠ q → H a = some o → H' a = some o) ∧ ∃ ws, H' q = some (.lst ws) ∧ ws.length ≤ B
structure Wm (k : Nat) (t : TE → TS) : Prop where
  go : ∀ {to : TE} {D : Ends} {σ : L2.St} {H : Hp} {q : Addr} {ws : List V} {B : Nat}, (∀ (H1 : Hp) (Q : VK), (∀ a o, a ≠ q → H a = some o → H1 a = some o) → Q (.ref q) H1 → to σ H1 Q) → H q = some (.lst ws) → ws.length ≤ B → B + k < sizeLine → (∀ H', Ch H q (B + k) H' → D.nx σ H') → t to D σ H
structure Wr (i n : Nat) (vs : List Nat) (k : Nat) (t : TS) : Prop where
  go : ∀ {D : Ends} {σ : L2.St} {H : Hp} {p : Addr} {ps : List Addr} {B : Nat}, (∀ x ∈ vs, x < σ.length) → σ[i]? = some (some (.ref p)) → H p = some (.lst (ps.map V.ref)) → ps.length = n → ps.Nodup → p ∉ ps → (∀ q ∈ ps, ∃ ws, H q = some (.lst ws) ∧ ws.length ≤ B) → B + k < sizeLine →
    (∀ σ' H', σ'.length = σ.length → (∀ x, x ∉ vs → σ'[x]? = σ[x]?) → (∀ a o, a ∉ ps → H a = some o → H' a = some o) → (∀ q ∈ ps, ∃ ws, H' q = some (.lst ws) ∧ ws.length ≤ B + k) → D.nx σ' H') → t D σ H
structure SndW (K : PySem.W.Frag) (i n : Nat) (vs : List Nat) (t : TS) (c : Nat) (f : FS) : Prop where
  mono : ∀ (ρ : List Sl) (E E' : DEnds), DLe E E' → f ρ E → f ρ E'
  go : ∀ {b : Option Addr} {S : Addr → Prop} {m : Nat} {σ : L2.St} {H : Hp} {ρ : List Sl} {D : Ends} {E : DEnds} {p : Addr} {ps : List Addr}, DEnv K b S m H σ ρ → m + c ≤ LIM → (∀ x ∈ vs, x < σ.length) → σ[i]? = some (some (.ref p)) → H p = some (.lst (ps.map V.ref)) → ps.length = n → ps.Nodup → p ∉ ps →
    b ≠ some p → (∀ q ∈ ps, b ≠ some q) → (∀ q ∈ ps, ∃ ws, H q = some (.lst ws) ∧ ws.length ≤ 1000000) → f ρ E →
    (∀ σ' H', E.nx ρ → σ'.length = σ.length → (∀ x, x ∉ vs → σ'[x]? = σ[x]?) → (∀ a o, a ∉ ps → b ≠ some a → H a = some o → HoLe K H H' a o) → BxO b H' (m + c) → D.nx σ' H') →
    (∀ H', E.rt (.bool false) → Stp K b H H' → BxO b H' (m + c) → D.rt (.bl false) H') → t D σ H
end
end Dv
namespace Sx
open PySem PySem.Spec PyProof.Rows L2
section
variable {prog : Program} {w : World} {A : Around} {E : Value → Shared → Prop} {s : Shared}
theorem bnds (lo hi : Option Int) (n : Nat) : sliceBounds lo hi none n = (((HT.sIx n 0 lo : Nat) : Int), ((HT.sIx n n hi : Nat) : Int), 1) := by
  obtain ⟨h1, h2, h3⟩ := slice_bounds lo hi n
  rw [← h1, ← h2, ← h3]
theorem put_cut {l r cut : Addr} {old new : Array Value} {n m : Nat} {vl vu : Value} {lo hi : Option Int} {Q : Unit → Shared → Prop}
    (eo : s.heap.get? l = some { cls := .type "list", data := .seq old n }) (en : s.heap.get? r = some { cls := .type "list", data := .seq new m }) (ne : l ≠ r)
    (hc : s.heap.IsSliceOf cut vl vu .none) (pl : IsPart vl lo) (pu : IsPart vu hi) (fit : old.size + (new.size + old.size) ≤ sizeLine)
    (k : Q () { s with heap := s.heap.update l (Obj.mapSeq fun xs => xs.extract 0 (HT.sIx old.size 0 lo) ++ new ++ xs.extract (max (HT.sIx old.size 0 lo) (HT.sIx old.size old.size hi)) xs.size) }) :
    wpAny (model prog w) A (setItem (.ref l) (.ref cut) (.ref r)) Q E s := by
  have lo' : s.heap.IsList l old := PySem.IsL.isList eo
  have ln' : s.heap.IsList r new := PySem.IsL.isList en
  obtain ⟨oc, g1, g2, g3⟩ := id hc
  have tc : s.TypeIs (.ref cut) "slice" := ⟨oc, g1, g2⟩
  have apart : Builtin.List.listSameRef (.ref l) (.ref r) = false := by
    unfold Builtin.List.listSameRef
    exact beq_eq_false_iff_ne.mpr ne
  have step : ¬ ((rawPart none == rawInt 0) = true) := Bool.false_ne_true
  have mx : (max ((HT.sIx old.size 0 lo : Nat) : Int) ((HT.sIx old.size old.size hi : Nat) : Int)).toNat = max (HT.sIx old.size 0 lo) (HT.sIx old.size old.size hi) := by omega
  have fit' : ((fun xs : Array Value => xs.extract 0 (HT.sIx old.size 0 lo) ++ new ++ xs.extract (max (HT.sIx old.size 0 lo) (HT.sIx old.size old.size hi)) xs.size) old).size ≤ sizeLine + 1 := by
    simp only [Array.size_append, Array.size_extract]
    omega
  have short : old.size + new.size ≤ sizeLine := by omega
  unfold setItem
  try with_reducible refine wpAny_holding ?_
  first | refine wpAny_bind (wpAny_pure ?_) | skip
  refine wpAny_bind (wpAny_sequenceKey lo'.typeIs (by decide) ?_)
  refine wpAny_bind (wpAny_callSpecial?_slot (name := Str.ofString "__setitem__") lo'.typeIs slot_list_setitem (wpAny_call_entry slot_list_setitem lo'.typeIs entry_list_setitem ?_ (args_list_setitem _ _ _)))
  show wpAny _ _ (Builtin.List.listSubscript? (.ref cut) >>= _) _ _ s
  refine wpAny_bind ?_
  unfold Builtin.List.listSubscript?
  refine wpAny_bind (wpAny_specialOf tc slice_no_index ?_)
  simp only [Option.isNone_none, if_true]
  refine wpAny_pure ?_
  show wpAny _ _ (typeOf (.ref cut) >>= _) _ _ s
  refine wpAny_bind (wpAny_typeOf tc ?_)
  first
    | rw [if_neg (by decide)]
    | refine PySem.W.KFB.if_not (by decide) ?_
  rw [listSliceParts_eq]
  refine wpAny_bind (wpAny_bind (wpAny_field g1 g3 (x := .none) rfl (wpAny_bind (wpAny_listPart .none ?_))))
  rw [if_neg step]
  refine wpAny_bind (wpAny_field g1 g3 (x := vl) rfl (wpAny_bind (wpAny_listPart pl ?_)))
  refine wpAny_bind (wpAny_field g1 g3 (x := vu) rfl (wpAny_bind (wpAny_listPart pu (wpAny_pure ?_))))
  first
    | simp only [apart, Bool.false_eq_true, if_false]
    | refine PySem.W.KFB.if_not apart ?_
    | (dsimp only
       rw [if_neg (by rw [apart]; exact Bool.false_ne_true)])
  refine wpAny_bind (m := Builtin.List.listAllItems (.ref r) "must assign iterable to extended slice") ?_
  unfold Builtin.List.listAllItems
  refine wpAny_bind (wpAny_typeOf ln'.typeIs ?_)
  first
    | refine PySem.W.KFB.if_so (by decide) ?_
    | rw [if_pos (by decide)]
    | simp only [beq_self_eq_true, Bool.true_or, if_true]
  unfold Builtin.List.listItems
  refine wpAny_bind (wpAny_seqItems en rfl (wpAny_pure ?_))
  refine wpAny_bind (wpAny_bind (wpAny_seqItems eo rfl (wpAny_pure ?_)))
  refine wpAny_bind (wpAny_of_eq ((sliceIndices_raw lo hi none old.size (by simp)).trans (congrArg (pure : Int × Int × Int → Sem (Int × Int × Int)) (bnds lo hi old.size))) ?_)
  show wpAny _ _ (if ((1 : Int) == 1) = true then _ else _) _ _ s
  rw [if_pos (by decide)]
  refine wpAny_bind (wpAny_rule ?_)
  first
    | simp only [notLongL short, Bool.false_eq_true, if_false]
    | refine PySem.W.KFB.if_not (notLongL short) ?_
  first | refine wpAny_bind (wpAny_pure ?_) | skip
  show wpAny _ _ (updateSeq l (fun xs => xs.extract 0 (((HT.sIx old.size 0 lo : Nat) : Int)).toNat ++ new ++ xs.extract (max ((HT.sIx old.size 0 lo : Nat) : Int) ((HT.sIx old.size old.size hi : Nat) : Int)).toNat xs.size) >>= _) _ _ s
  rw [mx, Int.toNat_natCast]
  refine wpAny_bind (wpAny_updateSeq (hz := Nat.le_trans (Nat.le_add_right _ _) fit) (_hz' := fit') eo rfl ?_)
  refine wpAny_bind (wpAny_letGo ?_)
  first
    | exact wpAny_bind (wpAny_pure (wpAny_pure ⟨.none, rfl, wpAny_pure k⟩))
    | exact wpAny_pure ⟨.none, rfl, wpAny_pure k⟩
end
section
variable {X : Cx}
def cutPut (xs ys : List V) (lo hi : Option Int) : List V := xs.take (HT.sIx xs.length 0 lo) ++ ys ++ xs.drop (max (HT.sIx xs.length 0 lo) (HT.sIx xs.length xs.length hi))
theorem put_val {pins : List (Addr × Obj)} {s : Shared} {σ : L2.St} {H : Hp} {l r cut : Addr} {xs ys : List V} {lo hi : Option Int} {vl vu : Value} {Q : Unit → Shared → Prop} (I : Inv X pins σ H s)
    (hH : H l = some (.lst xs)) (hB : H r = some (.lst ys)) (ne : l ≠ r) (hs : s.heap.IsSliceOf cut vl vu .none) (pl : IsPart vl lo) (pu : IsPart vu hi)
    (hz : xs.length + (ys.length + xs.length) ≤ sizeLine) (h : ∀ s', Inv X pins σ (upd H l (.lst (cutPut xs ys lo hi))) s' → Q () s') :
    wpAny (model X.prog X.w) X.A (setItem (.ref l) (.ref cut) (.ref r)) Q X.xe s := by
  obtain ⟨z, its, n, rv, hl, e⟩ := I.lstM hH
  obtain ⟨z2, its2, n2, rv2, hl2, e2⟩ := I.lstM hB
  refine put_cut e e2 ne hs pl pu (by rw [List.size_toArray, List.size_toArray]; omega) (h _ ?_)
  have es : its.toArray.size = xs.length := by rw [List.size_toArray]; omega
  rw [es]
  refine I.lset (its' := its.take (HT.sIx xs.length 0 lo) ++ its2 ++ its.drop (max (HT.sIx xs.length 0 lo) (HT.sIx xs.length xs.length hi))) (t' := s.toks) hH e ?_ (Vals.append (Vals.append (rv.take _) rv2) (rv.drop _)) ?_
  · exact splice_eq its its2 _ _
  · unfold cutPut
    rw [List.length_append, List.length_append, List.length_take, List.length_drop]
    omega
def gCut (to : TE) (tl th : TO) : TG := fun v σ H Q => to σ H fun o H1 => tl σ H1 fun lo H2 => th σ H2 fun hi H3 => ∃ l r xs ys, o = .ref l ∧ v = .ref r ∧ H3 l = some (.lst xs) ∧ H3 r = some (.lst ys) ∧ l ≠ r ∧ xs.length + (ys.length + xs.length) ≤ sizeLine ∧ Q σ (upd H3 l (.lst (cutPut xs ys lo hi)))
theorem pg_cut {o : Expr} {lo hi : Option Expr} {to : TE} {tl th : TO} {pos p2 : Pos} (ho : PE X o to) (hl : PO X lo tl) (hu : PO X hi th)
    (ha : ∀ v, assign (.Subscript o (.Slice lo hi none p2) pos) X.env v = (do
      let ov ← holding [v] (eval o X.env)
      let iv ← holding [v, ov] (eval (.Slice lo hi none p2) X.env)
      standAt pos
      holding [v, ov, iv] (setItem ov iv v)
      release [iv, v, ov] []) := by intro _; rfl) : PG X (.Subscript o (.Slice lo hi none p2) pos) (gCut to tl th) := by
  refine ⟨fun pins s σ H v u Q I r h => ?_⟩
  rw [ha]
  refine wpAny_bind (wpAny_holding (thn (ho.run pins s σ H _ I h) fun ov s1 ⟨x, H1, I1, r1, q1⟩ => ?_))
  refine wpAny_bind (wpAny_holding (wpAny_Slice (thn (hl.run pins s1 σ H1 _ I1 q1) fun vl s2 ⟨l, H2, I2, pl, q2⟩ => thn (hu.run pins s2 σ H2 _ I2 q2) fun vu s3 ⟨c, H3, I3, pu, q3⟩ => ?_)))
  rw [evalPart_none]
  refine wpAny_pure ?_
  have I4 : L2.Inv X pins σ H3 { s3 with heap := s3.heap.push { cls := .type "slice", data := .fields #[vl, vu, .none] } } := I3.kept (t' := s3.toks) fun b ob q => Heap.get?_push_of_some _ q
  obtain ⟨a, b, xs, ys, rfl, rfl, g1, g2, g3, g4, g5⟩ := q3
  cases r1
  cases r
  refine wpAny_bind (wpAny_standAt (wpAny_bind (wpAny_holding (put_val I4 g1 g2 g3 (Heap.IsSliceOf.new ..) pl pu g4 fun s' I5 => ?_))))
  exact wpAny_release ⟨σ, _, I5, g5⟩
end
end Sx
namespace Dv
open PySem PySem.Spec PyProof.Rows L2 Xg
open Classical
section
variable {K : PySem.W.Frag} {ta tx : TE} {ca cx : Nat} {fa : FD} {fx : FE} {md : Bool}
def cutP (ds es : List PyData) (k : Int) : List PyData := ds.take (HT.sIx ds.length 0 (some k)) ++ es
abbrev sCut (i : Nat) (fa : FD) (fx : FE) : FS := fun ρ E => fa ρ fun es => ownQ ρ i fun ds => fx ρ (asI fun k => (ds.length < 1000000 ∧ es.length < 1000000) ∧ E.nx (ρ.set i (.own (cutP ds es k))))
theorem snds_cut {i : Nat} (a : SndL K ta ca fa) (x : Snd md K tx cx fx) : SndS K (tAsg ta (Sx.gCut (tVar i) (tPart tx) tNoPart)) (ca + cx) (sCut i fa fx) :=
  ⟨fun ρ E E' h q => a.mono _ _ _ (fun es => ownQ_mono fun ds => x.mono _ _ _ (asI_mono fun n z => ⟨z.1, h.nx _ z.2⟩)) q, fun {G H0 b0 b os m H σ ρ D E} ok hm hf k => a.go ok.env (by omega) hf fun es vs p H1 q np st bx e g => by
    obtain ⟨ds, eo, hf⟩ := ownQ_of q
    have ok1 := ok.step st bx (by omega)
    obtain ⟨l, xs, e1, e2, e3, e4, e5⟩ := ok1.env.sl i _ eo
    have nS : ¬ SO G b os p := ok.env.al.new np
    have bp : b ≠ some p := fun z => nS (ok.env.bs p z)
    refine ⟨.ref l, e1, x.go ok1.env (by omega) hf fun dj vj H2 q2 st2 bx2 vd2 => ?_⟩
    obtain ⟨n, rfl, q3⟩ := asI_of q2 vd2
    have ok2 := ok1.step st2 bx2 (by omega)
    have dl : DaL K (rm H2 (SO G b os)) (xs.take (HT.sIx xs.length 0 (some n)) ++ vs) (cutP ds es n) := by
      unfold cutP
      rw [e5.len]
      exact ((e5.mono (st2.rm ok.env.bs)).take _).app ((g.mono (rm_sub fun a z => .inl z)).mono (st2.rm ok.env.bs))
    have ec : Sx.cutPut xs vs (some n) none = xs.take (HT.sIx xs.length 0 (some n)) ++ vs := by
      unfold Sx.cutPut
      rw [HT.sIx_none, List.drop_of_length_le (Nat.le_max_right _ _), List.append_nil]
    refine ⟨n, rfl, l, p, xs, vs, rfl, rfl, st2 _ _ e3 e4, st2 _ _ bp e, fun z => nS (by rw [← z]; exact e2), ?_, ?_⟩
    · rw [e5.len, g.len]
      have w : 1000000 + (1000000 + 1000000) ≤ sizeLine := by decide
      omega
    · rw [ec]
      obtain ⟨o, lk⟩ := ok2.mut eo e1 dl
      exact k.nx _ _ _ _ _ q3.2 (o.le (by omega)) (((Lk.step st ok.env.bs).trans (Lk.step st2 ok.env.bs)).trans lk)⟩
end
end Dv
namespace Kd
open PySem PySem.Spec PyProof.Rows L2 Xg Dv
def ov {α : Type} (row : Bool) (l : List α) : List α := if row = true then l.reverse else l.take 1 ++ (l.drop 1).reverse
section
variable {α : Type} {row : Bool} {n j : Nat}
variable {be ah : List Int} {ws : List (Option Int)}
end
section
variable {row : Bool} {rooms hs cs : List Int} {ws : List (Option Int)} {f : Bool}
end
end Kd
namespace Kd
open PySem PySem.Spec PyProof.Rows L2 Xg Dv
end Kd
namespace Kd
open PySem PySem.Spec PyProof.Rows L2 Xg Dv
section
variable {row : Bool} {rooms hs cs : List Int} {ws : List (Option Int)} {f : Bool}
structure Rf (row : Bool) (n : Nat) (run : List (Bool × List (Option Int))) : Prop where
  len : ∀ s ∈ run, s.2.length = gts row n
  wn : ∀ s ∈ run, Wn s.2
theorem Rf.tail {n : Nat} {s : Bool × List (Option Int)} {r : List (Bool × List (Option Int))} (h : Rf row n (s :: r)) : Rf row n r := ⟨fun t ht => h.len t (List.mem_cons_of_mem _ ht), fun t ht => h.wn t (List.mem_cons_of_mem _ ht)⟩
end
theorem bools_all {α : Type} (xs : List α) : xs.map (fun _ => PyData.bool true) = (List.replicate xs.length true).map PyData.bool := by
  rw [List.map_const', List.map_replicate]
theorem all_true (n : Nat) : (List.replicate n true).all id = true := by
  rw [List.all_eq_true]
  intro x hx
  exact List.eq_of_mem_replicate hx
theorem num_of {i : Int} {Q : PyData → Prop} (q : Q (.bool true)) : F_is_number [.dt (.int i)] Q := by
  unfold F_is_number
  exact ⟨rfl, q⟩
theorem numFrom_of {i j : Int} {Q : PyData → Prop} (h : j ≤ i) (q : Q (.bool true)) : F_is_number_from [.dt (.int i), .dt (.int j)] Q := by
  unfold F_is_number_from
  refine ⟨rfl, num_of ?_⟩
  show Q (.bool (decide (j ≤ i)))
  rw [decide_eq_true h]
  exact q
theorem tupleOf_of {ds : List PyData} {Q : PyData → Prop} (q : Q (.bool true)) : F_is_tuple_of [.dt (.tuple ds), .dt (.int (ds.length : Nat))] Q := by
  unfold F_is_tuple_of
  refine ⟨rfl, ?_⟩
  show Q (.bool (decide (((ds.length : Nat) : Int) = ((ds.length : Nat) : Int))))
  rw [decide_eq_true rfl]
  exact q
end Kd
namespace Kd
open PySem PySem.Spec PyProof.Rows L2 Xg Dv
section
variable {row : Bool} {rooms h0 x y : List Int} {ws : List (Option Int)}
structure Fth (row : Bool) (rooms h0 : List Int) (ws : List (Option Int)) (x y : List Int) : Prop where
  w : ∀ j a, j < gts row rooms.length → ws.getD j none = some a → y.getD j 0 - x.getD j 0 ≤ a
  b : ∀ i, i < rooms.length → y.getD ((i + 1) % gts row rooms.length) 0 ≤ x.getD i 0 + h0.getD i 0
  a : ∀ i, i < rooms.length → y.getD i 0 ≤ x.getD ((i + 1) % gts row rooms.length) 0 + (rooms.getD i 0 - h0.getD i 0)
structure Fc (row : Bool) (rooms : List Int) (ws : List (Option Int)) (h0 x : List Int) : Prop where
  n0 : 0 < rooms.length
  lw : ws.length = gts row rooms.length
  lh : h0.length = rooms.length
  lx : x.length = gts row rooms.length
def Le (n : Nat) (x y : List Int) : Prop := ∀ j, j < n → x.getD j 0 ≤ y.getD j 0
theorem Le.refl {n : Nat} {x : List Int} : Le n x x := fun _ _ => Int.le_refl _
theorem Le.trans {n : Nat} {x y z : List Int} (a : Le n x y) (b : Le n y z) : Le n x z := fun j h => Int.le_trans (a j h) (b j h)
def tb (run : List (Bool × List (Option Int))) : List (Bool × List (Option Int)) := run.reverse.map fun s => (!s.1, s.2)
end
end Kd
namespace Kd
open PySem PySem.Spec PyProof.Rows L2 Xg Dv
theorem same_of {x y : PyData} {Q : PyData → Prop} (e : x = y) (hs : shal 5 x = true) (q : Q (.bool true)) : F_same [.dt x, .dt y] Q := ⟨⟨e, hs⟩, q⟩
theorem one_of_ {ds : List PyData} {Q : PyData → Prop} (h0 : 0 < ds.length) (hz : ds.length < 1000) (q : ∀ d ∈ ds, Q d) : F__law_of [.box, .dt (.list ds)] Q := by
  unfold F__law_of
  refine ⟨rfl, ⟨⟨by omega, by omega⟩, fun r r0 r1 => ?_⟩⟩
  show atQ (L2.atI ds r) Q
  have e : r = ((r.toNat : Nat) : Int) := by omega
  have l : r.toNat < ds.length := by omega
  rw [e, atI_nat (List.getElem?_eq_getElem l)]
  exact q _ (List.getElem_mem l)
def Rm (rooms : List Int) : Prop := ∀ x ∈ rooms, 1 ≤ x ∧ x ≤ 1000000000
def Dr (w : Option Int) : Prop := ∀ x, w = some x → 0 ≤ x ∧ x ≤ 1000000000
def Dw (ws : List (Option Int)) : Prop := ∀ w ∈ ws, Dr w
theorem Dw.wn {ws : List (Option Int)} (h : Dw ws) : Wn ws := fun j x e => by
  rw [List.getD_eq_getElem?_getD] at e
  cases z : ws[j]? with
  | none => rw [z] at e; cases e
  | some w =>
    rw [z] at e
    exact (h w (List.mem_of_getElem? z) x e).1
structure Ln (row : Bool) (rooms : List Int) (most : Nat) : Prop where
  n0 : 0 < rooms.length
  n2 : row = false → 2 ≤ rooms.length
  nz : rooms.length ≤ most
  rm : Rm rooms
inductive All2 {α β : Type} (R : α → β → Prop) : List α → List β → Prop
  | nil : All2 R [] []
  | cons {a : α} {b : β} {as : List α} {bs : List β} : R a b → All2 R as bs → All2 R (a :: as) (b :: bs)
end Kd
namespace Kd
open PySem PySem.Spec PyProof.Rows L2 Xg Dv
structure Lf (d : PyData) : Prop where
  sh : d.showable = true
  di : d.hasDict = false
  dp : d.depth = 0
  lv : d.leavesShort 13 = true
  wt : d.weight ≤ 40
end Kd
namespace Kd
open PySem PySem.Spec PyProof.Rows L2 Xg Dv
def f_is_turn : FS := (sSeq (sIf (fNot (fTest (eCall F_is_tuple_of (aCons (eVar 0) (aCons (eC (.int 2)) aNil))))) (sRet (eC (.bool false))) sSkip) (sSeq (sAsg (eVar 0) (gT (gsCons (gN 1) (gsCons (gN 2) gsNil)))) (sRet (eAnd (eOr (eBin gEq (eVar 1) (eC (.str "forth"))) (eBin gEq (eVar 1) (eC (.str "back")))) (eCall F_is_number_from (aCons (eVar 2) (aCons (eC (.int 1)) aNil)))))))
@[irreducible] def F_is_turn : FF := mkF 1 3 f_is_turn
def t_is_turn (K : PySem.W.Frag) : TS := (tSeq (tIfS (tNot (tB (tCallG (spD K 0 F_is_tuple_of) (tCons (tVar 0) (tCons (tC (.int 2)) tNil))))) (tRet (tC (.bl false))) tNext) (tSeq (tAsg (tVar 0) (fun v σ H Q => gTup K 2 (gCons (gName 1) (gCons (gName 2) gNil)) v σ H Q ∨ gLst K 2 (gCons (gName 1) (gCons (gName 2) gNil)) v σ H Q)) (tRet (tAndV (tOrV (tOp (rEqX K) (tVar 1) (tC (.str "forth"))) (tOp (rEqX K) (tVar 1) (tC (.str "back")))) (tCallG (spD K 0 F_is_number_from) (tCons (tVar 2) (tCons (tC (.int 1)) tNil)))))))
theorem s_is_turn (K : PySem.W.Frag) : SndS K (t_is_turn K) 0 f_is_turn := (snds_seq (snds_if (sndt_not (sndt_B (snd_call (m_is_tuple_of K) (snda_cons snd_var (snda_cons snd_int snda_nil))))) (snds_ret snd_bl) snds_nil) (snds_seq (snds_asg (vs := [1, 2]) snd_var (sndg_tup (sndgs_cons (sndg_name (by decide)) (sndgs_cons (sndg_name (by decide)) sndgs_nil)) (gs_lenS gN_some (gs_lenS gN_some gs_len0)))) (snds_ret (snd_and (snd_or (snd_op ops_eq snd_var snd_str) (snd_op ops_eq snd_var snd_str)) (snd_call (m_is_number_from K) (snda_cons snd_var (snda_cons snd_int snda_nil)))))))
theorem m_is_turn (K : PySem.W.Frag) : MonoF F_is_turn := by
  unfold F_is_turn
  exact mkF_mono (s_is_turn K)
def f_is_turns : FS := (sRet (eAnd (eIsi .list (eVar 0)) (eCB allD (dCons (eL (fComp 1000000 (fIt (eVar 0)) [1] (gN 1) fYes (eCall F_is_turn (aCons (eVar 1) aNil)))) dNil))))
@[irreducible] def F_is_turns : FF := mkF 1 2 f_is_turns
def t_is_turns (K : PySem.W.Frag) : TS := (tRet (tAndV (tCB (rIsi K) (tCons (tVar 0) (tCons (tC (.ty "list")) tNil))) (tCB (rAll K) (tCons (tLc (Pw.iSeq K (tVar 0)) (gName 1) tYes (tCallG (spD K 0 F_is_turn) (tCons (tVar 1) tNil)) [1]) tNil))))
theorem s_is_turns (K : PySem.W.Frag) : SndS K (t_is_turns K) 0 f_is_turns := (snds_ret (snd_and (snd_isi (t := .list) snd_var) (snd_cb cs_all (sndd_cons (SndL.d (sndl_comp (N := 1000000) (by decide) (sndi_seq (Snd.v snd_var)) (sndg_name (by decide)) sndt_yes (snd_call (m_is_turn K) (snda_cons snd_var snda_nil)))) sndd_nil))))
theorem m_is_turns (K : PySem.W.Frag) : MonoF F_is_turns := by
  unfold F_is_turns
  exact mkF_mono (s_is_turns K)
def f_joined : FS := (sSeq (sOwn dNil 1) (sSeq (sFor 1000000 (fIt (eVar 0)) (gT (gsCons (gN 2) (gsCons (gN 3) gsNil))) (sIf (fAnd (fTru (eVarV 1)) (fTest (eBin gEq (eBin gIx (eBin gIx (eVarV 1) (eUn negD (eC (.int 1)))) (eC (.int 0))) (eVar 2)))) (sPut 1 (eUn negD (eC (.int 1))) (eTup (dCons (eVar 2) (dCons (eBin gAdd (eBin gIx (eBin gIx (eVarV 1) (eUn negD (eC (.int 1)))) (eC (.int 1))) (eVar 3)) dNil)))) (sApp 1 (eTup (dCons (eVar 2) (dCons (eVar 3) dNil)))))) (sRetO 1)))
@[irreducible] def F_joined : FF := mkF 1 4 f_joined
@[irreducible] def L_joined : FFL := mkL 1 4 f_joined
def t_joined (K : PySem.W.Frag) : TS := (tSeq (tAsg (tLst tNil) (gName 1)) (tSeq (tFor (Pw.iSeq K (tVar 0)) (fun v σ H Q => gTup K 2 (gCons (gName 2) (gCons (gName 3) gNil)) v σ H Q ∨ gLst K 2 (gCons (gName 2) (gCons (gName 3) gNil)) v σ H Q) (tIfS (tAnd (fun σ H Q => (tVar 1) σ H fun x H' => ∃ k, TruV K x H' k ∧ Q k H') (tTest (tOp (rEqX K) (tOp (rIx K) (tOp (rIx K) (tVar 1) (tUn (rU fun i => .int (-i)) (tC (.int 1)))) (tC (.int 0))) (tVar 2)))) (tAsg (tTup (tCons (tVar 2) (tCons (tOp (rAdd K) (tOp (rIx K) (tOp (rIx K) (tVar 1) (tUn (rU fun i => .int (-i)) (tC (.int 1)))) (tC (.int 1))) (tVar 3)) tNil))) (gSub (tVar 1) (tUn (rU fun i => .int (-i)) (tC (.int 1))) rSetL)) (tDrop (tBM K "list" rAppend (tVar 1) (tCons (tTup (tCons (tVar 2) (tCons (tVar 3) tNil))) tNil))))) (tRet (tVar 1))))
theorem s_joined (K : PySem.W.Frag) : SndS K (t_joined K) 0 f_joined := (snds_seq (snds_own (sndl_lst sndd_nil (by decide))) (snds_seq (snds_for (vs := [2, 3]) (N := 1000000) (sndi_seq snd_var) (sndg_tup (sndgs_cons (sndg_name (by decide)) (sndgs_cons (sndg_name (by decide)) sndgs_nil)) (gs_lenS gN_some (gs_lenS gN_some gs_len0))) (snds_if (sndt_and (sndt_tru sndV_var) (sndt_test (snd_op ops_eq (snd_op ops_ix (snd_op ops_ix sndV_var (snd_un us_neg snd_int)) snd_int) snd_var))) (snds_put (snd_tup (sndd_cons snd_var (sndd_cons (snd_op ops_add (snd_op ops_ix (snd_op ops_ix sndV_var (snd_un us_neg snd_int)) snd_int) snd_var) sndd_nil)) (by decide)) (snd_un us_neg snd_int)) (snds_app (snd_tup (sndd_cons snd_var (sndd_cons snd_var sndd_nil)) (by decide))))) snds_retO))
theorem m_joined (K : PySem.W.Frag) : MonoF F_joined := by
  unfold F_joined
  exact mkF_mono (s_joined K)
def f_is_between_longer : FS := (sRet (eBin (gC fun i j => decide (i ≤ j)) (eBin gIx (eBin gIx (eVar 0) (eVar 1)) (eC (.int 1))) (eCB (g2 (gI fun i j => if j < i then j else i)) (dCons (eBin gIx (eBin gIx (eVar 0) (eBin (gI fun i j => i - j) (eVar 1) (eC (.int 1)))) (eC (.int 1))) (dCons (eBin gIx (eBin gIx (eVar 0) (eBin gAdd (eVar 1) (eC (.int 1)))) (eC (.int 1))) dNil)))))
@[irreducible] def F_is_between_longer : FF := mkF 2 2 f_is_between_longer
def t_is_between_longer (K : PySem.W.Frag) : TS := (tRet (tOp (rI0 fun i j => .bl (decide (i ≤ j))) (tOp (rIx K) (tOp (rIx K) (tVar 0) (tVar 1)) (tC (.int 1))) (tCB (fun xs H Q => ∃ i j, xs = [.int i, .int j] ∧ Q (.int (if j < i then j else i)) H) (tCons (tOp (rIx K) (tOp (rIx K) (tVar 0) (tOp (rI0 fun i j => .int (i - j)) (tVar 1) (tC (.int 1)))) (tC (.int 1))) (tCons (tOp (rIx K) (tOp (rIx K) (tVar 0) (tOp (rAdd K) (tVar 1) (tC (.int 1)))) (tC (.int 1))) tNil)))))
theorem s_is_between_longer (K : PySem.W.Frag) : SndS K (t_is_between_longer K) 0 f_is_between_longer := (snds_ret (snd_op ops_C (snd_op ops_ix (snd_op ops_ix snd_var snd_var) snd_int) (snd_cb cs_min2 (sndd_cons (snd_op ops_ix (snd_op ops_ix snd_var (snd_op ops_I snd_var snd_int)) snd_int) (sndd_cons (snd_op ops_ix (snd_op ops_ix snd_var (snd_op ops_add snd_var snd_int)) snd_int) sndd_nil)))))
theorem m_is_between_longer (K : PySem.W.Frag) : MonoF F_is_between_longer := by
  unfold F_is_between_longer
  exact mkF_mono (s_is_between_longer K)
def f_made_one : FS := (sSeq (sAsg (eVar 0) (gT (gsCons (gT (gsCons (gN 1) (gsCons (gN 2) gsNil))) (gsCons (gT (gsCons (gN 3) (gsCons (gN 4) gsNil))) (gsCons (gT (gsCons (gN 5) (gsCons (gN 6) gsNil))) gsNil))))) (sRet (eTup (dCons (eVar 1) (dCons (eBin gAdd (eBin (gI fun i j => i - j) (eVar 2) (eVar 4)) (eVar 6)) dNil)))))
@[irreducible] def F_made_one : FF := mkF 1 7 f_made_one
def t_made_one (K : PySem.W.Frag) : TS := (tSeq (tAsg (tVar 0) (fun v σ H Q => gTup K 3 (gCons (fun v σ H Q => gTup K 2 (gCons (gName 1) (gCons (gName 2) gNil)) v σ H Q ∨ gLst K 2 (gCons (gName 1) (gCons (gName 2) gNil)) v σ H Q) (gCons (fun v σ H Q => gTup K 2 (gCons (gName 3) (gCons (gName 4) gNil)) v σ H Q ∨ gLst K 2 (gCons (gName 3) (gCons (gName 4) gNil)) v σ H Q) (gCons (fun v σ H Q => gTup K 2 (gCons (gName 5) (gCons (gName 6) gNil)) v σ H Q ∨ gLst K 2 (gCons (gName 5) (gCons (gName 6) gNil)) v σ H Q) gNil))) v σ H Q ∨ gLst K 3 (gCons (fun v σ H Q => gTup K 2 (gCons (gName 1) (gCons (gName 2) gNil)) v σ H Q ∨ gLst K 2 (gCons (gName 1) (gCons (gName 2) gNil)) v σ H Q) (gCons (fun v σ H Q => gTup K 2 (gCons (gName 3) (gCons (gName 4) gNil)) v σ H Q ∨ gLst K 2 (gCons (gName 3) (gCons (gName 4) gNil)) v σ H Q) (gCons (fun v σ H Q => gTup K 2 (gCons (gName 5) (gCons (gName 6) gNil)) v σ H Q ∨ gLst K 2 (gCons (gName 5) (gCons (gName 6) gNil)) v σ H Q) gNil))) v σ H Q)) (tRet (tTup (tCons (tVar 1) (tCons (tOp (rAdd K) (tOp (rI0 fun i j => .int (i - j)) (tVar 2) (tVar 4)) (tVar 6)) tNil)))))
theorem s_made_one (K : PySem.W.Frag) : SndS K (t_made_one K) 0 f_made_one := (snds_seq (snds_asg (vs := [1, 2, 3, 4, 5, 6]) snd_var (sndg_tup (sndgs_cons (sndg_tup (sndgs_cons (sndg_name (by decide)) (sndgs_cons (sndg_name (by decide)) sndgs_nil)) (gs_lenS gN_some (gs_lenS gN_some gs_len0))) (sndgs_cons (sndg_tup (sndgs_cons (sndg_name (by decide)) (sndgs_cons (sndg_name (by decide)) sndgs_nil)) (gs_lenS gN_some (gs_lenS gN_some gs_len0))) (sndgs_cons (sndg_tup (sndgs_cons (sndg_name (by decide)) (sndgs_cons (sndg_name (by decide)) sndgs_nil)) (gs_lenS gN_some (gs_lenS gN_some gs_len0))) sndgs_nil))) (gs_lenS (gT_some (gs_someS gN_some (gs_someS gN_some gs_some0))) (gs_lenS (gT_some (gs_someS gN_some (gs_someS gN_some gs_some0))) (gs_lenS (gT_some (gs_someS gN_some (gs_someS gN_some gs_some0))) gs_len0))))) (snds_ret (snd_tup (sndd_cons snd_var (sndd_cons (snd_op ops_add (snd_op ops_I snd_var snd_var) snd_var) sndd_nil)) (by decide))))
theorem m_made_one (K : PySem.W.Frag) : MonoF F_made_one := by
  unfold F_made_one
  exact mkF_mono (s_made_one K)
def f_forgotten : FS := (sSeq (sOwn dNil 1) (sSeq (sFor 1000000 (fIt (eCall F_joined (aCons (eVar 0) aNil))) (gN 2) (sSeq (sApp 1 (eVar 2)) (sWhile (fAnd (fTest (eBin (gC fun i j => decide (j ≤ i)) (eCB (g1 lenD) (dCons (eVarV 1) dNil)) (eC (.int 3)))) (fTest (eCallF F_is_between_longer (dCons (eVarV 1) (dCons (eBin (gI fun i j => i - j) (eCB (g1 lenD) (dCons (eVarV 1) dNil)) (eC (.int 2))) dNil))))) (sCut 1 (dCons (eCall F_made_one (aCons (eSl (eVarV 1) (oSome (eUn negD (eC (.int 3)))) oNone) aNil)) dNil) (eUn negD (eC (.int 3))))))) (sRetO 1)))
@[irreducible] def F_forgotten : FF := mkF 1 3 f_forgotten
@[irreducible] def L_forgotten : FFL := mkL 1 3 f_forgotten
def t_forgotten (K : PySem.W.Frag) : TS := (tSeq (tAsg (tLst tNil) (gName 1)) (tSeq (tFor (Pw.iSeq K (tCallG (spD K 0 F_joined) (tCons (tVar 0) tNil))) (gName 2) (tSeq (tDrop (tBM K "list" rAppend (tVar 1) (tCons (tVar 2) tNil))) (tWhile (tAnd (tTest (tOp (rI0 fun i j => .bl (decide (j ≤ i))) (tCB (fun xs H Q => ∃ x n, xs = [x] ∧ LenV K x H n ∧ Q (.int n) H) (tCons (tVar 1) tNil)) (tC (.int 3)))) (tB (tCallG (spD K 0 F_is_between_longer) (tCons (tVar 1) (tCons (tOp (rI0 fun i j => .int (i - j)) (tCB (fun xs H Q => ∃ x n, xs = [x] ∧ LenV K x H n ∧ Q (.int n) H) (tCons (tVar 1) tNil)) (tC (.int 2))) tNil))))) (tAsg (tLst (tCons (tCallG (spD K 0 F_made_one) (tCons (tSl (rSlX K) (tVar 1) (tPart (tUn (rU fun i => .int (-i)) (tC (.int 3)))) tNoPart) tNil)) tNil)) (Sx.gCut (tVar 1) (tPart (tUn (rU fun i => .int (-i)) (tC (.int 3)))) tNoPart))))) (tRet (tVar 1))))
theorem s_forgotten (K : PySem.W.Frag) : SndS K (t_forgotten K) 0 f_forgotten := (snds_seq (snds_own (sndl_lst sndd_nil (by decide))) (snds_seq (snds_for (vs := [2]) (N := 1000000) (sndi_seq (snd_call (m_joined K) (snda_cons snd_var snda_nil))) (sndg_name (by decide)) (snds_seq (snds_app snd_var) (snds_while (sndt_and (sndt_test (snd_op ops_C (snd_cb cs_len (sndd_cons sndV_var sndd_nil)) snd_int)) (sndt_B (snd_callF (m_is_between_longer K) (sndd_cons sndV_var (sndd_cons (Snd.v (snd_op ops_I (snd_cb cs_len (sndd_cons sndV_var sndd_nil)) snd_int)) sndd_nil))))) (snds_cut (sndl_lst (sndd_cons (snd_call (m_made_one K) (snda_cons (snd_sl sndV_var (sndo_some (snd_un us_neg snd_int)) sndo_none) snda_nil)) sndd_nil) (by decide)) (snd_un us_neg snd_int))))) snds_retO))
theorem m_forgotten (K : PySem.W.Frag) : MonoF F_forgotten := by
  unfold F_forgotten
  exact mkF_mono (s_forgotten K)
def f_is_forgotten : FS := (sRet (eAnd (eCall F_is_turns (aCons (eVar 0) aNil)) (eBin gEq (eCall F_forgotten (aCons (eVar 0) aNil)) (eVar 0))))
@[irreducible] def F_is_forgotten : FF := mkF 1 1 f_is_forgotten
def t_is_forgotten (K : PySem.W.Frag) : TS := (tRet (tAndV (tCallG (spD K 0 F_is_turns) (tCons (tVar 0) tNil)) (tOp (rEqX K) (tCallG (spD K 0 F_forgotten) (tCons (tVar 0) tNil)) (tVar 0))))
theorem s_is_forgotten (K : PySem.W.Frag) : SndS K (t_is_forgotten K) 0 f_is_forgotten := (snds_ret (snd_and (snd_call (m_is_turns K) (snda_cons snd_var snda_nil)) (snd_op ops_eq (snd_call (m_forgotten K) (snda_cons snd_var snda_nil)) snd_var)))
theorem m_is_forgotten (K : PySem.W.Frag) : MonoF F_is_forgotten := by
  unfold F_is_forgotten
  exact mkF_mono (s_is_forgotten K)
end Kd
namespace Kd
open PySem PySem.Spec PyProof.Rows L2 Xg Dv
@[irreducible] def f__law_went_0 : FS := (sApp 4 (eCB minD (dCons (eVarV 11) dNil)))
@[irreducible] def f__law_went_1 : FS := (sSeq (sIf (fTest (eBin gIsNot (eVar 10) (eC .none))) (sApp 11 (eBin (gI fun i j => i - j) (eBin gIx (eBin gIx (eVar 0) (eC (.int 1))) (eVar 10)) (eBin gIx (eVar 2) (eVar 10)))) sSkip) f__law_went_0)
@[irreducible] def f__law_went_2 : FS := (sSeq (sIf (fTest (eBin gIsNot (eVar 9) (eC .none))) (sApp 11 (eBin gIx (eVar 2) (eVar 9))) sSkip) f__law_went_1)
@[irreducible] def f__law_went_3 : FS := (sSeq (sOwn (fIf (fTest (eBin gIs (eVar 6) (eC .none))) dNil (dCons (eVar 6) dNil)) 11) f__law_went_2)
@[irreducible] def f__law_turns_0 : FS := (sAsg (eIf (fTest (eBin gEq (eCall F_take (aBox 0 (aCons (eC (.int 6)) aNil))) (eC (.int 0)))) (eVar 4) (eDct "forth" "back" "back" "forth" (eVar 4))) (gN 4))
def t__law_turns_0 (K : PySem.W.Frag) : TS := (tAsg (tIf (tTest (tOp (rEqX K) (tCallG (spD K 1 F_take) (tCons (tVar 0) (tCons (tC (.int 6)) tNil))) (tC (.int 0)))) (tVar 4) (tDct "forth" "back" "back" "forth" (tVar 4))) (gName 4))
theorem s__law_turns_0 (K : PySem.W.Frag) : SndS K (t__law_turns_0 K) 1 f__law_turns_0 := by
  unfold f__law_turns_0
  exact (snds_asg (vs := [4]) (snd_if (sndt_test (snd_op ops_eq (snd_call m_take (snda_box (snda_cons snd_int snda_nil))) snd_int)) snd_var (snd_dct snd_var)) (sndg_name (by decide)))
@[irreducible] def f__law_turns_1 : FS := (sRetO 3)
def t__law_turns_1 (K : PySem.W.Frag) : TS := (tRet (tVar 3))
theorem s__law_turns_1 (K : PySem.W.Frag) : SndS K (t__law_turns_1 K) 0 f__law_turns_1 := by
  unfold f__law_turns_1
  exact snds_retO
@[irreducible] def f__law_turns_2 : FS := (sSeq (sFor 100 (fRange1 (eCall F_take (aBox 0 (aCons (eBin gAdd (eVar 1) (eC (.int 1))) aNil)))) (gN 5) (sSeq (sApp 3 (eTup (dCons (eVar 4) (dCons (eBin gAdd (eC (.int 1)) (eCall F_take (aBox 0 (aCons (eVar 2) aNil)))) dNil)))) f__law_turns_0)) f__law_turns_1)
def t__law_turns_2 (K : PySem.W.Frag) : TS := (tSeq (tFor (iRng1 (tCons (tCallG (spD K 1 F_take) (tCons (tVar 0) (tCons (tOp (rAdd K) (tVar 1) (tC (.int 1))) tNil))) tNil)) (gName 5) (tSeq (tDrop (tBM K "list" rAppend (tVar 3) (tCons (tTup (tCons (tVar 4) (tCons (tOp (rAdd K) (tC (.int 1)) (tCallG (spD K 1 F_take) (tCons (tVar 0) (tCons (tVar 2) tNil)))) tNil))) tNil))) (t__law_turns_0 K))) (t__law_turns_1 K))
theorem s__law_turns_2 (K : PySem.W.Frag) : SndS K (t__law_turns_2 K) 201 f__law_turns_2 := by
  unfold f__law_turns_2
  exact (snds_seq (snds_for (vs := [5]) (N := 100) (sndi_range1 (snd_call m_take (snda_box (snda_cons (snd_op ops_add snd_var snd_int) snda_nil)))) (sndg_name (by decide)) (snds_seq (snds_app (snd_tup (sndd_cons snd_var (sndd_cons (snd_op ops_add snd_int (snd_call m_take (snda_box (snda_cons snd_var snda_nil)))) sndd_nil)) (by decide))) (s__law_turns_0 K))) (s__law_turns_1 K))
def f__law_turns : FS := (sSeq (sParO 3 4 dNil (eBin gIx (eLst (dCons (eC (.str "forth")) (dCons (eC (.str "back")) dNil))) (eCall F_take (aBox 0 (aCons (eC (.int 2)) aNil))))) f__law_turns_2)
@[irreducible] def F__law_turns : FF := mkF 3 6 f__law_turns
@[irreducible] def L__law_turns : FFL := mkL 3 6 f__law_turns
def t__law_turns (K : PySem.W.Frag) : TS := (tSeq (tPar 3 4 (tCons (tLst tNil) (tCons (tOp (rIx K) (tLst (tCons (tC (.str "forth")) (tCons (tC (.str "back")) tNil))) (tCallG (spD K 1 F_take) (tCons (tVar 0) (tCons (tC (.int 2)) tNil)))) tNil))) (t__law_turns_2 K))
theorem s__law_turns (K : PySem.W.Frag) : SndS K (t__law_turns K) 202 f__law_turns := (snds_seq (snds_parO (sndl_lst sndd_nil (by decide)) (snd_op ops_ix (SndL.d (sndl_lst (sndd_cons snd_str (sndd_cons snd_str sndd_nil)) (by decide))) (snd_call m_take (snda_box (snda_cons snd_int snda_nil))))) (s__law_turns_2 K))
theorem m__law_turns (K : PySem.W.Frag) : MonoF F__law_turns := by
  unfold F__law_turns
  exact mkF_mono (s__law_turns K)
end Kd
namespace Kd
open PySem PySem.Spec PyProof.Rows L2 Xg Dv
abbrev Tn := Bool × Int
def rd : List Tn → List Tn
  | (w, c) :: (v, b) :: (u, a) :: r => if b ≤ a ∧ b ≤ c then rd ((u, a - b + c) :: r) else (w, c) :: (v, b) :: (u, a) :: r
  | l => l
termination_by l => l.length
theorem rd_3 {w v u : Bool} {c b a : Int} {r : List Tn} : rd ((w, c) :: (v, b) :: (u, a) :: r) = if b ≤ a ∧ b ≤ c then rd ((u, a - b + c) :: r) else (w, c) :: (v, b) :: (u, a) :: r := by
  rw [rd]
theorem rd_0 : rd [] = [] := by rw [rd]; intros; contradiction
theorem rd_1 {x : Tn} : rd [x] = [x] := by rw [rd]; intros; rename_i h; cases h
theorem rd_2 {x y : Tn} : rd [x, y] = [x, y] := by rw [rd]; intros; rename_i h; cases h
def Red : List Tn → Prop
  | (_, c) :: (v, b) :: (u, a) :: r => ¬ (b ≤ a ∧ b ≤ c) ∧ Red ((v, b) :: (u, a) :: r)
  | _ => True
def Alt : List Tn → Prop
  | (w, _) :: (v, b) :: r => v = (!w) ∧ Alt ((v, b) :: r)
  | _ => True
theorem Red.tail : ∀ {l : List Tn} {x : Tn}, Red (x :: l) → Red l
  | [], _, _ => trivial
  | [_], _, _ => trivial
  | _ :: _ :: _, _, h => h.2
theorem Alt.tail : ∀ {l : List Tn} {x : Tn}, Alt (x :: l) → Alt l
  | [], _, _ => trivial
  | _ :: _, _, h => h.2
theorem Alt.top : ∀ {l : List Tn} {w : Bool} {a b : Int}, Alt ((w, a) :: l) → Alt ((w, b) :: l)
  | [], _, _, _, _ => trivial
  | _ :: _, _, _, _, h => h
theorem Red.rd : ∀ {l : List Tn}, Red l → Kd.rd l = l
  | [], _ => rd_0
  | [_], _ => rd_1
  | [_, _], _ => rd_2
  | (w, c) :: (v, b) :: (u, a) :: r, h => by rw [rd_3, if_neg h.1]
theorem rx : ∀ (n : Nat) (R : List Tn), R.length ≤ n → ∀ (w : Bool) (z : Int), Red R → Alt ((w, z) :: R) → ∃ x r, rd ((w, z) :: R) = (w, x) :: r ∧ z ≤ x ∧ (∀ d : Int, 0 ≤ d → rd ((w, z + d) :: R) = rd ((w, x + d) :: r)) ∧ Red ((w, x) :: r) ∧ Alt ((w, x) :: r)
  | n, [], _, w, z, _, _ => ⟨z, [], rd_1, Int.le_refl _, fun d _ => rfl, trivial, trivial⟩
  | n, [y], _, w, z, _, ha => ⟨z, [y], rd_2, Int.le_refl _, fun d _ => rfl, trivial, ha⟩
  | 0, _ :: _ :: _, hn, _, _, _, _ => absurd hn (by simp)
  | n + 1, (v, b) :: (u, a) :: r, hn, w, z, hr, ha => by
    have hu : u = w := by
      obtain ⟨h1, h2, _⟩ := ha
      rw [h2, h1, Bool.not_not]
    subst hu
    by_cases c : b ≤ a ∧ b ≤ z
    · have ha2 : Alt ((u, a - b + z) :: r) := ha.tail.tail.top
      obtain ⟨x, q, e1, e2, e3, e4, e5⟩ := rx n r (by simp at hn; omega) u (a - b + z) hr.tail.tail ha2
      refine ⟨x, q, by rw [rd_3, if_pos c]; exact e1, by omega, fun d hd => ?_, e4, e5⟩
      rw [rd_3, if_pos ⟨c.1, by omega⟩, show a - b + (z + d) = a - b + z + d by omega]
      exact e3 d hd
    · exact ⟨z, (v, b) :: (u, a) :: r, by rw [rd_3, if_neg c], Int.le_refl _, fun d _ => rfl, ⟨c, hr⟩, ha⟩
structure Good (S : List Tn) : Prop where
  r : Red S
  a : Alt S
def ps : List Tn → Tn → List Tn
  | [], t => [t]
  | (v, b) :: r, t => if v = t.1 then rd ((t.1, b + t.2) :: r) else rd (t :: (v, b) :: r)
theorem ps_as {S : List Tn} (g : Good S) (w : Bool) : ∃ z0 R, Red R ∧ (∀ a, Alt ((w, a) :: R)) ∧ (0 ≤ z0 ∨ True) ∧ (∀ a, ps S (w, a) = rd ((w, z0 + a) :: R)) ∧ ((S = R ∧ z0 = 0) ∨ ∃ t r, S = (w, t) :: r ∧ R = r ∧ z0 = t) := by
  cases S with
  | nil => exact ⟨0, [], trivial, fun a => trivial, .inr trivial, fun a => by rw [ps, rd_1, Int.zero_add], .inl ⟨rfl, rfl⟩⟩
  | cons y r =>
    obtain ⟨v, b⟩ := y
    by_cases h : v = w
    · subst h
      exact ⟨b, r, g.r.tail, fun a => g.a.top, .inr trivial, fun a => by rw [ps, if_pos rfl], .inr ⟨b, r, rfl, rfl, rfl⟩⟩
    · refine ⟨0, (v, b) :: r, g.r, fun a => ⟨by cases v <;> cases w <;> first | rfl | exact absurd rfl h, g.a⟩, .inr trivial, fun a => by rw [ps, if_neg h, Int.zero_add], .inl ⟨rfl, rfl⟩⟩
def Nng (S : List Tn) : Prop := ∀ t ∈ S, 0 ≤ t.2
theorem ps_good {S : List Tn} {t : Tn} (g : Good S) : Good (ps S t) := by
  obtain ⟨w, a⟩ := t
  obtain ⟨z0, R, h1, h2, _, h3, _⟩ := ps_as g w
  obtain ⟨x, r, e1, e2, e3, e4, e5⟩ := rx R.length R (Nat.le_refl _) w (z0 + a) h1 (h2 _)
  rw [h3, e1]
  exact ⟨e4, e5⟩
theorem rd_nng : ∀ {n : Nat} {l : List Tn}, l.length ≤ n → Nng l → Nng (rd l)
  | n, [], _, h => by rw [rd_0]; exact h
  | n, [x], _, h => by rw [rd_1]; exact h
  | n, [x, y], _, h => by rw [rd_2]; exact h
  | 0, _ :: _ :: _ :: _, hn, _ => absurd hn (by simp)
  | n + 1, (w, c) :: (v, b) :: (u, a) :: r, hn, h => by
    rw [rd_3]
    by_cases z : b ≤ a ∧ b ≤ c
    · rw [if_pos z]
      have hc := h (w, c) (by simp)
      refine rd_nng (n := n) (by simp at hn ⊢; omega) fun t ht => ?_
      rcases List.mem_cons.mp ht with rfl | ht
      · show 0 ≤ a - b + c
        have hc : 0 ≤ c := hc
        omega
      · exact h t (by simp [ht])
    · rw [if_neg z]
      exact h
theorem ps_nng {S : List Tn} {t : Tn} (g : Nng S) (ht : 0 ≤ t.2) : Nng (ps S t) := by
  cases S with
  | nil =>
    intro x hx
    rw [ps, List.mem_singleton] at hx
    rw [hx]
    exact ht
  | cons y r =>
    obtain ⟨v, b⟩ := y
    have hb : 0 ≤ b := g (v, b) (by simp)
    rw [ps]
    split
    · refine rd_nng (Nat.le_refl _) fun x hx => ?_
      rcases List.mem_cons.mp hx with rfl | hx
      · show 0 ≤ b + t.2
        omega
      · exact g x (by simp [hx])
    · refine rd_nng (Nat.le_refl _) fun x hx => ?_
      rcases List.mem_cons.mp hx with rfl | hx
      · exact ht
      · exact g x hx
theorem ps_join {S : List Tn} {w : Bool} {x y : Int} (g : Good S) (hy : 0 ≤ y) : ps (ps S (w, x)) (w, y) = ps S (w, x + y) := by
  obtain ⟨z0, R, h1, h2, _, h3, _⟩ := ps_as g w
  obtain ⟨m, r, e1, e2, e3, e4, e5⟩ := rx R.length R (Nat.le_refl _) w (z0 + x) h1 (h2 _)
  rw [h3, h3, e1, ps, if_pos rfl, show z0 + (x + y) = z0 + x + y by omega, e3 y hy]
theorem ps_three {S : List Tn} {w : Bool} {a b c : Int} (g : Good S) (n : Nng S) (h1 : b ≤ a) (h2 : b ≤ c) : ps (ps (ps S (w, a)) (!w, b)) (w, c) = ps S (w, a - b + c) := by
  obtain ⟨z0, R, k1, k2, _, k3, k4⟩ := ps_as g w
  obtain ⟨x, r, e1, e2, e3, e4, e5⟩ := rx R.length R (Nat.le_refl _) w (z0 + a) k1 (k2 _)
  have z0' : 0 ≤ z0 := by
    rcases k4 with ⟨_, h⟩ | ⟨t, q, h, _, rfl⟩
    · omega
    · exact n (w, z0) (by rw [h]; simp)
  have nw : ¬ (w = (!w)) := by cases w <;> simp
  have nw2 : ¬ ((!w) = w) := by cases w <;> simp
  rw [k3, k3, e1, show z0 + (a - b + c) = z0 + a + (c - b) by omega, e3 (c - b) (by omega), ps, if_neg nw]
  cases r with
  | nil =>
    rw [rd_2, ps, if_neg nw2, rd_3, if_pos ⟨by omega, h2⟩, show x - b + c = x + (c - b) by omega]
  | cons y q =>
    obtain ⟨v, r0⟩ := y
    have hv : v = (!w) := e5.1
    subst hv
    by_cases z : x ≤ r0 ∧ x ≤ b
    · have xb : x = b := by omega
      rw [rd_3, if_pos z, show r0 - x + b = r0 by omega, e4.tail.rd, ps, if_neg nw2, show x + (c - b) = c by omega]
    · rw [rd_3, if_neg z, ps, if_neg nw2, rd_3, if_pos ⟨by omega, h2⟩, show x - b + c = x + (c - b) by omega]
def nf (S : List Tn) (ts : List Tn) : List Tn := ts.foldl ps S
structure Gn (S : List Tn) : Prop where
  g : Good S
  n : Nng S
theorem gn_nil : Gn [] := ⟨⟨trivial, trivial⟩, fun t h => nomatch h⟩
theorem Gn.ps {S : List Tn} {t : Tn} (h : Gn S) (ht : 0 ≤ t.2) : Gn (Kd.ps S t) := ⟨ps_good h.g, ps_nng h.n ht⟩
theorem Gn.nf : ∀ {ts S : List Tn}, Gn S → Nng ts → Gn (Kd.nf S ts)
  | [], S, h, _ => h
  | t :: r, S, h, n => Gn.nf (ts := r) (S := Kd.ps S t) (h.ps (n t (by simp))) fun x hx => n x (by simp [hx])
theorem nf_app {S a b : List Tn} : nf S (a ++ b) = nf (nf S a) b := List.foldl_append ..
theorem nf_rd : ∀ {n : Nat} {U S : List Tn}, U.length ≤ n → Gn S → Nng U → Alt U → nf S (rd U).reverse = nf S U.reverse
  | n, [], S, _, _, _, _ => by rw [rd_0]
  | n, [x], S, _, _, _, _ => by rw [rd_1]
  | n, [x, y], S, _, _, _, _ => by rw [rd_2]
  | 0, _ :: _ :: _ :: _, S, hn, _, _, _ => absurd hn (by simp)
  | n + 1, (w, c) :: (v, b) :: (u, a) :: r, S, hn, hS, hU, hA => by
    rw [rd_3]
    by_cases z : b ≤ a ∧ b ≤ c
    · have hc : 0 ≤ c := hU (w, c) (by simp)
      have hu : u = w := by
        obtain ⟨h1, h2, _⟩ := hA
        rw [h2, h1, Bool.not_not]
      have hv : v = (!w) := hA.1
      subst hu
      subst hv
      have hr : Nng r.reverse := fun t ht => hU t (by simp [List.mem_reverse.mp ht])
      rw [if_pos z, nf_rd (n := n) (by simp at hn ⊢; omega) hS (fun t ht => by
        rcases List.mem_cons.mp ht with rfl | ht
        · show 0 ≤ a - b + c
          omega
        · exact hU t (by simp [ht])) hA.tail.tail.top]
      have g := hS.nf hr
      rw [List.reverse_cons, nf_app, List.reverse_cons, List.reverse_cons, List.reverse_cons, nf_app, nf_app, nf_app]
      exact (ps_three g.g g.n z.1 z.2).symm
    · rw [if_neg z]
theorem nf_ps {U S : List Tn} {t : Tn} (hS : Gn S) (hU : Gn U) (ht : 0 ≤ t.2) : nf S (ps U t).reverse = ps (nf S U.reverse) t := by
  cases U with
  | nil => rfl
  | cons y r =>
    obtain ⟨v, b⟩ := y
    obtain ⟨w, a⟩ := t
    have hb : 0 ≤ b := hU.n (v, b) (by simp)
    have ht : 0 ≤ a := ht
    rw [ps]
    by_cases h : v = w
    · subst h
      rw [if_pos rfl, nf_rd (Nat.le_refl _) hS (fun x hx => ?_) hU.g.a.top, List.reverse_cons, nf_app, List.reverse_cons, nf_app]
      · have g := hS.nf (ts := r.reverse) fun x hx => hU.n x (by simp [List.mem_reverse.mp hx])
        exact (ps_join g.g ht).symm
      · rcases List.mem_cons.mp hx with rfl | hx
        · show 0 ≤ b + a
          omega
        · exact hU.n x (by simp [hx])
    · have hv : v = (!w) := by cases v <;> cases w <;> first | rfl | exact absurd rfl h
      rw [if_neg (by exact h), nf_rd (U := (w, a) :: (v, b) :: r) (Nat.le_refl _) hS (fun x hx => ?_) ⟨hv, hU.g.a⟩, List.reverse_cons, nf_app]
      · rfl
      · rcases List.mem_cons.mp hx with rfl | hx
        · exact ht
        · exact hU.n x hx
theorem nf_nf : ∀ {ts U S : List Tn}, Gn S → Gn U → Nng ts → nf S (nf U ts).reverse = nf (nf S U.reverse) ts
  | [], U, S, _, _, _ => rfl
  | t :: r, U, S, hS, hU, ht => by
    have h0 := ht t (by simp)
    show nf S (nf (ps U t) r).reverse = nf (ps (nf S U.reverse) t) r
    rw [nf_nf hS (hU.ps h0) fun x hx => ht x (by simp [hx]), nf_ps hS hU h0]
end Kd
namespace Kd
open PySem PySem.Spec PyProof.Rows L2 Xg Dv
def tn (k : Bool) (s : Tn) : PyData := sqd k [.str (wy s.1), .int s.2]
abbrev en (Q : PyData → Prop) : DEnds := { nx := fun _ => Q .none, rt := Q, rl := fun ds => Q (.list ds) }
def jS (acc : List Tn) (s : Tn) : List Tn := match acc.getLast? with
  | some l => if l.1 = s.1 then acc.dropLast ++ [(s.1, l.2 + s.2)] else acc ++ [s]
  | none => [s]
def jn (ts : List Tn) : List Tn := ts.foldl jS []
theorem nil_or_app {α : Type} (a : List α) : a = [] ∨ ∃ b l, a = b ++ [l] := by
  rcases List.eq_nil_or_concat a with h | ⟨b, l, h⟩
  · exact .inl h
  · exact .inr ⟨b, l, by rw [h, List.concat_eq_append]⟩
theorem jS_nil {s : Tn} : jS [] s = [s] := rfl
theorem jS_app {a : List Tn} {l s : Tn} : jS (a ++ [l]) s = if l.1 = s.1 then a ++ [(s.1, l.2 + s.2)] else a ++ [l] ++ [s] := by
  unfold jS
  rw [List.getLast?_concat]
  show (if l.1 = s.1 then (a ++ [l]).dropLast ++ [(s.1, l.2 + s.2)] else a ++ [l] ++ [s]) = _
  rw [List.dropLast_concat]
def bts (ts : List Tn) : Int := (ts.map fun s : Tn => s.2).sum
def bkT (ts : List Tn) : List Tn := ts.reverse.map fun s => (!s.1, s.2)
theorem bts_app {a b : List Tn} : bts (a ++ b) = bts a + bts b := by unfold bts; rw [List.map_append, List.sum_append]
theorem bts_one {s : Tn} : bts [s] = s.2 := by simp [bts]
theorem jS_all {R : Tn → Prop} (hR : ∀ b x y, R (b, x) → R (b, y) → R (b, x + y)) {a : List Tn} {s : Tn} (ha : ∀ t ∈ a, R t) (hs : R s) : ∀ t ∈ jS a s, R t := by
  rcases nil_or_app a with rfl | ⟨b, l, rfl⟩
  · intro t ht
    rw [jS_nil] at ht
    rw [List.mem_singleton.mp ht]
    exact hs
  · intro t ht
    rw [jS_app] at ht
    have hl : R l := ha l (by simp)
    split at ht
    · rename_i e
      rcases List.mem_append.mp ht with ht | ht
      · exact ha t (List.mem_append_left _ ht)
      · rw [List.mem_singleton.mp ht]
        obtain ⟨x, y⟩ := l
        obtain ⟨x2, y2⟩ := s
        have e : x = x2 := e
        subst e
        exact hR _ _ _ hl hs
    · rcases List.mem_append.mp ht with ht | ht
      · exact ha t ht
      · rw [List.mem_singleton.mp ht]
        exact hs
theorem jn_all {R : Tn → Prop} (hR : ∀ b x y, R (b, x) → R (b, y) → R (b, x + y)) : ∀ {ts a : List Tn}, (∀ t ∈ a, R t) → (∀ t ∈ ts, R t) → ∀ t ∈ ts.foldl jS a, R t
  | [], a, ha, _ => ha
  | s :: r, a, ha, ht => jn_all (ts := r) (a := jS a s) hR (jS_all hR ha (ht s (List.mem_cons_self ..))) fun t h => ht t (List.mem_cons_of_mem _ h)
theorem jS_len {a : List Tn} {s : Tn} : (jS a s).length ≤ a.length + 1 := by
  rcases nil_or_app a with rfl | ⟨b, l, rfl⟩
  · rw [jS_nil]
    simp
  · rw [jS_app]
    split <;> simp
theorem jn_len : ∀ {ts a : List Tn}, (ts.foldl jS a).length ≤ a.length + ts.length
  | [], a => by simp
  | s :: r, a => by
    have z := jn_len (ts := r) (a := jS a s)
    have y := jS_len (a := a) (s := s)
    rw [List.foldl_cons, List.length_cons]
    omega
theorem bkT_bkT {ts : List Tn} : bkT (bkT ts) = ts := by
  unfold bkT
  rw [← List.map_reverse, List.reverse_reverse, List.map_map]
  have e : ((fun s : Tn => (!s.1, s.2)) ∘ fun s : Tn => (!s.1, s.2)) = id := by
    funext s
    simp
  rw [e, List.map_id]
theorem bkT_cons {s : Tn} {r : List Tn} : bkT (s :: r) = bkT r ++ [(!s.1, s.2)] := by
  unfold bkT
  rw [List.reverse_cons, List.map_append]
  rfl
section
variable {Q : PyData → Prop} {ts : List Tn} {kr kp : Bool}
theorem last_ix {n : Nat} : ixN (n + 1) (-1) = some n := by
  unfold L2.ixN
  rw [if_neg (by omega), if_pos (by omega)]
  congr 1
  omega
theorem set_last {α : Type} {a : List α} {l d : α} : (a ++ [l]).set a.length d = a ++ [d] := by
  rw [List.set_append_right _ _ (Nat.le_refl _), Nat.sub_self]
  rfl
abbrev jB : FS := (sIf (fAnd (fTru (eVarV 1)) (fTest (eBin gEq (eBin gIx (eBin gIx (eVarV 1) (eUn negD (eC (.int 1)))) (eC (.int 0))) (eVar 2)))) (sPut 1 (eUn negD (eC (.int 1))) (eTup (dCons (eVar 2) (dCons (eBin gAdd (eBin gIx (eBin gIx (eVarV 1) (eUn negD (eC (.int 1)))) (eC (.int 1))) (eVar 3)) dNil)))) (sApp 1 (eTup (dCons (eVar 2) (dCons (eVar 3) dNil)))))
theorem wy_eq {a b : Bool} : decide (wy a = wy b) = decide (a = b) := by cases a <;> cases b <;> decide
theorem jBody {E : DEnds} {acc : List Tn} {s : Tn} {d0 : PyData} (hl : acc.length < 100000) (q : E.nx [.dt d0, .own ((jS acc s).map (tn true)), .dt (.str (wy s.1)), .dt (.int s.2)]) : jB [.dt d0, .own (acc.map (tn true)), .dt (.str (wy s.1)), .dt (.int s.2)] E := by
  rcases nil_or_app acc with rfl | ⟨a, l, rfl⟩
  · exact ⟨by decide, q⟩
  · rw [jS_app] at q
    have em : (a ++ [l]).map (tn true) = a.map (tn true) ++ [tn true l] := by rw [List.map_append]; rfl
    have ne : (!(a.map (tn true) ++ [tn true l]).isEmpty) = true := by simp
    rw [em]
    have lm : (a.map (tn true) ++ [tn true l]).length = a.length + 1 := by rw [List.length_append, List.length_map]; rfl
    show if (!(a.map (tn true) ++ [tn true l]).isEmpty) = true then _ else _
    rw [if_pos ne]
    show atQ (L2.atI (a.map (tn true) ++ [tn true l]) (-1)) _
    rw [atI_last]
    show if decide (wy l.1 = wy s.1) = true then _ else _
    rw [wy_eq]
    by_cases z : l.1 = s.1
    · rw [if_pos (decide_eq_true z)]
      rw [if_pos z] at q
      show atQ (L2.atI (a.map (tn true) ++ [tn true l]) (-1)) _
      rw [atI_last]
      refine ⟨a.length, by rw [lm]; exact last_ix, ?_⟩
      have es : (a.map (tn true) ++ [tn true l]).set a.length (.tuple [.str (wy s.1), .int (l.2 + s.2)]) = (a ++ [(s.1, l.2 + s.2)]).map (tn true) := by
        have z := set_last (a := a.map (tn true)) (l := tn true l) (d := .tuple [.str (wy s.1), .int (l.2 + s.2)])
        rw [List.length_map] at z
        rw [z, List.map_append]
        rfl
      have q' := q
      rw [← es] at q'
      exact q'
    · rw [if_neg (by rw [decide_eq_true_eq]; exact z)]
      rw [if_neg z] at q
      refine (show (a.map (tn true) ++ [tn true l]).length < 1000000 ∧ _ from ⟨by rw [lm]; rw [List.length_append] at hl; have : [l].length = 1 := rfl; omega, ?_⟩)
      rw [List.map_append, em] at q
      exact q
theorem joined_body {E : DEnds} (hz : ts.length ≤ 1000) (q : E.rl ((jn ts).map (tn true))) : f_joined [.dt (sqd kr (ts.map (tn kp))), .no, .no, .no] E := by
  have loop : ∀ (r acc : List Tn) (s2 s3 : Sl) (d0 : PyData), acc.length + r.length ≤ 1000 → E.rl ((r.foldl jS acc).map (tn true)) → forD (gT (gsCons (gN 2) (gsCons (gN 3) gsNil))) jB (r.map (tn kp)) [.dt d0, .own (acc.map (tn true)), s2, s3] { E with nx := fun ρ' => sRetO 1 ρ' E } := by
    intro r
    induction r with
    | nil => intro acc s2 s3 d0 _ q; exact q
    | cons s r ih =>
      intro acc s2 s3 d0 hl q
      rw [List.length_cons] at hl
      have jl := jS_len (a := acc) (s := s)
      have step := jBody (acc := acc) (s := s) (d0 := d0) (E := { E with nx := fun ρ2 => forD (gT (gsCons (gN 2) (gsCons (gN 3) gsNil))) jB (r.map (tn kp)) ρ2 { E with nx := fun ρ' => sRetO 1 ρ' E }, ct := fun ρ2 => forD (gT (gsCons (gN 2) (gsCons (gN 3) gsNil))) jB (r.map (tn kp)) ρ2 { E with nx := fun ρ' => sRetO 1 ρ' E }, bk := fun ρ' => sRetO 1 ρ' E }) (by omega) (ih (jS acc s) _ _ d0 (by omega) q)
      cases kp with
      | true => exact step
      | false => exact step
  have main := loop ts [] .no .no (sqd kr (ts.map (tn kp))) (by simp; exact hz) q
  cases kr with
  | true => exact ⟨by rw [List.length_map]; omega, main⟩
  | false => exact ⟨by rw [List.length_map]; omega, main⟩
theorem joined_of (hz : ts.length ≤ 1000) (q : Q (.list ((jn ts).map (tn true)))) : F_joined [.dt (sqd kr (ts.map (tn kp)))] Q := by
  unfold F_joined
  exact ⟨rfl, joined_body hz q⟩
theorem isTurn_of {s : Tn} (h : 1 ≤ s.2) (q : Q (.bool true)) : F_is_turn [.dt (tn true s)] Q := by
  obtain ⟨b, n⟩ := s
  unfold F_is_turn
  refine ⟨rfl, ?_⟩
  refine tupleOf_of (ds := [.str (wy b), .int n]) ?_
  cases b with
  | true => exact numFrom_of h q
  | false => exact numFrom_of h q
theorem isTurns_of (hz : ts.length ≤ 1000) (h : ∀ s ∈ ts, 1 ≤ s.2) (q : Q (.bool true)) : F_is_turns [.dt (.list (ts.map (tn true)))] Q := by
  unfold F_is_turns
  refine ⟨rfl, (show (ts.map (tn true)).length ≤ 1000000 ∧ _ from ⟨by rw [List.length_map]; omega, ?_⟩)⟩
  refine comp_enc (tn true) (fun _ => .bool true) ts [] (fun s hs P hp => isTurn_of (h s hs) hp) ?_
  refine ⟨List.replicate ts.length true, by rw [List.nil_append]; exact bools_all ts, ?_⟩
  show Q (.bool ((List.replicate ts.length true).all id))
  rw [all_true]
  exact q
end
end Kd
namespace Kd
open PySem PySem.Spec PyProof.Rows L2 Xg Dv
theorem comp_flt {α : Type} {g : FG} {tt : FT} {te : FE} {ρ : List Sl} {Q : List PyData → Prop} (e r : α → PyData) (c : α → Bool) : ∀ (xs : List α) (acc : List PyData), (∀ x ∈ xs, ∀ (P : PyData → Prop) (N : Prop), (if c x = true then P (r x) else N) → g (e x) ρ fun ρ1 => tt ρ1 fun k => if k = true then te ρ1 P else N) →
    Q (acc ++ (xs.filter c).map r) → compD g tt te ρ (xs.map e) acc Q
  | [], acc, _, q => by
    rw [List.filter_nil, List.map_nil, List.append_nil] at q
    exact q
  | x :: xs, acc, hs, q => hs x (List.mem_cons_self ..) (fun y => compD g tt te ρ (xs.map e) (acc ++ [y]) Q) (compD g tt te ρ (xs.map e) acc Q) (by
    have ih := fun a h => comp_flt (Q := Q) e r c xs a (fun z hz => hs z (List.mem_cons_of_mem _ hz)) h
    by_cases z : c x = true
    · rw [if_pos z]
      rw [List.filter_cons_of_pos z, List.map_cons] at q
      refine ih _ ?_
      rw [List.append_assoc]
      exact q
    · rw [if_neg z]
      rw [List.filter_cons_of_neg z] at q
      exact ih _ q)
theorem str_ok {b : Bool} : PyData.strOk (wy b) = true := by cases b <;> decide +kernel
theorem lay_tn : ∀ ts : List Tn, PyData.canLayAll0 (ts.map (tn true)) = true ∧ PyData.depthAll (ts.map (tn true)) ≤ 1
  | [] => ⟨by simp [PyData.canLayAll0], by simp [PyData.depthAll]⟩
  | s :: r => by
    obtain ⟨g1, g2⟩ := lay_tn r
    have e : tn true s = .tuple [.str (wy s.1), .int s.2] := rfl
    refine ⟨?_, ?_⟩
    · rw [List.map_cons, PyData.canLayAll0, g1, e]
      simp [PyData.canLay0, PyData.canLayAll0, str_ok]
    · rw [List.map_cons, PyData.depthAll, e]
      simp [PyData.depth, PyData.depthAll]
      omega
theorem shp_tn {ts : List Tn} : SeqAt.shaped (.list (ts.map (tn true))) = true := by
  obtain ⟨g1, g2⟩ := lay_tn ts
  unfold SeqAt.shaped
  rw [PyData.canLay0, PyData.depth, g1]
  rw [Bool.true_and, decide_eq_true_eq]
  omega
theorem ne_nil {ts : List Tn} {Q : PyData → Prop} (q : Q (.bool (!ts.isEmpty))) : gNe (.list (ts.map (tn true))) (.list []) Q := by
  refine ⟨shp_tn, by decide +kernel, ?_⟩
  cases ts with
  | nil =>
    rw [show PyData.eqv (.list (List.map (tn true) [])) (.list []) = true by simp [PyData.eqv, PyData.eqvAll]]
    exact q
  | cons a r =>
    rw [show PyData.eqv (.list (List.map (tn true) (a :: r))) (.list []) = false by simp [PyData.eqv, PyData.eqvAll]]
    exact q
section
variable {Q : PyData → Prop} {ts : List Tn}
abbrev tuB : FS := (sSeq (sApp 3 (eTup (dCons (eVar 4) (dCons (eBin gAdd (eC (.int 1)) (eCall F_take (aBox 0 (aCons (eVar 2) aNil)))) dNil)))) f__law_turns_0)
theorem turns_of {size long : Nat} (hs : size ≤ 90) (h0 : 0 < long) (hl : long ≤ 1000000) (q : ∀ ts : List Tn, ts.length ≤ size → (∀ s ∈ ts, 1 ≤ s.2 ∧ s.2 ≤ (long : Nat)) → Q (.list (ts.map (tn true)))) : F__law_turns [.box, .dt (.int (size : Nat)), .dt (.int (long : Nat))] Q := by
  have loop : ∀ (n : Nat) (ks : List PyData), ks.length = n → ∀ (ts : List Tn) (b : Bool) (s5 : Sl), ts.length + n ≤ size → (∀ s ∈ ts, 1 ≤ s.2 ∧ s.2 ≤ (long : Nat)) →
      forD (gN 5) tuB ks [.box, .dt (.int (size : Nat)), .dt (.int (long : Nat)), .own (ts.map (tn true)), .dt (.str (wy b)), s5] { nx := fun ρ' => f__law_turns_1 ρ' (en Q), rt := Q, rl := fun ds => Q (.list ds) } := by
    intro n
    induction n with
    | zero =>
      intro ks hk ts b s5 hr hw
      cases ks with
      | cons => cases hk
      | nil =>
        show f__law_turns_1 _ _
        unfold f__law_turns_1
        exact q ts (by omega) hw
    | succ n ih =>
      intro ks hk ts b s5 hr hw
      cases ks with
      | nil => cases hk
      | cons d ks =>
        rw [List.length_cons] at hk
        refine (show (0 < ((long : Nat) : Int) ∧ ((long : Nat) : Int) < 1073741824) ∧ _ from ⟨⟨by omega, by omega⟩, fun r r0 r1 => ?_⟩)
        have r1 : r < ((long : Nat) : Int) := r1
        refine (show (ts.map (tn true)).length < 1000000 ∧ _ from ⟨by rw [List.length_map]; omega, ?_⟩)
        have w : ∀ b' : Bool, forD (gN 5) tuB ks [.box, .dt (.int (size : Nat)), .dt (.int (long : Nat)), .own (ts.map (tn true) ++ [tn true (b, 1 + r)]), .dt (.str (wy b')), .dt d] { nx := fun ρ' => f__law_turns_1 ρ' (en Q), rt := Q, rl := fun ds => Q (.list ds) } := fun b' => by
          have z := ih ks (by omega) (ts ++ [(b, 1 + r)]) b' (.dt d) (by rw [List.length_append]; show ts.length + 1 + n ≤ size; omega) (fun s hs => by
            rcases List.mem_append.mp hs with h | h
            · exact hw s h
            · rw [List.mem_singleton.mp h]
              exact ⟨by show 1 ≤ 1 + r; omega, by show 1 + r ≤ _; omega⟩)
          rw [List.map_append] at z
          exact z
        show f__law_turns_0 [.box, .dt (.int (size : Nat)), .dt (.int (long : Nat)), .own (ts.map (tn true) ++ [tn true (b, 1 + r)]), .dt (.str (wy b)), .dt d] _
        unfold f__law_turns_0
        refine ⟨⟨by decide, by decide⟩, fun u u0 u1 => ?_⟩
        show if decide (u = 0) = true then _ else _
        by_cases y : u = 0
        · rw [if_pos (decide_eq_true y)]
          exact w b
        · rw [if_neg (by rw [decide_eq_true_eq]; exact y)]
          cases b with
          | true => exact ⟨⟨by decide, .inl rfl⟩, w false⟩
          | false => exact ⟨⟨by decide, .inr rfl⟩, w true⟩
  unfold F__law_turns
  refine ⟨rfl, ⟨⟨by decide, by decide⟩, fun t t0 t1 => ?_⟩⟩
  have main : ∀ b : Bool, f__law_turns_2 [.box, .dt (.int (size : Nat)), .dt (.int (long : Nat)), .own [], .dt (.str (wy b)), .no] (en Q) := fun b => by
    unfold f__law_turns_2
    refine (show (0 < ((size : Nat) : Int) + 1 ∧ ((size : Nat) : Int) + 1 < 1073741824) ∧ _ from ⟨⟨by omega, by omega⟩, fun r r0 r1 => ?_⟩)
    have r1 : r < ((size : Nat) : Int) + 1 := r1
    refine ⟨⟨by omega, by omega⟩, by rw [range_len]; omega, ?_⟩
    exact loop r.toNat _ (by rw [range_len]) [] b _ (by simp; omega) (fun s h => nomatch h)
  have c : t = 0 ∨ t = 1 := by omega
  rcases c with rfl | rfl
  · exact main true
  · exact main false
end
abbrev dT (ts : List Tn) : PyData := .list (ts.map (tn true))
end Kd
namespace Kd
open PySem PySem.Spec PyProof.Rows L2 Xg Dv
abbrev oN (k : Option Nat) : PyData := oI (k.map fun i => ((i : Nat) : Int))
section
variable {row forth : Bool} {rooms hs : List Int} {ws : List (Option Int)}
abbrev gvs (hs : List Int) (g : Option Nat) : List Int := g.toList.map fun k => hs.getD k 0
abbrev gts' (rooms hs : List Int) (g : Option Nat) : List Int := g.toList.map fun k => rooms.getD k 0 - hs.getD k 0
theorem w0 {σ : List Sl} {acc : List PyData} {B : List Int} {E : DEnds} (h4 : σ[4]? = some (.own acc)) (h11 : σ[11]? = some (.own (B.map PyData.int))) (hB : B ≠ []) (hl : acc.length < 1000000) (q : E.nx (σ.set 4 (.own (acc ++ [.int (mn B)])))) : f__law_went_0 σ E := by
  unfold f__law_went_0 sApp ownQ
  rw [h4]
  show eVarV 11 σ _
  unfold eVarV
  rw [h11]
  exact min_of hB ⟨hl, q⟩
theorem w3 {acc : List PyData} {j : Nat} {w : Option Int} {gv gt : Option Nat} {s7 s8 s11 : Sl} {E : DEnds} {d1 d3 : PyData} (lh : hs.length = rooms.length) (h1 : ∀ k, gv = some k → k < rooms.length) (h2 : ∀ k, gt = some k → k < rooms.length) (hl : acc.length < 1000000) (ne : w.toList ++ gvs hs gv ++ gts' rooms hs gt ≠ [])
    (q : ∀ s11, E.nx [.dt (ln true row rooms), .dt d1, .dt (iq true hs), .dt d3, .own (acc ++ [.int (mn (w.toList ++ gvs hs gv ++ gts' rooms hs gt))]), .dt (.int (j : Nat)), .dt (oI w), s7, s8, .dt (oN gv), .dt (oN gt), s11]) :
    f__law_went_3 [.dt (ln true row rooms), .dt d1, .dt (iq true hs), .dt d3, .own acc, .dt (.int (j : Nat)), .dt (oI w), s7, s8, .dt (oN gv), .dt (oN gt), s11] E := by
  have st2 : ∀ B : List Int, B.length < 3 → (B ++ gvs hs gv ++ gts' rooms hs gt = w.toList ++ gvs hs gv ++ gts' rooms hs gt) → f__law_went_2 [.dt (ln true row rooms), .dt d1, .dt (iq true hs), .dt d3, .own acc, .dt (.int (j : Nat)), .dt (oI w), s7, s8, .dt (oN gv), .dt (oN gt), .own (B.map PyData.int)] E := fun B lB eB => by
    have st1 : ∀ C : List Int, C.length < 5 → (C ++ gts' rooms hs gt = w.toList ++ gvs hs gv ++ gts' rooms hs gt) → f__law_went_1 [.dt (ln true row rooms), .dt d1, .dt (iq true hs), .dt d3, .own acc, .dt (.int (j : Nat)), .dt (oI w), s7, s8, .dt (oN gv), .dt (oN gt), .own (C.map PyData.int)] E := fun C lC eC => by
      unfold f__law_went_1
      cases gt with
      | none =>
        have eC' : C = w.toList ++ gvs hs gv ++ gts' rooms hs none := by
          rw [← eC]
          exact (List.append_nil _).symm
        refine w0 (B := C) rfl rfl (by rw [eC']; exact ne) hl ?_
        rw [eC']
        exact q _
      | some k =>
        have hk := h2 k rfl
        show atQ (L2.atI (rooms.map PyData.int) ((k : Nat) : Int)) _
        rw [atI_i hk]
        show atQ (L2.atI (hs.map PyData.int) ((k : Nat) : Int)) _
        rw [atI_i (by rw [lh]; exact hk)]
        refine (show (C.map PyData.int).length < 1000000 ∧ _ from ⟨by rw [len_i]; omega, ?_⟩)
        have eC' : C ++ [rooms.getD k 0 - hs.getD k 0] = w.toList ++ gvs hs gv ++ gts' rooms hs (some k) := eC
        refine w0 (B := C ++ [rooms.getD k 0 - hs.getD k 0]) rfl (by rw [List.map_append]; rfl) (by simp) hl ?_
        rw [eC']
        exact q _
    unfold f__law_went_2
    cases gv with
    | none =>
      refine st1 B (by omega) ?_
      rw [← eB]
      show B ++ _ = B ++ [] ++ _
      rw [List.append_nil]
    | some k =>
      have hk := h1 k rfl
      show atQ (L2.atI (hs.map PyData.int) ((k : Nat) : Int)) _
      rw [atI_i (by rw [lh]; exact hk)]
      refine (show (B.map PyData.int).length < 1000000 ∧ _ from ⟨by rw [len_i]; omega, ?_⟩)
      have z := st1 (B ++ [hs.getD k 0]) (by rw [List.length_append, List.length_singleton]; omega) eB
      rw [List.map_append] at z
      exact z
  unfold f__law_went_3
  cases w with
  | none => exact st2 [] (by decide) rfl
  | some x => exact st2 [x] (by show 1 < 3; decide) rfl
end
end Kd
namespace Kd
open PySem PySem.Spec PyProof.Rows L2 Xg Dv
section
variable {row forth : Bool} {rooms hs : List Int} {ws : List (Option Int)} {n j : Nat}
end
end Kd
namespace Kd
open PySem PySem.Spec PyProof.Rows L2 Xg Dv
abbrev Run := List (Bool × List (Option Int))
abbrev nt (row : Bool) (rooms : List Int) : List Int := vec (gts row rooms.length) fun _ => 0
section
variable {row : Bool} {rooms hs : List Int} {run : Run} {Q : PyData → Prop}
end
end Kd
namespace Kd
open PySem PySem.Spec PyProof.Rows L2 Xg Dv
theorem alt_app : ∀ {a : List Tn} {l s : Tn}, Alt (a ++ [l]) → s.1 = (!l.1) → Alt (a ++ [l] ++ [s])
  | [], l, s, _, h => ⟨h, trivial⟩
  | [x], l, s, h, e => ⟨h.1, e, trivial⟩
  | x :: y :: r, l, s, h, e => ⟨h.1, alt_app (a := y :: r) h.2 e⟩
theorem alt_last : ∀ {a : List Tn} {l s : Tn}, Alt (a ++ [l]) → s.1 = l.1 → Alt (a ++ [s])
  | [], l, s, _, h => trivial
  | [x], l, s, h, e => ⟨by rw [e]; exact h.1, trivial⟩
  | x :: y :: r, l, s, h, e => ⟨h.1, alt_last (a := y :: r) h.2 e⟩
theorem alt_jS {a : List Tn} {s : Tn} (h : Alt a) : Alt (jS a s) := by
  rcases nil_or_app a with rfl | ⟨b, l, rfl⟩
  · exact trivial
  · rw [jS_app]
    split
    · rename_i e
      exact alt_last h e.symm
    · rename_i e
      exact alt_app h (by cases h1 : s.1 <;> cases h2 : l.1 <;> first | rfl | (rw [h1, h2] at e; exact absurd rfl e))
theorem alt_jn : ∀ {ts a : List Tn}, Alt a → Alt (ts.foldl jS a)
  | [], a, h => h
  | s :: r, a, h => alt_jn (ts := r) (alt_jS h)
theorem nng_jn {ts : List Tn} (h : Nng ts) : Nng (jn ts) := jn_all (R := fun t => 0 ≤ t.2) (fun b x y (hx : 0 ≤ x) (hy : 0 ≤ y) => (show 0 ≤ x + y by omega)) (fun t h => nomatch h) h
theorem nf_jS {S a : List Tn} {t : Tn} (hS : Gn S) (ha : Nng a) (ht : 0 ≤ t.2) : nf S (jS a t) = ps (nf S a) t := by
  rcases nil_or_app a with rfl | ⟨b, l, rfl⟩
  · rfl
  · have g := hS.nf (ts := b) fun x hx => ha x (List.mem_append_left _ hx)
    obtain ⟨v, m⟩ := l
    obtain ⟨w, n⟩ := t
    rw [jS_app]
    by_cases e : v = w
    · subst e
      rw [if_pos rfl, nf_app, nf_app]
      exact (ps_join g.g ht).symm
    · rw [if_neg e, nf_app]
      rfl
theorem nf_jn : ∀ {ts S a : List Tn}, Gn S → Nng a → Nng ts → nf S (ts.foldl jS a) = nf (nf S a) ts
  | [], S, a, _, _, _ => rfl
  | t :: r, S, a, hS, ha, ht => by
    have h0 := ht t (by simp)
    show nf S (r.foldl jS (jS a t)) = nf (ps (nf S a) t) r
    rw [nf_jn hS (jS_all (R := fun t => 0 ≤ t.2) (fun b x y (hx : 0 ≤ x) (hy : 0 ≤ y) => (show 0 ≤ x + y by omega)) ha h0) fun x hx => ht x (by simp [hx]), nf_jS hS ha h0]
theorem push_nf : ∀ {L S : List Tn}, Gn S → Nng L → Alt L → (∀ t r, L = t :: r → S = [] ∨ ∃ b q, S = ((!t.1), b) :: q) → L.foldl (fun S t => rd (t :: S)) S = nf S L
  | [], S, _, _, _, _ => rfl
  | t :: r, S, hS, hL, hA, hT => by
    obtain ⟨w, a⟩ := t
    have h0 : 0 ≤ a := hL (w, a) (by simp)
    have e : rd ((w, a) :: S) = ps S (w, a) := by
      rcases hT (w, a) r rfl with rfl | ⟨b, q, rfl⟩
      · rw [rd_1]
        rfl
      · rw [ps, if_neg (by cases w <;> simp)]
    have top : ∃ x q, ps S (w, a) = (w, x) :: q := by
      obtain ⟨z0, R, h1, h2, _, h3, _⟩ := ps_as hS.g w
      obtain ⟨x, q, e1, _⟩ := rx R.length R (Nat.le_refl _) w (z0 + a) h1 (h2 _)
      exact ⟨x, q, by rw [h3, e1]⟩
    obtain ⟨x, q, et⟩ := top
    show r.foldl (fun S t => rd (t :: S)) (rd ((w, a) :: S)) = nf (ps S (w, a)) r
    rw [e]
    refine push_nf (hS.ps h0) (fun y hy => hL y (by simp [hy])) hA.tail fun u s eu => .inr ⟨x, q, ?_⟩
    subst eu
    rw [et, hA.1, Bool.not_not]
def lft' (ts : List Tn) : List Tn := (nf [] ts).reverse
theorem push_all {ts : List Tn} (h : Nng ts) : (jn ts).foldl (fun S t => rd (t :: S)) [] = nf [] ts := by
  rw [push_nf gn_nil (nng_jn h) (alt_jn (a := []) trivial) fun _ _ _ => .inl rfl]
  exact nf_jn gn_nil (fun t h => nomatch h) h
theorem nng_rev {S : List Tn} (h : Nng S) : Nng S.reverse := fun t ht => h t (List.mem_reverse.mp ht)
def Am (m : Int) (l : List Tn) : Prop := ∀ t ∈ l, m ≤ t.2
theorem rd_all {m : Int} (hm : 0 ≤ m) : ∀ {n : Nat} {l : List Tn}, l.length ≤ n → Am m l → Am m (rd l)
  | n, [], _, h => by rw [rd_0]; exact h
  | n, [x], _, h => by rw [rd_1]; exact h
  | n, [x, y], _, h => by rw [rd_2]; exact h
  | 0, _ :: _ :: _ :: _, hn, _ => absurd hn (by simp)
  | n + 1, (w, c) :: (v, b) :: (u, a) :: r, hn, h => by
    rw [rd_3]
    by_cases z : b ≤ a ∧ b ≤ c
    · rw [if_pos z]
      have hc : m ≤ c := h (w, c) (by simp)
      refine rd_all hm (n := n) (by simp at hn ⊢; omega) fun t ht => ?_
      rcases List.mem_cons.mp ht with rfl | ht
      · show m ≤ a - b + c
        omega
      · exact h t (by simp [ht])
    · rw [if_neg z]
      exact h
theorem ps_all {m : Int} (hm : 0 ≤ m) {S : List Tn} {t : Tn} (g : ∀ t ∈ S, m ≤ t.2) (ht : m ≤ t.2) : ∀ x ∈ ps S t, m ≤ x.2 := by
  cases S with
  | nil =>
    intro x hx
    rw [ps, List.mem_singleton] at hx
    rw [hx]
    exact ht
  | cons y r =>
    obtain ⟨v, b⟩ := y
    have hb : m ≤ b := g (v, b) (by simp)
    rw [ps]
    split
    · refine rd_all hm (Nat.le_refl _) fun x hx => ?_
      rcases List.mem_cons.mp hx with rfl | hx
      · show m ≤ b + t.2
        omega
      · exact g x (by simp [hx])
    · refine rd_all hm (Nat.le_refl _) fun x hx => ?_
      rcases List.mem_cons.mp hx with rfl | hx
      · exact ht
      · exact g x hx
theorem nf_all {m : Int} (hm : 0 ≤ m) : ∀ {ts S : List Tn}, (∀ t ∈ S, m ≤ t.2) → (∀ t ∈ ts, m ≤ t.2) → ∀ t ∈ nf S ts, m ≤ t.2
  | [], S, h, _ => h
  | t :: r, S, h, n => nf_all hm (ts := r) (S := ps S t) (ps_all hm h (n t (by simp))) fun x hx => n x (by simp [hx])
theorem left_all {m : Int} (hm : 0 ≤ m) {ts : List Tn} (h : ∀ t ∈ ts, m ≤ t.2) : ∀ t ∈ lft' ts, m ≤ t.2 := fun t ht => nf_all hm (S := []) (fun t h => nomatch h) h t (List.mem_reverse.mp ht)
theorem bts_cons {t : Tn} {r : List Tn} : bts (t :: r) = t.2 + bts r := by
  show bts ([t] ++ r) = _
  rw [bts_app, bts_one]
theorem rd_bts : ∀ {n : Nat} {l : List Tn}, l.length ≤ n → Nng l → bts (rd l) ≤ bts l ∧ (rd l).length ≤ l.length
  | n, [], _, h => by rw [rd_0]; exact ⟨Int.le_refl _, Nat.le_refl _⟩
  | n, [x], _, h => by rw [rd_1]; exact ⟨Int.le_refl _, Nat.le_refl _⟩
  | n, [x, y], _, h => by rw [rd_2]; exact ⟨Int.le_refl _, Nat.le_refl _⟩
  | 0, _ :: _ :: _ :: _, hn, _ => absurd hn (by simp)
  | n + 1, (w, c) :: (v, b) :: (u, a) :: r, hn, h => by
    rw [rd_3]
    by_cases z : b ≤ a ∧ b ≤ c
    · rw [if_pos z]
      have hc : 0 ≤ c := h (w, c) (by simp)
      have hb : 0 ≤ b := h (v, b) (by simp)
      obtain ⟨k1, k2⟩ := rd_bts (n := n) (l := (u, a - b + c) :: r) (by simp at hn ⊢; omega) fun t ht => by
        rcases List.mem_cons.mp ht with rfl | ht
        · show 0 ≤ a - b + c
          omega
        · exact h t (by simp [ht])
      rw [bts_cons] at k1
      rw [bts_cons, bts_cons, bts_cons]
      have k1 : bts (rd ((u, a - b + c) :: r)) ≤ a - b + c + bts r := k1
      refine ⟨by show _ ≤ c + (b + (a + bts r)); omega, by simp at k2 ⊢; omega⟩
    · rw [if_neg z]
      exact ⟨Int.le_refl _, Nat.le_refl _⟩
theorem ps_bts {S : List Tn} {t : Tn} (g : Nng S) (ht : 0 ≤ t.2) : bts (ps S t) ≤ bts S + t.2 ∧ (ps S t).length ≤ S.length + 1 := by
  cases S with
  | nil => rw [ps, bts_one]; exact ⟨by show _ ≤ 0 + t.2; omega, by simp⟩
  | cons y r =>
    obtain ⟨v, b⟩ := y
    have hb : 0 ≤ b := g (v, b) (by simp)
    rw [ps]
    split
    · obtain ⟨k1, k2⟩ := rd_bts (Nat.le_refl _) (l := (t.1, b + t.2) :: r) fun x hx => by
        rcases List.mem_cons.mp hx with rfl | hx
        · show 0 ≤ b + t.2
          omega
        · exact g x (by simp [hx])
      rw [bts_cons] at k1
      rw [bts_cons]
      have k1 : bts (rd ((t.1, b + t.2) :: r)) ≤ b + t.2 + bts r := k1
      exact ⟨by show _ ≤ b + bts r + t.2; omega, by simp at k2 ⊢; omega⟩
    · obtain ⟨k1, k2⟩ := rd_bts (Nat.le_refl _) (l := t :: (v, b) :: r) fun x hx => by
        rcases List.mem_cons.mp hx with rfl | hx
        · exact ht
        · exact g x hx
      rw [bts_cons] at k1
      exact ⟨by omega, by simp at k2 ⊢; omega⟩
theorem nf_bts : ∀ {ts S : List Tn}, Gn S → Nng ts → bts (nf S ts) ≤ bts S + bts ts ∧ (nf S ts).length ≤ S.length + ts.length
  | [], S, _, _ => ⟨by show bts S ≤ bts S + 0; omega, by simp [nf]⟩
  | t :: r, S, h, n => by
    have h0 := n t (by simp)
    obtain ⟨k1, k2⟩ := nf_bts (ts := r) (S := ps S t) (h.ps h0) fun x hx => n x (by simp [hx])
    obtain ⟨j1, j2⟩ := ps_bts h.n h0
    rw [bts_cons, List.length_cons]
    exact ⟨by show bts (nf (ps S t) r) ≤ _; omega, by show (nf (ps S t) r).length ≤ _; omega⟩
theorem bts_rev : ∀ {l : List Tn}, bts l.reverse = bts l
  | [] => rfl
  | t :: r => by rw [List.reverse_cons, bts_app, bts_one, bts_cons, bts_rev]; omega
theorem left_bts {ts : List Tn} (h : Nng ts) : bts (lft' ts) ≤ bts ts ∧ (lft' ts).length ≤ ts.length := by
  obtain ⟨k1, k2⟩ := nf_bts gn_nil h
  unfold lft'
  rw [bts_rev, List.length_reverse]
  exact ⟨by have : bts [] = 0 := rfl; omega, by simpa using k2⟩
section
variable {row : Bool} {rooms h0 : List Int} {ws : List (Option Int)}
def ex (ws : List (Option Int)) (ts : List Tn) : Run := ts.flatMap fun t => List.replicate t.2.toNat (t.1, ws)
end
end Kd
namespace Kd
open PySem PySem.Spec PyProof.Rows L2 Xg Dv
theorem tn_at {P R : List Tn} {x : Tn} {i : Nat} (h : i = P.length) : L2.atI ((P ++ x :: R).map (tn true)) ((i : Nat) : Int) = some (tn true x) := atI_nat (by
  subst h
  rw [List.getElem?_map, List.getElem?_append_right (Nat.le_refl _), Nat.sub_self]
  rfl)
section
variable {Q : PyData → Prop} {P R : List Tn} {A B C : Tn}
theorem between_longer_of {i : Int} (hi : i = ((P.length + 1 : Nat) : Int)) (q : Q (.bool (decide (B.2 ≤ A.2 ∧ B.2 ≤ C.2)))) : F_is_between_longer [.dt (.list ((P ++ A :: B :: C :: R).map (tn true))), .dt (.int i)] Q := by
  subst hi
  have a1 := tn_at (P := P) (R := B :: C :: R) (x := A) rfl
  have a2 : L2.atI ((P ++ A :: B :: C :: R).map (tn true)) ((P.length + 1 : Nat) : Int) = some (tn true B) := by
    have z := tn_at (P := P ++ [A]) (R := C :: R) (x := B) (i := P.length + 1) (by simp)
    simpa using z
  have a3 : L2.atI ((P ++ A :: B :: C :: R).map (tn true)) ((P.length + 2 : Nat) : Int) = some (tn true C) := by
    have z := tn_at (P := P ++ [A, B]) (R := R) (x := C) (i := P.length + 2) (by simp)
    simpa using z
  unfold F_is_between_longer
  refine ⟨rfl, ?_⟩
  show atQ (L2.atI ((P ++ A :: B :: C :: R).map (tn true)) ((P.length + 1 : Nat) : Int)) _
  rw [a2]
  show atQ (L2.atI ((P ++ A :: B :: C :: R).map (tn true)) (((P.length + 1 : Nat) : Int) - 1)) _
  rw [show ((P.length + 1 : Nat) : Int) - 1 = ((P.length : Nat) : Int) by omega, a1]
  show atQ (L2.atI ((P ++ A :: B :: C :: R).map (tn true)) (((P.length + 1 : Nat) : Int) + 1)) _
  rw [show ((P.length + 1 : Nat) : Int) + 1 = ((P.length + 2 : Nat) : Int) by omega, a3]
  show Q (.bool (decide (B.2 ≤ if C.2 < A.2 then C.2 else A.2)))
  have e : decide (B.2 ≤ if C.2 < A.2 then C.2 else A.2) = decide (B.2 ≤ A.2 ∧ B.2 ≤ C.2) := by
    apply decide_eq_decide.mpr
    constructor
    · intro h
      split at h <;> omega
    · intro h
      split <;> omega
  rw [e]
  exact q
theorem made_one_of (q : Q (tn true (A.1, A.2 - B.2 + C.2))) : F_made_one [.dt (.list [tn true A, tn true B, tn true C])] Q := by
  unfold F_made_one
  exact ⟨rfl, q⟩
theorem cut3 {n : Nat} : HT.sIx (n + 3) 0 (some (-3)) = n := by
  unfold HT.sIx
  simp
  omega
abbrev wlB : FS := sSeq (sApp 1 (eVar 2)) (sWhile (fAnd (fTest (eBin (gC fun i j => decide (j ≤ i)) (eCB (g1 lenD) (dCons (eVarV 1) dNil)) (eC (.int 3)))) (fTest (eCallF F_is_between_longer (dCons (eVarV 1) (dCons (eBin (gI fun i j => i - j) (eCB (g1 lenD) (dCons (eVarV 1) dNil)) (eC (.int 2))) dNil))))) (sCut 1 (dCons (eCall F_made_one (aCons (eSl (eVarV 1) (oSome (eUn negD (eC (.int 3)))) oNone) aNil)) dNil) (eUn negD (eC (.int 3)))))
abbrev rv (S : List Tn) : List PyData := S.reverse.map (tn true)
theorem wl_of {E : DEnds} {d0 : PyData} {S : List Tn} {t : Tn} (hS : S.length ≤ 100000) (q : E.nx [.dt d0, .own (rv (rd (t :: S))), .dt (tn true t)]) : wlB [.dt d0, .own (rv S), .dt (tn true t)] E := by
  refine (show (rv S).length < 1000000 ∧ _ from ⟨by rw [List.length_map, List.length_reverse]; omega, ?_⟩)
  have e0 : rv S ++ [tn true t] = rv (t :: S) := by
    show _ = (t :: S).reverse.map (tn true)
    rw [List.reverse_cons, List.map_append]
    rfl
  refine ⟨fun n ρ => ∃ U, n = U.length ∧ U.length ≤ 100001 ∧ ρ = [.dt d0, .own (rv U), .dt (tn true t)] ∧ rd U = rd (t :: S), ⟨_, t :: S, rfl, by simp; omega, by rw [← e0]; rfl, rfl⟩, fun n ρ h => ?_⟩
  obtain ⟨U, rfl, lU, rfl, eU⟩ := h
  have lr : (rv U).length = U.length := by rw [List.length_map, List.length_reverse]
  show if decide ((3 : Int) ≤ ((rv U).length : Nat)) = true then _ else _
  rw [lr]
  by_cases z : 3 ≤ U.length
  · rw [if_pos (decide_eq_true (by omega))]
    match U, z, lU, eU with
    | (w, c) :: (v, b) :: (u, a) :: r, z, lU, eU =>
      have er : rv ((w, c) :: (v, b) :: (u, a) :: r) = (r.reverse ++ (u, a) :: (v, b) :: (w, c) :: []).map (tn true) := by
        show ((w, c) :: (v, b) :: (u, a) :: r).reverse.map (tn true) = _
        simp
      have er2 : rv ((w, c) :: (v, b) :: (u, a) :: r) = rv r ++ [tn true (u, a), tn true (v, b), tn true (w, c)] := by
        rw [er, List.map_append]
        rfl
      have lrr : (rv r).length = r.length := by rw [List.length_map, List.length_reverse]
      show F_is_between_longer [.dt (.list (rv ((w, c) :: (v, b) :: (u, a) :: r))), .dt (.int (((rv ((w, c) :: (v, b) :: (u, a) :: r)).length : Nat) - 2))] _
      rw [er]
      refine between_longer_of (P := r.reverse) (A := (u, a)) (B := (v, b)) (C := (w, c)) (R := []) (by simp; omega) ⟨rfl, ?_⟩
      rw [← er]
      rw [rd_3] at eU
      by_cases y : b ≤ a ∧ b ≤ c
      · show if decide (b ≤ a ∧ b ≤ c) = true then _ else _
        rw [if_pos (decide_eq_true y)]
        rw [if_pos y] at eU
        show F_made_one [.dt (.list (Dv.cutD (rv ((w, c) :: (v, b) :: (u, a) :: r)) (some (-3)) none))] _
        have ec : Dv.cutD (rv ((w, c) :: (v, b) :: (u, a) :: r)) (some (-3)) none = [tn true (u, a), tn true (v, b), tn true (w, c)] := by
          unfold Dv.cutD
          have l3 : (rv ((w, c) :: (v, b) :: (u, a) :: r)).length = r.length + 3 := by rw [List.length_map, List.length_reverse]; rfl
          rw [l3, cut3, HT.sIx_none, er2, ← lrr, List.drop_left, List.take_of_length_le (by simp)]
        rw [ec]
        refine made_one_of (A := (u, a)) (B := (v, b)) (C := (w, c)) ?_
        have l3 : (rv ((w, c) :: (v, b) :: (u, a) :: r)).length = r.length + 3 := by rw [List.length_map, List.length_reverse]; rfl
        refine (show ((rv ((w, c) :: (v, b) :: (u, a) :: r)).length < 1000000 ∧ 1 < 1000000) ∧ _ from ⟨⟨by rw [l3]; simp at lU; omega, by decide⟩, r.length + 1, by simp, (u, a - b + c) :: r, by simp, by simp at lU ⊢; omega, ?_, eU⟩)
        have ep : cutP (rv ((w, c) :: (v, b) :: (u, a) :: r)) [tn true (u, a - b + c)] (-3) = rv ((u, a - b + c) :: r) := by
          unfold cutP
          rw [l3, cut3, er2, ← lrr, List.take_left]
          show _ = ((u, a - b + c) :: r).reverse.map (tn true)
          rw [List.reverse_cons, List.map_append]
          rfl
        rw [← ep]
        rfl
      · show if decide (b ≤ a ∧ b ≤ c) = true then _ else _
        rw [if_neg (by rw [decide_eq_true_eq]; exact y)]
        rw [if_neg y] at eU
        rw [eU]
        exact q
  · rw [if_neg (by rw [decide_eq_true_eq]; omega)]
    have eU2 : rd U = U := by
      match U, z with
      | [], _ => exact rd_0
      | [_], _ => exact rd_1
      | [_, _], _ => exact rd_2
      | _ :: _ :: _ :: _, z => exact absurd (by simp) z
    rw [eU2] at eU
    rw [eU]
    exact q
theorem forgotten_of {kr kp : Bool} {ts : List Tn} (hz : ts.length ≤ 1000) (hn : Nng ts) (q : Q (.list ((lft' ts).map (tn true)))) : F_forgotten [.dt (sqd kr (ts.map (tn kp)))] Q := by
  have loop : ∀ (L S : List Tn) (d0 : PyData) (s2 : Sl), S.length + L.length ≤ 1000 → Nng S → Nng L → Q (.list (rv (L.foldl (fun S t => rd (t :: S)) S))) → forD (gN 2) wlB (L.map (tn true)) [.dt d0, .own (rv S), s2] { nx := fun ρ' => sRetO 1 ρ' (en Q), rt := Q, rl := fun ds => Q (.list ds) } := by
    intro L
    induction L with
    | nil => intro S d0 s2 _ _ _ q; exact q
    | cons t r ih =>
      intro S d0 s2 hl hS hL q
      rw [List.length_cons] at hl
      have nt : Nng (t :: S) := fun x hx => by
        rcases List.mem_cons.mp hx with rfl | hx
        · exact hL x (by simp)
        · exact hS x hx
      have lr := (rd_bts (Nat.le_refl _) nt).2
      rw [List.length_cons] at lr
      refine wl_of (S := S) (t := t) (by omega) ?_
      exact ih (rd (t :: S)) d0 _ (by omega) (rd_nng (Nat.le_refl _) nt) (fun x hx => hL x (by simp [hx])) q
  unfold F_forgotten
  refine ⟨rfl, joined_of hz ?_⟩
  have jl := jn_len (ts := ts) (a := [])
  have jl : (jn ts).length ≤ ts.length := by simpa [jn] using jl
  refine (show ((jn ts).map (tn true)).length ≤ 1000000 ∧ _ from ⟨by rw [List.length_map]; omega, ?_⟩)
  refine loop (jn ts) [] _ _ (by simp; omega) (fun t h => nomatch h) (nng_jn hn) ?_
  rw [push_all hn]
  exact q
end
section
variable {Q : PyData → Prop} {row : Bool} {rooms hs : List Int} {ws : List (Option Int)}
end
end Kd
namespace Kd
open PySem PySem.Spec PyProof.Rows L2 Xg Dv
def Ek (a b : List Tn) : Prop := ∀ S, Gn S → nf S a = nf S b
theorem Ek.rf {a : List Tn} : Ek a a := fun _ _ => rfl
theorem Ek.sy {a b : List Tn} (h : Ek a b) : Ek b a := fun S g => (h S g).symm
theorem Ek.tr {a b c : List Tn} (h : Ek a b) (k : Ek b c) : Ek a c := fun S g => (h S g).trans (k S g)
theorem Ek.app {a b c d : List Tn} (h1 : Ek a b) (h2 : Ek c d) (hb : Nng b) : Ek (a ++ c) (b ++ d) := fun S hS => by rw [nf_app, nf_app, h1 S hS, h2 _ (hS.nf hb)]
theorem Ek.left {ts : List Tn} (h : Nng ts) : Ek (lft' ts) ts := fun S hS => by unfold lft'; rw [nf_nf hS gn_nil h]; rfl
structure Cg (R : List Tn → List Tn → Prop) : Prop where
  rf : ∀ a, R a a
  tr : ∀ {a b c}, R a b → R b c → R a c
  cg : ∀ {a b} (p q : List Tn), Nng p → Nng q → R a b → R (p ++ a ++ q) (p ++ b ++ q)
  jn : ∀ {w x y}, 0 ≤ x → 0 ≤ y → R [(w, x + y)] [(w, x), (w, y)]
  th : ∀ {w a b c}, 0 ≤ b → b ≤ a → b ≤ c → R [(w, a - b + c)] [(w, a), (!w, b), (w, c)]
theorem Nng.tl {l : List Tn} {x : Tn} (h : Nng (x :: l)) : Nng l := fun y hy => h y (by simp [hy])
theorem Nng.hd {l : List Tn} {x : Tn} (h : Nng (x :: l)) : 0 ≤ x.2 := h x (by simp)
theorem nng_nil : Nng [] := fun t h => nomatch h
theorem nng_cons {l : List Tn} {x : Tn} (hx : 0 ≤ x.2) (h : Nng l) : Nng (x :: l) := fun y hy => by
  rcases List.mem_cons.mp hy with rfl | hy
  · exact hx
  · exact h y hy
section
variable {R : List Tn → List Tn → Prop}
theorem Cg.rd (H : Cg R) : ∀ {n : Nat} {U : List Tn}, U.length ≤ n → Nng U → Alt U → R (Kd.rd U).reverse U.reverse
  | n, [], _, _, _ => by rw [rd_0]; exact H.rf _
  | n, [_], _, _, _ => by rw [rd_1]; exact H.rf _
  | n, [_, _], _, _, _ => by rw [rd_2]; exact H.rf _
  | 0, _ :: _ :: _ :: _, hn, _, _ => absurd hn (by simp)
  | n + 1, (w, c) :: (v, b) :: (u, a) :: r, hn, hU, hA => by
    rw [rd_3]
    by_cases z : b ≤ a ∧ b ≤ c
    · have hu : u = w := by
        obtain ⟨h1, h2, _⟩ := hA
        rw [h2, h1, Bool.not_not]
      have hv : v = (!w) := hA.1
      subst hu
      subst hv
      have hc : 0 ≤ c := hU.hd
      have hb : 0 ≤ b := hU.tl.hd
      rw [if_pos z]
      refine H.tr (Cg.rd H (n := n) (U := (u, a - b + c) :: r) (by simp at hn ⊢; omega) (nng_cons (by show 0 ≤ a - b + c; omega) hU.tl.tl.tl) hA.tail.tail.top) ?_
      have k := H.cg r.reverse [] (nng_rev hU.tl.tl.tl) nng_nil (H.th (w := u) hb z.1 z.2)
      simpa using k
    · rw [if_neg z]
      exact H.rf _
theorem Cg.ps (H : Cg R) {U : List Tn} {t : Tn} (hU : Gn U) (ht : 0 ≤ t.2) : R (Kd.ps U t).reverse (U.reverse ++ [t]) := by
  cases U with
  | nil => exact H.rf _
  | cons y r =>
    obtain ⟨v, b⟩ := y
    obtain ⟨w, a⟩ := t
    have hb : 0 ≤ b := hU.n.hd
    rw [Kd.ps]
    by_cases h : v = w
    · subst h
      rw [if_pos rfl]
      refine H.tr (Cg.rd H (Nat.le_refl _) (nng_cons (by show 0 ≤ b + a; have ht : 0 ≤ a := ht; omega) hU.n.tl) hU.g.a.top) ?_
      have k := H.cg r.reverse [] (nng_rev hU.n.tl) nng_nil (H.jn (w := v) hb ht)
      simpa using k
    · have hv : v = (!w) := by cases v <;> cases w <;> first | rfl | exact absurd rfl h
      rw [if_neg (by exact h)]
      have k := Cg.rd H (U := (w, a) :: (v, b) :: r) (Nat.le_refl _) (nng_cons ht hU.n) ⟨hv, hU.g.a⟩
      rw [List.reverse_cons] at k
      exact k
theorem Cg.nf (H : Cg R) : ∀ {ts U : List Tn}, Gn U → Nng ts → R (Kd.nf U ts).reverse (U.reverse ++ ts)
  | [], U, _, _ => by rw [List.append_nil]; exact H.rf _
  | t :: r, U, hU, ht => by
    refine H.tr (Cg.nf H (ts := r) (U := Kd.ps U t) (hU.ps ht.hd) ht.tl) ?_
    have k := H.cg [] r nng_nil ht.tl (H.ps hU ht.hd)
    simpa using k
theorem Cg.left (H : Cg R) {ts : List Tn} (ht : Nng ts) : R (lft' ts) ts := H.nf gn_nil ht
end
theorem bkT_app {a b : List Tn} : bkT (a ++ b) = bkT b ++ bkT a := by
  unfold bkT
  rw [List.reverse_append, List.map_append]
def Rc (l : List Tn) : Prop := ∀ P a b c R, l = P ++ a :: b :: c :: R → ¬ (b.2 ≤ a.2 ∧ b.2 ≤ c.2)
def Ac (l : List Tn) : Prop := ∀ P a b R, l = P ++ a :: b :: R → b.1 = (!a.1)
theorem red_rc : ∀ {l : List Tn}, Red l → Rc l
  | l, h, [], a, b, c, R, e => by
    subst e
    obtain ⟨h1, _⟩ := h
    exact fun k => h1 ⟨k.2, k.1⟩
  | x :: l, h, y :: P, a, b, c, R, e => by
    obtain ⟨_, e⟩ := List.cons.inj e
    exact red_rc h.tail P a b c R e
theorem rc_red : ∀ {l : List Tn}, Rc l → Red l
  | [], _ => trivial
  | [_], _ => trivial
  | [_, _], _ => trivial
  | x :: y :: z :: r, h => ⟨fun k => h [] x y z r rfl ⟨k.2, k.1⟩, rc_red fun P a b c R e => h (x :: P) a b c R (by rw [e]; rfl)⟩
theorem alt_ac : ∀ {l : List Tn}, Alt l → Ac l
  | l, h, [], a, b, R, e => by
    subst e
    exact h.1
  | x :: l, h, y :: P, a, b, R, e => by
    obtain ⟨_, e⟩ := List.cons.inj e
    exact alt_ac h.tail P a b R e
theorem ac_alt : ∀ {l : List Tn}, Ac l → Alt l
  | [], _ => trivial
  | [_], _ => trivial
  | x :: y :: r, h => ⟨h [] x y r rfl, ac_alt fun P a b R e => h (x :: P) a b R (by rw [e]; rfl)⟩
theorem Good.rv {l : List Tn} (g : Good l) : Good l.reverse := by
  refine ⟨rc_red fun P a b c R e => ?_, ac_alt fun P a b R e => ?_⟩
  · have e2 : l = R.reverse ++ c :: b :: a :: P.reverse := by
      rw [← List.reverse_reverse l, e]
      simp
    exact fun k => red_rc g.r _ _ _ _ _ e2 ⟨k.2, k.1⟩
  · have e2 : l = R.reverse ++ b :: a :: P.reverse := by
      rw [← List.reverse_reverse l, e]
      simp
    have k := alt_ac g.a _ _ _ _ e2
    rw [k, Bool.not_not]
theorem Good.bk {l : List Tn} (g : Good l) : Good (bkT l) := by
  refine ⟨rc_red fun P a b c R e => ?_, ac_alt fun P a b R e => ?_⟩
  · have e2 : l = bkT R ++ (!c.1, c.2) :: (!b.1, b.2) :: (!a.1, a.2) :: bkT P := by
      rw [← bkT_bkT (ts := l), e, bkT_app, bkT_cons, bkT_cons, bkT_cons]
      simp
    exact fun k => red_rc g.r _ _ _ _ _ e2 ⟨k.2, k.1⟩
  · have e2 : l = bkT R ++ (!b.1, b.2) :: (!a.1, a.2) :: bkT P := by
      rw [← bkT_bkT (ts := l), e, bkT_app, bkT_cons, bkT_cons]
      simp
    have k : (!a.1) = (!!b.1) := alt_ac g.a _ _ _ _ e2
    rw [k, Bool.not_not]
theorem Good.suf : ∀ {P S : List Tn}, Good (P ++ S) → Good S
  | [], _, g => g
  | _ :: P, S, g => Good.suf (P := P) ⟨g.r.tail, g.a.tail⟩
theorem ps_id {S : List Tn} {t : Tn} (g : Good (t :: S)) : ps S t = t :: S := by
  cases S with
  | nil => rfl
  | cons y q =>
    obtain ⟨v, b⟩ := y
    obtain ⟨w, a⟩ := t
    have h : v = (!w) := g.a.1
    rw [ps, if_neg (by rw [h]; cases w <;> simp)]
    exact g.r.rd
theorem nf_id : ∀ {L S : List Tn}, Good (L.reverse ++ S) → nf S L = L.reverse ++ S
  | [], S, _ => rfl
  | t :: r, S, g => by
    have e : (t :: r).reverse ++ S = r.reverse ++ (t :: S) := by simp
    rw [e] at g ⊢
    show nf (ps S t) r = _
    rw [ps_id g.suf]
    exact nf_id g
theorem left_id {L : List Tn} (g : Good L) : lft' L = L := by
  unfold lft'
  rw [nf_id (by rw [List.append_nil]; exact g.rv), List.append_nil, List.reverse_reverse]
theorem left_good {ts : List Tn} (h : Nng ts) : Good (lft' ts) := (gn_nil.nf h).g.rv
end Kd
namespace Kd
open PySem PySem.Spec PyProof.Rows L2 Xg Dv
section
variable {Q : PyData → Prop} {row : Bool} {rooms hs : List Int} {ws : List (Option Int)} {ts es : List Tn} {run : Run}
structure Cl (row : Bool) (rooms : List Int) (ws : List (Option Int)) (hs : List Int) : Prop where
  L : Ln row rooms 5
  lw : ws.length = gts row rooms.length
  V : Vd rooms hs
structure Gt (k : Nat) (ts : List Tn) : Prop where
  l : ts.length ≤ k
  n : Nng ts
  b : bts ts ≤ 20 * k
end
end Kd
namespace Kd
open PySem PySem.Spec PyProof.Rows L2 Xg Dv
def sg_ (v : Bool) (t : Tn) : Int := if t.1 = v then t.2 else -t.2
def hh (v : Bool) : List Tn → Int
  | [] => 0
  | t :: r => sg_ v t + hh v r
def Inn (v : Bool) (lo hi : Int) : Int → List Tn → Prop
  | h, [] => lo ≤ h ∧ h ≤ hi
  | h, t :: r => (lo ≤ h ∧ h ≤ hi) ∧ Inn v lo hi (h + sg_ v t) r
section
variable {v : Bool} {lo hi : Int}
theorem Inn.hd : ∀ {a : List Tn} {h : Int}, Inn v lo hi h a → lo ≤ h ∧ h ≤ hi
  | [], _, k => k
  | _ :: _, _, k => k.1
theorem Inn.sh {c : Int} : ∀ {a : List Tn} {h : Int}, Inn v lo hi h a → Inn v (lo + c) (hi + c) (h + c) a
  | [], h, k => ⟨by have := k.1; omega, by have := k.2; omega⟩
  | t :: r, h, k => ⟨⟨by have := k.1.1; omega, by have := k.1.2; omega⟩, by
    have z := Inn.sh (c := c) k.2
    rw [show h + sg_ v t + c = h + c + sg_ v t by omega] at z
    exact z⟩
end
def Pos (ts : List Tn) : Prop := ∀ t ∈ ts, 1 ≤ t.2
theorem Pos.nng {ts : List Tn} (h : Pos ts) : Nng ts := fun t ht => by have := h t ht; omega
theorem Pos.tl {ts : List Tn} {x : Tn} (h : Pos (x :: ts)) : Pos ts := fun t ht => h t (by simp [ht])
theorem Pos.hd {ts : List Tn} {x : Tn} (h : Pos (x :: ts)) : 1 ≤ x.2 := h x (by simp)
theorem left_pos {ts : List Tn} (h : Pos ts) : Pos (lft' ts) := left_all (by decide) h
end Kd
namespace Kd
open PySem PySem.Spec PyProof.Rows L2 Xg Dv
section
variable {Q : PyData → Prop} {ts : List Tn}
end
end Kd
namespace Kd
open PySem PySem.Spec PyProof.Rows L2 Xg Dv
@[irreducible] def f__law_joined_0 : FS := (sRetO 1)
def t__law_joined_0 (K : PySem.W.Frag) : TS := (tRet (tVar 1))
theorem s__law_joined_0 (K : PySem.W.Frag) : SndS K (t__law_joined_0 K) 0 f__law_joined_0 := by
  unfold f__law_joined_0
  exact snds_retO
@[irreducible] def f__law_joined_1 : FS := (sSeq (sFor 1000000 (fIt (eVar 0)) (gT (gsCons (gN 2) (gsCons (gN 3) gsNil))) (sIf (fAnd (fTest (eBin gNe (eVarV 1) (eLst dNil))) (fTest (eBin gEq (eBin gIx (eBin gIx (eVarV 1) (eUn negD (eC (.int 1)))) (eC (.int 0))) (eVar 2)))) (sPut 1 (eUn negD (eC (.int 1))) (eTup (dCons (eVar 2) (dCons (eBin gAdd (eBin gIx (eBin gIx (eVarV 1) (eUn negD (eC (.int 1)))) (eC (.int 1))) (eVar 3)) dNil)))) (sApp 1 (eTup (dCons (eVar 2) (dCons (eVar 3) dNil)))))) f__law_joined_0)
def t__law_joined_1 (K : PySem.W.Frag) : TS := (tSeq (tFor (Pw.iSeq K (tVar 0)) (fun v σ H Q => gTup K 2 (gCons (gName 2) (gCons (gName 3) gNil)) v σ H Q ∨ gLst K 2 (gCons (gName 2) (gCons (gName 3) gNil)) v σ H Q) (tIfS (tAnd (tTest (tOp (rNeX K) (tVar 1) (tLst tNil))) (tTest (tOp (rEqX K) (tOp (rIx K) (tOp (rIx K) (tVar 1) (tUn (rU fun i => .int (-i)) (tC (.int 1)))) (tC (.int 0))) (tVar 2)))) (tAsg (tTup (tCons (tVar 2) (tCons (tOp (rAdd K) (tOp (rIx K) (tOp (rIx K) (tVar 1) (tUn (rU fun i => .int (-i)) (tC (.int 1)))) (tC (.int 1))) (tVar 3)) tNil))) (gSub (tVar 1) (tUn (rU fun i => .int (-i)) (tC (.int 1))) rSetL)) (tDrop (tBM K "list" rAppend (tVar 1) (tCons (tTup (tCons (tVar 2) (tCons (tVar 3) tNil))) tNil))))) (t__law_joined_0 K))
theorem s__law_joined_1 (K : PySem.W.Frag) : SndS K (t__law_joined_1 K) 0 f__law_joined_1 := by
  unfold f__law_joined_1
  exact (snds_seq (snds_for (vs := [2, 3]) (N := 1000000) (sndi_seq snd_var) (sndg_tup (sndgs_cons (sndg_name (by decide)) (sndgs_cons (sndg_name (by decide)) sndgs_nil)) (gs_lenS gN_some (gs_lenS gN_some gs_len0))) (snds_if (sndt_and (sndt_test (snd_op ops_ne sndV_var (SndL.d (sndl_lst sndd_nil (by decide))))) (sndt_test (snd_op ops_eq (snd_op ops_ix (snd_op ops_ix sndV_var (snd_un us_neg snd_int)) snd_int) snd_var))) (snds_put (snd_tup (sndd_cons snd_var (sndd_cons (snd_op ops_add (snd_op ops_ix (snd_op ops_ix sndV_var (snd_un us_neg snd_int)) snd_int) snd_var) sndd_nil)) (by decide)) (snd_un us_neg snd_int)) (snds_app (snd_tup (sndd_cons snd_var (sndd_cons snd_var sndd_nil)) (by decide))))) (s__law_joined_0 K))
def f__law_joined : FS := (sSeq (sOwn dNil 1) f__law_joined_1)
@[irreducible] def F__law_joined : FF := mkF 1 4 f__law_joined
@[irreducible] def L__law_joined : FFL := mkL 1 4 f__law_joined
def t__law_joined (K : PySem.W.Frag) : TS := (tSeq (tAsg (tLst tNil) (gName 1)) (t__law_joined_1 K))
theorem s__law_joined (K : PySem.W.Frag) : SndS K (t__law_joined K) 0 f__law_joined := (snds_seq (snds_own (sndl_lst sndd_nil (by decide))) (s__law_joined_1 K))
theorem m__law_joined (K : PySem.W.Frag) : MonoF F__law_joined := by
  unfold F__law_joined
  exact mkF_mono (s__law_joined K)
def f__law_spots : FS := (sRetL (fComp 1000000 (fRange2 (eC (.int 1)) (eBin (gI fun i j => i - j) (eCB (g1 lenD) (dCons (eVar 0) dNil)) (eC (.int 1)))) [1] (gN 1) (fTest (eBin (gC fun i j => decide (i ≤ j)) (eBin gIx (eBin gIx (eVar 0) (eVar 1)) (eC (.int 1))) (eCB (g2 (gI fun i j => if j < i then j else i)) (dCons (eBin gIx (eBin gIx (eVar 0) (eBin (gI fun i j => i - j) (eVar 1) (eC (.int 1)))) (eC (.int 1))) (dCons (eBin gIx (eBin gIx (eVar 0) (eBin gAdd (eVar 1) (eC (.int 1)))) (eC (.int 1))) dNil))))) (eVar 1)))
@[irreducible] def F__law_spots : FF := mkF 1 2 f__law_spots
@[irreducible] def L__law_spots : FFL := mkL 1 2 f__law_spots
def t__law_spots (K : PySem.W.Frag) : TS := (tRet (tLc (iRng2 (tCons (tC (.int 1)) (tCons (tOp (rI0 fun i j => .int (i - j)) (tCB (fun xs H Q => ∃ x n, xs = [x] ∧ LenV K x H n ∧ Q (.int n) H) (tCons (tVar 0) tNil)) (tC (.int 1))) tNil))) (gName 1) (tTest (tOp (rI0 fun i j => .bl (decide (i ≤ j))) (tOp (rIx K) (tOp (rIx K) (tVar 0) (tVar 1)) (tC (.int 1))) (tCB (fun xs H Q => ∃ i j, xs = [.int i, .int j] ∧ Q (.int (if j < i then j else i)) H) (tCons (tOp (rIx K) (tOp (rIx K) (tVar 0) (tOp (rI0 fun i j => .int (i - j)) (tVar 1) (tC (.int 1)))) (tC (.int 1))) (tCons (tOp (rIx K) (tOp (rIx K) (tVar 0) (tOp (rAdd K) (tVar 1) (tC (.int 1)))) (tC (.int 1))) tNil))))) (tVar 1) [1]))
theorem s__law_spots (K : PySem.W.Frag) : SndS K (t__law_spots K) 0 f__law_spots := (snds_retL (sndl_comp (N := 1000000) (by decide) (sndi_range2 (Snd.v snd_int) (Snd.v (snd_op ops_I (snd_cb cs_len (sndd_cons snd_var sndd_nil)) snd_int))) (sndg_name (by decide)) (sndt_test (snd_op ops_C (snd_op ops_ix (snd_op ops_ix snd_var snd_var) snd_int) (snd_cb cs_min2 (sndd_cons (snd_op ops_ix (snd_op ops_ix snd_var (snd_op ops_I snd_var snd_int)) snd_int) (sndd_cons (snd_op ops_ix (snd_op ops_ix snd_var (snd_op ops_add snd_var snd_int)) snd_int) sndd_nil))))) snd_var))
theorem m__law_spots (K : PySem.W.Frag) : MonoF F__law_spots := by
  unfold F__law_spots
  exact mkF_mono (s__law_spots K)
end Kd
namespace Kd
open PySem PySem.Spec PyProof.Rows L2 Xg Dv
section
variable {Q : PyData → Prop} {ts : List Tn}
abbrev kB : FS := (sIf (fAnd (fTest (eBin gNe (eVarV 1) (eLst dNil))) (fTest (eBin gEq (eBin gIx (eBin gIx (eVarV 1) (eUn negD (eC (.int 1)))) (eC (.int 0))) (eVar 2)))) (sPut 1 (eUn negD (eC (.int 1))) (eTup (dCons (eVar 2) (dCons (eBin gAdd (eBin gIx (eBin gIx (eVarV 1) (eUn negD (eC (.int 1)))) (eC (.int 1))) (eVar 3)) dNil)))) (sApp 1 (eTup (dCons (eVar 2) (dCons (eVar 3) dNil)))))
theorem kBody {E : DEnds} {acc : List Tn} {s : Tn} {d0 : PyData} (hl : acc.length < 100000) (q : E.nx [.dt d0, .own ((jS acc s).map (tn true)), .dt (.str (wy s.1)), .dt (.int s.2)]) : kB [.dt d0, .own (acc.map (tn true)), .dt (.str (wy s.1)), .dt (.int s.2)] E := by
  refine ne_nil ?_
  rcases nil_or_app acc with rfl | ⟨a, l, rfl⟩
  · exact ⟨by decide, q⟩
  · rw [jS_app] at q
    have em : (a ++ [l]).map (tn true) = a.map (tn true) ++ [tn true l] := by rw [List.map_append]; rfl
    have ne : (!(a ++ [l]).isEmpty) = true := by simp
    rw [em]
    have lm : (a.map (tn true) ++ [tn true l]).length = a.length + 1 := by rw [List.length_append, List.length_map]; rfl
    show if (!(a ++ [l]).isEmpty) = true then _ else _
    rw [if_pos ne]
    show atQ (L2.atI (a.map (tn true) ++ [tn true l]) (-1)) _
    rw [atI_last]
    show if decide (wy l.1 = wy s.1) = true then _ else _
    rw [wy_eq]
    by_cases z : l.1 = s.1
    · rw [if_pos (decide_eq_true z)]
      rw [if_pos z] at q
      show atQ (L2.atI (a.map (tn true) ++ [tn true l]) (-1)) _
      rw [atI_last]
      refine ⟨a.length, by rw [lm]; exact last_ix, ?_⟩
      have es : (a.map (tn true) ++ [tn true l]).set a.length (.tuple [.str (wy s.1), .int (l.2 + s.2)]) = (a ++ [(s.1, l.2 + s.2)]).map (tn true) := by
        have z := set_last (a := a.map (tn true)) (l := tn true l) (d := .tuple [.str (wy s.1), .int (l.2 + s.2)])
        rw [List.length_map] at z
        rw [z, List.map_append]
        rfl
      have q' := q
      rw [← es] at q'
      exact q'
    · rw [if_neg (by rw [decide_eq_true_eq]; exact z)]
      rw [if_neg z] at q
      refine (show (a.map (tn true) ++ [tn true l]).length < 1000000 ∧ _ from ⟨by rw [lm]; rw [List.length_append] at hl; have : [l].length = 1 := rfl; omega, ?_⟩)
      rw [List.map_append, em] at q
      exact q
theorem lawJ_of (hz : ts.length ≤ 1000) (q : Q (.list ((jn ts).map (tn true)))) : F__law_joined [.dt (.list (ts.map (tn true)))] Q := by
  have loop : ∀ (r acc : List Tn) (s2 s3 : Sl) (d0 : PyData), acc.length + r.length ≤ 1000 → Q (.list ((r.foldl jS acc).map (tn true))) → forD (gT (gsCons (gN 2) (gsCons (gN 3) gsNil))) kB (r.map (tn true)) [.dt d0, .own (acc.map (tn true)), s2, s3] { nx := fun ρ' => f__law_joined_0 ρ' (en Q), rt := Q, rl := fun ds => Q (.list ds) } := by
    intro r
    induction r with
    | nil =>
      intro acc s2 s3 d0 _ q
      show f__law_joined_0 _ _
      unfold f__law_joined_0
      exact q
    | cons s r ih =>
      intro acc s2 s3 d0 hl q
      rw [List.length_cons] at hl
      have jl := jS_len (a := acc) (s := s)
      exact kBody (acc := acc) (s := s) (d0 := d0) (by omega) (ih (jS acc s) _ _ d0 (by omega) q)
  unfold F__law_joined
  refine ⟨rfl, ?_⟩
  show f__law_joined_1 [.dt (.list (ts.map (tn true))), .own [], .no, .no] _
  unfold f__law_joined_1
  exact ⟨by rw [List.length_map]; omega, loop ts [] _ _ _ (by simp; exact hz) q⟩
def spc (ts : List Tn) (i : Nat) : Bool := decide ((ts.getD (i + 1) (true, 0)).2 ≤ (ts.getD i (true, 0)).2 ∧ (ts.getD (i + 1) (true, 0)).2 ≤ (ts.getD (i + 2) (true, 0)).2)
def spn (ts : List Tn) : List Nat := (List.range (ts.length - 2)).filter (spc ts)
def spi (ts : List Tn) : List Int := (spn ts).map fun i : Nat => (1 + (i : Nat) : Int)
theorem at_tn {i : Nat} (h : i < ts.length) : L2.atI (ts.map (tn true)) ((i : Nat) : Int) = some (tn true (ts.getD i (true, 0))) := atI_nat (by
  rw [List.getElem?_map, List.getElem?_eq_getElem h]
  simp [List.getD, List.getElem?_eq_getElem h])
theorem spots_of (hz : ts.length ≤ 1000) (q : Q (iq false (spi ts))) : F__law_spots [.dt (dT ts)] Q := by
  unfold F__law_spots
  refine ⟨rfl, ?_⟩
  refine (show (-(2 ^ 62) ≤ (1 : Int) ∧ (1 : Int) < 2 ^ 62 ∧ -(2 ^ 62) ≤ (((ts.map (tn true)).length : Nat) : Int) - 1 ∧ (((ts.map (tn true)).length : Nat) : Int) - 1 < 2 ^ 62) ∧ _ from ⟨⟨by decide, by decide, by omega, by rw [List.length_map]; omega⟩, ?_⟩)
  rw [List.length_map]
  refine ⟨by rw [range_len]; show (((ts.length : Nat) : Int) - 1 - 1).toNat ≤ 1000000; omega, ?_⟩
  have en : ((ts.length : Int) - 1 - 1).toNat = ts.length - 2 := by omega
  rw [en]
  unfold rangeD
  refine comp_flt (fun i : Nat => .int (1 + (i : Nat))) (fun i : Nat => .int (1 + (i : Nat))) (spc ts) _ [] (fun i hi P N h => ?_) ?_
  · have hi := List.mem_range.mp hi
    have a1 := at_tn (ts := ts) (i := i + 1) (by omega)
    have a0 := at_tn (ts := ts) (i := i) (by omega)
    have a2 := at_tn (ts := ts) (i := i + 2) (by omega)
    show atQ (L2.atI (ts.map (tn true)) (1 + (i : Nat))) _
    rw [show (1 : Int) + (i : Nat) = ((i + 1 : Nat) : Int) by omega, a1]
    show atQ (L2.atI (ts.map (tn true)) (((i + 1 : Nat) : Int) - 1)) _
    rw [show ((i + 1 : Nat) : Int) - 1 = ((i : Nat) : Int) by omega, a0]
    show atQ (L2.atI (ts.map (tn true)) (((i + 1 : Nat) : Int) + 1)) _
    rw [show ((i + 1 : Nat) : Int) + 1 = ((i + 2 : Nat) : Int) by omega, a2]
    show if decide ((ts.getD (i + 1) (true, 0)).2 ≤ if (ts.getD (i + 2) (true, 0)).2 < (ts.getD i (true, 0)).2 then (ts.getD (i + 2) (true, 0)).2 else (ts.getD i (true, 0)).2) = true then _ else _
    have e : decide ((ts.getD (i + 1) (true, 0)).2 ≤ if (ts.getD (i + 2) (true, 0)).2 < (ts.getD i (true, 0)).2 then (ts.getD (i + 2) (true, 0)).2 else (ts.getD i (true, 0)).2) = spc ts i := by
      unfold spc
      apply decide_eq_decide.mpr
      constructor
      · intro h
        split at h <;> omega
      · intro h
        split <;> omega
    rw [e]
    by_cases c : spc ts i = true
    · rw [if_pos c] at h ⊢
      rw [show ((i + 1 : Nat) : Int) = 1 + (i : Nat) by omega]
      exact h
    · rw [if_neg c] at h ⊢
      exact h
  · rw [List.nil_append]
    unfold spi spn iq at q
    rw [List.map_map] at q
    exact q
theorem ne_nilI {l : List Int} (q : Q (.bool (!l.isEmpty))) : gNe (iq false l) (.list []) Q := by
  refine (show SeqAt.shaped (iq false l) = true ∧ SeqAt.shaped (.list []) = true ∧ Q (.bool (!PyData.eqv (.list (l.map PyData.int)) (.list []))) from ⟨shp_iq, by decide +kernel, ?_⟩)
  cases l with
  | nil =>
    rw [show PyData.eqv (.list (List.map PyData.int [])) (.list []) = true by simp [PyData.eqv, PyData.eqvAll]]
    exact q
  | cons a r =>
    rw [show PyData.eqv (.list (List.map PyData.int (a :: r))) (.list []) = false by simp [PyData.eqv, PyData.eqvAll]]
    exact q
end
theorem three_at : ∀ {ts : List Tn} {i : Nat}, i + 2 < ts.length → ts = ts.take i ++ ts.getD i (true, 0) :: ts.getD (i + 1) (true, 0) :: ts.getD (i + 2) (true, 0) :: ts.drop (i + 3)
  | x :: y :: z :: r, 0, _ => rfl
  | x :: r, i + 1, h => by
    have k := three_at (ts := r) (i := i) (by simp at h; omega)
    show x :: r = x :: (r.take i ++ _)
    exact congrArg (x :: ·) k
theorem spn_red {ts : List Tn} (h : spn ts = []) : Red ts := by
  refine rc_red fun P a b c R e k => ?_
  have l : ts.length = P.length + 3 + R.length := by rw [e]; simp; omega
  have m : P.length ∈ spn ts := by
    unfold spn
    refine List.mem_filter.mpr ⟨List.mem_range.mpr (by omega), ?_⟩
    unfold spc
    refine decide_eq_true ?_
    have g0 : ts.getD P.length (true, 0) = a := by rw [e]; simp [List.getD]
    have g1 : ts.getD (P.length + 1) (true, 0) = b := by rw [e]; simp [List.getD, List.getElem?_append_right]
    have g2 : ts.getD (P.length + 2) (true, 0) = c := by rw [e]; simp [List.getD, List.getElem?_append_right]
    rw [g0, g1, g2]
    exact k
  rw [h] at m
  cases m
theorem spn_mem {ts : List Tn} {i : Nat} (h : i ∈ spn ts) : i + 2 < ts.length ∧ spc ts i = true := by
  unfold spn at h
  obtain ⟨a, b⟩ := List.mem_filter.mp h
  have := List.mem_range.mp a
  exact ⟨by omega, b⟩
section
variable {ts : List Tn} {i : Nat}
end
end Kd
namespace Kd
open PySem PySem.Spec PyProof.Rows L2 Xg Dv
def sc (b : Int) (t : Tn) : Tn := (t.1, t.2 * b)
section
variable {b : Int}
end
theorem eqv_tn {s t : Tn} : PyData.eqv (tn true s) (tn true t) = decide (s = t) := by
  obtain ⟨w, x⟩ := s
  obtain ⟨v, y⟩ := t
  show PyData.eqv (.tuple [.str (wy w), .int x]) (.tuple [.str (wy v), .int y]) = _
  have e : (wy w == wy v) = decide (w = v) := by cases w <;> cases v <;> decide
  have f : (x == y) = decide (x = y) := by
    by_cases h : x = y
    · subst h
      simp
    · rw [decide_eq_false h]
      simpa using h
  simp only [PyData.eqv, PyData.eqvAll, e, f, Bool.and_true]
  by_cases h : w = v <;> by_cases k : x = y <;> simp [h, k]
theorem eqv_ts : ∀ {a b : List Tn}, PyData.eqvAll (a.map (tn true)) (b.map (tn true)) = decide (a = b)
  | [], [] => by simp [PyData.eqvAll]
  | [], _ :: _ => by simp [PyData.eqvAll]
  | _ :: _, [] => by simp [PyData.eqvAll]
  | s :: a, t :: b => by
    rw [List.map_cons, List.map_cons, PyData.eqvAll, eqv_tn, eqv_ts]
    by_cases h : s = t <;> by_cases k : a = b <;> simp [h, k]
section
variable {Q : PyData → Prop} {ts us : List Tn}
theorem eq_dT (q : Q (.bool (decide (ts = us)))) : gEq (dT ts) (dT us) Q := by
  refine (show SeqAt.shaped (dT ts) = true ∧ SeqAt.shaped (dT us) = true ∧ Q (.bool (PyData.eqv (.list (ts.map (tn true))) (.list (us.map (tn true))))) from ⟨shp_tn, shp_tn, ?_⟩)
  rw [PyData.eqv, eqv_ts]
  exact q
theorem isForg_of (hz : ts.length ≤ 1000) (p : Pos ts) (q : Q (.bool (decide (lft' ts = ts)))) : F_is_forgotten [.dt (dT ts)] Q := by
  unfold F_is_forgotten
  refine ⟨rfl, ?_⟩
  refine isTurns_of hz p ?_
  refine forgotten_of (kr := false) (kp := true) (ts := ts) hz p.nng ?_
  exact eq_dT q
end
end Kd
namespace Dv
open PySem PySem.Spec PyProof.Rows L2 Xg
theorem vals_ints : ∀ {ys : List Int} {is : List Value}, Vals (ys.map V.int) is → IntsAre is ys
  | [], is, h => by cases h; exact .nil
  | y :: ys, is, h => by
    cases h with
    | cons e r =>
      obtain ⟨t, rfl⟩ := e
      exact .cons y t (vals_ints r)
section
variable {X : Cx}
end
section
variable {K : PySem.W.Frag}
variable {ta tb : TE} {ca cb : Nat} {fa fb : FE} {md md2 : Bool}
end
end Dv
namespace Dv
open PySem PySem.Spec PyProof.Rows L2 Xg
open Classical
section
variable {K : PySem.W.Frag} {tt : TT} {ft : FT} {t : TS} {f : FS} {c : Nat}
end
section
variable {K : PySem.W.Frag} {ta : TE} {tr : TA} {ca cr n l c : Nat} {fr : FN} {fa : FE}
structure Two (b : Option Addr) (σ : L2.St) (H : Hp) (i j n l : Nat) (p r : Addr) (ps rs : List Addr) : Prop where
  si : σ[i]? = some (some (.ref p))
  sj : σ[j]? = some (some (.ref r))
  hp : H p = some (.lst (ps.map V.ref))
  hr : H r = some (.lst (rs.map V.ref))
  ln : ps.length = n
  ll : rs.length = l
  nd : (ps ++ rs).Nodup
  np : p ∉ ps ++ rs
  nr : r ∉ ps ++ rs
  bp : b ≠ some p
  br : b ≠ some r
  bq : ∀ q ∈ ps ++ rs, b ≠ some q
  hq : ∀ q ∈ ps ++ rs, ∃ ws, H q = some (.lst ws) ∧ ws.length ≤ 1000000
theorem Two.step {b : Option Addr} {σ : L2.St} {H H' : Hp} {i j n l : Nat} {p r : Addr} {ps rs : List Addr} (T : Two b σ H i j n l p r ps rs) (st : Stp K b H H') : Two b σ H' i j n l p r ps rs :=
  ⟨T.si, T.sj, st _ _ T.bp T.hp, st _ _ T.br T.hr, T.ln, T.ll, T.nd, T.np, T.nr, T.bp, T.br, T.bq, fun q m => by
    obtain ⟨ws, w1, w2⟩ := T.hq q m
    exact ⟨ws, st _ _ (T.bq q m) w1, w2⟩⟩
structure SndY (K : PySem.W.Frag) (i n j l : Nat) (vs : List Nat) (t : TS) (c : Nat) (f : FS) : Prop where
  mono : ∀ (ρ : List Sl) (E E' : DEnds), DLe E E' → f ρ E → f ρ E'
  go : ∀ {b : Option Addr} {S : Addr → Prop} {m : Nat} {σ : L2.St} {H : Hp} {ρ : List Sl} {D : Ends} {E : DEnds} {p r : Addr} {ps rs : List Addr}, DEnv K b S m H σ ρ → m + c ≤ LIM → (∀ x ∈ vs, x < σ.length) → Two b σ H i j n l p r ps rs → f ρ E →
    (∀ σ' H' ρ', E.nx ρ' → σ'.length = σ.length → (∀ x, x ∉ vs → σ'[x]? = σ[x]?) → (∀ a o, a ∉ ps ++ rs → b ≠ some a → H a = some o → HoLe K H H' a o) → BxO b H' (m + c) → D.nx σ' H') →
    (∀ H', E.rt (.bool false) → Stp K b H H' → BxO b H' (m + c) → D.rt (.bl false) H') → t D σ H
structure One (b : Option Addr) (σ : L2.St) (H : Hp) (i n : Nat) (p : Addr) (ps : List Addr) : Prop where
  si : σ[i]? = some (some (.ref p))
  hp : H p = some (.lst (ps.map V.ref))
  ln : ps.length = n
  nd : ps.Nodup
  np : p ∉ ps
  bp : b ≠ some p
  bq : ∀ q ∈ ps, b ≠ some q
  hq : ∀ q ∈ ps, ∃ ws, H q = some (.lst ws) ∧ ws.length ≤ 1000000
theorem One.step {b : Option Addr} {σ : L2.St} {H H' : Hp} {i n : Nat} {p : Addr} {ps : List Addr} (T : One b σ H i n p ps) (st : Stp K b H H') : One b σ H' i n p ps :=
  ⟨T.si, st _ _ T.bp T.hp, T.ln, T.nd, T.np, T.bp, T.bq, fun q m => by
    obtain ⟨ws, w1, w2⟩ := T.hq q m
    exact ⟨ws, st _ _ (T.bq q m) w1, w2⟩⟩
structure SndX (K : PySem.W.Frag) (i n : Nat) (vs : List Nat) (t : TS) (c : Nat) (f : FS) : Prop where
  mono : ∀ (ρ : List Sl) (E E' : DEnds), DLe E E' → f ρ E → f ρ E'
  go : ∀ {b : Option Addr} {S : Addr → Prop} {m : Nat} {σ : L2.St} {H : Hp} {ρ : List Sl} {D : Ends} {E : DEnds} {p : Addr} {ps : List Addr}, DEnv K b S m H σ ρ → m + c ≤ LIM → (∀ x ∈ vs, x < σ.length) → One b σ H i n p ps → f ρ E →
    (∀ σ' H' ρ', E.nx ρ' → σ'.length = σ.length → (∀ x, x ∉ vs → σ'[x]? = σ[x]?) → (∀ a o, a ∉ ps → b ≠ some a → H a = some o → HoLe K H H' a o) → BxO b H' (m + c) → D.nx σ' H') →
    (∀ H', E.rt (.bool false) → Stp K b H H' → BxO b H' (m + c) → D.rt (.bl false) H') → t D σ H
end
end Dv
namespace Dv
open PySem PySem.Spec PyProof.Rows L2 Xg NdefX
open Classical
noncomputable def offC (cs : List Addr) (H : Hp) : Hp := fun a => if a ∈ cs then none else H a
theorem offC_in {cs : List Addr} {H : Hp} {a : Addr} (h : a ∈ cs) : offC cs H a = none := if_pos h
theorem offC_out {cs : List Addr} {H : Hp} {a : Addr} (h : a ∉ cs) : offC cs H a = H a := if_neg h
theorem offC_some {cs : List Addr} {H : Hp} {a : Addr} {o : HO} (h : offC cs H a = some o) : a ∉ cs ∧ H a = some o := by
  unfold offC at h
  split at h
  · cases h
  · exact ⟨by assumption, h⟩
theorem offC_none {cs : List Addr} {H : Hp} {a : Addr} (h : H a = none) : offC cs H a = none := by
  unfold offC
  split
  · rfl
  · exact h
def Cells (cs : List Addr) (H : Hp) : Prop := ∀ c ∈ cs, ∃ (o : Obj) (u : Value), H c = some (CelO o) ∧ o.data = .cell (some u)
theorem Cells.out {cs : List Addr} {H : Hp} (h : Cells cs H) {a : Addr} {u : HO} (e : H a = some u) (n : ∀ o, u ≠ CelO o) : a ∉ cs := fun m => by
  obtain ⟨o, _, z, _⟩ := h a m
  rw [e] at z
  exact n o (Option.some.inj z)
section
variable {cl : List (Str × Addr)} {H : Hp}
theorem Cap.len : ∀ {fr : List Str} {cs : List Addr} {vs : List V}, Cap H cl fr cs vs → cs.length = fr.length ∧ vs.length = fr.length
  | _, _, _, .nil => ⟨rfl, rfl⟩
  | _, _, _, .cons _ _ _ _ _ r => by
    obtain ⟨a, b⟩ := r.len
    exact ⟨by rw [List.length_cons, List.length_cons, a], by rw [List.length_cons, List.length_cons, b]⟩
theorem Cap.at_ : ∀ {fr : List Str} {cs : List Addr} {vs : List V} {i : Nat} {y : Str}, Cap H cl fr cs vs → fr[i]? = some y → ∃ (c : Addr) (v : V) (o : Obj) (u : Value), c ∈ cs ∧ vs[i]? = some v ∧ cl.lookup y = some c ∧ H c = some (CelO o) ∧ o.data = .cell (some u) ∧ L2.RelV v u
  | _, _, _, _, _, .nil, e => by simp at e
  | _, _, _, 0, _, .cons a b c d n r, e => by
    simp at e
    subst e
    exact ⟨_, _, _, _, List.mem_cons_self, rfl, a, b, c, d⟩
  | _, _, _, i + 1, _, .cons a b c d n r, e => by
    obtain ⟨c', v', o', u', m, e1, r1⟩ := r.at_ (i := i) (by simpa using e)
    exact ⟨c', v', o', u', List.mem_cons_of_mem _ m, by simpa using e1, r1⟩
theorem Cap.all : ∀ {fr : List Str} {cs : List Addr} {vs : List V}, Cap H cl fr cs vs → Cells cs H
  | _, _, _, .nil => fun c m => nomatch m
  | _, _, _, .cons a b c d n r => fun x m => by
    rcases List.mem_cons.mp m with rfl | m
    · exact ⟨_, _, b, c⟩
    · exact r.all x m
theorem Cap.inj : ∀ {fr : List Str} {cs : List Addr} {vs : List V} {x y : Str} {c : Addr}, Cap H cl fr cs vs → x ∈ fr → y ∈ fr → cl.lookup x = some c → cl.lookup y = some c → x = y
  | _, _, _, _, _, _, .nil, h, _, _, _ => nomatch h
  | _, _, _, x, y, c, .cons (fr := fr) (cs := cs) (c := c0) a b _ _ n r, hx, hy, ex, ey => by
    have im : ∀ z, z ∈ fr → cl.lookup z = some c0 → c0 ∈ cs := fun z hz ez => by
      obtain ⟨i, hi⟩ := List.mem_iff_getElem?.mp hz
      obtain ⟨c', _, _, _, m, _, e, _⟩ := r.at_ hi
      rw [ez] at e
      cases e
      exact m
    rcases List.mem_cons.mp hx with x1 | x1 <;> rcases List.mem_cons.mp hy with y1 | y1
    · rw [x1, y1]
    · rw [x1, a] at ex
      cases ex
      exact absurd (im _ y1 ey) n
    · rw [y1, a] at ey
      cases ey
      exact absurd (im _ x1 ex) n
    · exact r.inj x1 y1 ex ey
theorem hok_cel {P : Program} {w : World} {h : Heap} {c : Addr} {o : Obj} (ok : HOk P w H h) (e : H c = some (CelO o)) : h.get? c = some o := (ok c _ e).1
theorem Cap.cells {P : Program} {w : World} {h : Heap} {fr : List Str} {cs : List Addr} {vs : List V} (C : Cap H cl fr cs vs) (all : ∀ y c, cl.lookup y = some c → y ∈ fr) (ok : HOk P w H h) : CellsAt cl fr (vs.map some) h (offC cs H) := by
  refine ⟨by rw [List.length_map]; exact C.len.2, fun y c e => ?_, fun x y c e1 e2 => C.inj (all x c e1) (all y c e2) e1 e2, fun i y e => ?_⟩
  · obtain ⟨i, hi⟩ := List.mem_iff_getElem?.mp (all y c e)
    obtain ⟨c', v, o, u, m, _, e1, e2, e3, _⟩ := C.at_ hi
    rw [e] at e1
    cases e1
    exact ⟨offC_in m, some u, o, hok_cel ok e2, e3⟩
  · obtain ⟨c, v, o, u, m, ev, e1, e2, e3, r⟩ := C.at_ e
    refine ⟨c, e1, fun v' ev' => ⟨u, ?_, o, hok_cel ok e2, e3⟩⟩
    rw [List.getElem?_map, ev] at ev'
    cases ev'
    exact r
end
section
variable {P : Program} {w : World} {K : PySem.W.Frag} {mg : Str → Option Value} {base : Heap} {H H' : Hp} {h h' : Heap} {cs : List Addr}
theorem hok_off (ok : HOk P w H h) (hc : Cells cs H) : HOk P w (offC cs H) h := fun a o e => by
  obtain ⟨_, e1⟩ := offC_some e
  refine (ok a o e1).stay (fun _ _ _ q => q) (fun b q => ?_) fun b xs q => ?_
  · rw [offC_out (hc.out q fun o z => by cases z)]
    exact q
  · rw [offC_out (hc.out q fun o z => by cases z)]
    exact q
mutual
theorem Da.sub (e1 : ∀ a xs, H a = some (.lst xs) → H' a = some (.lst xs)) (e2 : ∀ a xs, H a = some (.tup xs) → H' a = some (.tup xs)) : ∀ {v : V} {d : PyData}, Da K H v d → Da K H' v d
  | _, _, .non => .non
  | _, _, .bl b => .bl b
  | _, _, .int i => .int i
  | _, _, .str x => .str x
  | _, _, .lst h g => .lst (e1 _ _ h) (DaL.sub e1 e2 g)
  | _, _, .tup h g => .tup (e2 _ _ h) (DaL.sub e1 e2 g)
theorem DaL.sub (e1 : ∀ a xs, H a = some (.lst xs) → H' a = some (.lst xs)) (e2 : ∀ a xs, H a = some (.tup xs) → H' a = some (.tup xs)) : ∀ {vs : List V} {ds : List PyData}, DaL K H vs ds → DaL K H' vs ds
  | _, _, .nil => .nil
  | _, _, .cons h g => .cons (Da.sub e1 e2 h) (DaL.sub e1 e2 g)
end
end
end Dv
namespace Dv
open PySem PySem.Spec PyProof.Rows L2 Xg NdefX
open Classical
section
variable {X : Cx} {pins : List (Addr × Obj)} {σ : L2.St} {H : Hp} {s : Shared}
end
inductive CapH (h : Heap) (cl : List (Str × Addr)) : List Str → List Addr → List V → Prop
  | nil : CapH h cl [] [] []
  | cons {y : Str} {c : Addr} {o : Obj} {u : Value} {v : V} {fr : List Str} {cs : List Addr} {vs : List V} : cl.lookup y = some c → h.get? c = some o → o.data = .cell (some u) → L2.RelV v u → c ∉ cs → CapH h cl fr cs vs → CapH h cl (y :: fr) (c :: cs) (v :: vs)
noncomputable def onC (cs : List Addr) (h : Heap) (H : Hp) : Hp := fun a => if a ∈ cs then (h.get? a).map CelO else H a
theorem onC_out {cs : List Addr} {h : Heap} {H : Hp} {a : Addr} (n : a ∉ cs) : onC cs h H a = H a := if_neg n
theorem onC_in {cs : List Addr} {h : Heap} {H : Hp} {a : Addr} {o : Obj} (m : a ∈ cs) (e : h.get? a = some o) : onC cs h H a = some (CelO o) := by
  unfold onC
  rw [if_pos m, e]
  rfl
section
variable {X : Cx} {pins : List (Addr × Obj)} {σ : L2.St} {H : Hp} {s : Shared}
structure Mine (X : Cx) (cs : List Addr) (s : Shared) : Prop where
  cell : ∀ c ∈ cs, ∃ y, X.env.cells.lookup y = some c ∧ X.fn y = true
  at_ : ∀ c ∈ cs, ∃ (o : Obj) (u : Value), s.heap.get? c = some o ∧ o.data = .cell (some u)
theorem CapH.at_ {h : Heap} {cl : List (Str × Addr)} : ∀ {fr : List Str} {cs : List Addr} {vs : List V}, CapH h cl fr cs vs → ∀ c ∈ cs, ∃ (o : Obj) (u : Value), h.get? c = some o ∧ o.data = .cell (some u)
  | _, _, _, .nil => fun c m => nomatch m
  | _, _, _, .cons a b c d n r => fun x m => by
    rcases List.mem_cons.mp m with rfl | m
    · exact ⟨_, _, b, c⟩
    · exact r.at_ x m
variable {cs : List Addr}
theorem Mine.free (M : Mine X cs s) (I : Inv X pins σ H s) : ∀ c ∈ cs, H c = none := fun c m => let ⟨y, e, _⟩ := M.cell c m; I.freeC y c e
theorem Mine.cells (M : Mine X cs s) : Cells cs (onC cs s.heap H) := fun c m => let ⟨o, u, e, d⟩ := M.at_ c m; ⟨o, u, onC_in m e, d⟩
theorem Mine.ex (M : Mine X cs s) (I : Inv X pins σ H s) : Evl.Ex H (onC cs s.heap H) := fun a o e => by
  rw [onC_out fun m => by rw [M.free I a m] at e; cases e]
  exact e
theorem Mine.nofr (M : Mine X cs s) (I : Inv X pins σ H s) : ∀ c ∈ cs, c ∉ frs X.stack := fun c m hb => by
  obtain ⟨y, e, f⟩ := M.cell c m
  rcases List.mem_cons.mp (I.stkSub c hb) with z | z
  · exact I.cne y c e z
  · obtain ⟨_, o, ho, _⟩ := I.ok.funs.mem z
    exact absurd (Nat.lt_of_lt_of_le (Heap.lt_size ho) (I.ok.cab y c f e)) (Nat.lt_irrefl _)
theorem Mine.env (M : Mine X cs s) (I : Inv X pins σ H s) : Env0 X.prog X.w X.K X.mg X.base X.A X.stack s (onC cs s.heap H) := by
  have e0 := I.env0
  refine ⟨e0.frames, e0.mod, fun b o e => ⟨(e0.bs b o e).1, ?_⟩, e0.bsz, e0.funs, fun b hb => ?_, fun a o e => ?_, e0.bare⟩
  · rw [onC_out fun m => ?_]
    · exact (e0.bs b o e).2
    · obtain ⟨y, e1, f⟩ := M.cell b m
      exact absurd (Nat.lt_of_lt_of_le (Heap.lt_size e) (Nat.le_trans I.ok.bsz (I.ok.cab y b f e1))) (Nat.lt_irrefl _)
  · rw [onC_out fun m => M.nofr I b m hb]
    exact e0.frf b hb
  · by_cases m : a ∈ cs
    · obtain ⟨o1, u, e1, d⟩ := M.at_ a m
      rw [onC_in m e1] at e
      cases e
      exact ⟨e1, trivial, ⟨_, e1⟩, fun _ _ _ _ => trivial⟩
    · rw [onC_out m] at e
      exact (e0.hok a o e).stay (fun _ _ _ q => q) (fun b q => M.ex I _ _ q) fun b xs q => M.ex I _ _ q
theorem Mine.back (M : Mine X cs s) (I : Inv X pins σ H s) {Q : VK} {u : Value} {s' : Shared} (h : CE X.stack X.prog X.w (onC cs s.heap H) s (fun v H5 => (∀ c ∈ cs, H5 c = onC cs s.heap H c) ∧ Q v (offC cs H5)) u s') : CE X.stack X.prog X.w H s Q u s' := by
  obtain ⟨v, H5, os, bare, un, ok, rv, kp, q⟩ := h
  have cel : Cells cs H5 := fun c m => let ⟨o, u, e, d⟩ := M.cells (H := H) c m; ⟨o, u, (kp c m).trans e, d⟩
  have ex := M.ex I
  have nc : ∀ {a : Addr} {o : HO}, H a = some o → a ∉ cs := fun {a o} e m => by
    rw [M.free I a m] at e
    cases e
  refine ⟨v, offC cs H5, os, bare, ⟨fun b o e n hb hx => ?_, fun b o e n hb hx => un.slot b o e (by rw [onC_out fun m => M.nofr I b m hb]; exact n) hb hx, fun b o e n hx => ?_, un.there, fun b xs q => ?_, fun b o x q => ?_, fun b ps q => ?_⟩, hok_off ok cel, rv, q⟩
  · by_cases m : b ∈ cs
    · obtain ⟨o1, u, e1, d⟩ := M.at_ b m
      rw [e] at e1
      cases e1
      exact hok_cel ok ((kp b m).trans (onC_in m e))
    · exact un.keep b o e (by rw [onC_out m]; exact n) hb hx
  · by_cases m : b ∈ cs
    · exact offC_in m
    · exact offC_none (un.free b o e (by rw [onC_out m]; exact n) hx)
  · rw [offC_out (nc q)]
    exact un.tups b xs (ex _ _ q)
  · rw [offC_out (nc q)]
    exact un.frzs b o x (ex _ _ q)
  · obtain ⟨more, z⟩ := un.tbls b ps (ex _ _ q)
    exact ⟨more, by rw [offC_out (nc q)]; exact z⟩
end
end Dv
namespace Dv
open PySem PySem.Spec PyProof.Rows L2 Xg NdefX
open Classical
structure LamHere (X : Cx) (k : Nat) (params : Arguments) (body : Expr) (scope : Scope) (js : List Nat) : Prop where
  tab : ∃ c P, LamX.TabB X.base X.mg c P ∧ X.env.code = .ref c ∧ (P, X.env.qual ++ "<lambda>") ∈ Tof X.K ∧ ∀ p ∈ Tof X.K, p.1 = P → p.2 = X.env.qual ++ "<lambda>"
  bod : LamB k body
  par : ∃ p, params = par1 (lamPar k) p
  sc : NScope (lamN k) [lamPar k] (lamFr k) scope
  gl : k = 2 → scope.names.lookup ("len" : Str) = some NameKind.globalImplicit
  nd : (lamFr k).Nodup
  kin : ∀ y ∈ lamFr k, X.env.scope.names.lookup y = some .cell
  fn : ∀ y, X.fn y = true
  at_ : js.map (fun j => X.N[j]?) = (lamFr k).map some
section
variable {X : Cx} {pins : List (Addr × Obj)} {σ : L2.St} {H : Hp} {s : Shared}
end
section
variable {X : Cx}
end
section
variable {K : PySem.W.Frag} {ta t1 t2 t3 : TE} {ca c1 c2 c3 c : Nat} {fa f1 f2 f3 : FE} {md : Bool}
end
end Dv
namespace Dv
open PySem PySem.Spec PyProof.Rows L2 Xg NdefX
open Classical
section
variable {X : Cx} {pins : List (Addr × Obj)} {σ : L2.St} {H : Hp} {s : Shared}
structure MinJ (X : Cx) (cs : List Addr) (H : Hp) (s4 z : Shared) : Prop where
  os : z.os = s4.os
  bare : AllBare z.gens
  un : Un (frs X.stack) [] H H s4.heap z.heap
  hok : HOk X.prog X.w H z.heap
  cel : ∀ c ∈ cs, z.heap.get? c = s4.heap.get? c
end
section
variable {X : Cx}
end
section
variable {K : PySem.W.Frag} {te : TE} {c k : Nat} {js : List Nat} {fe : FE}
end
end Dv
namespace Dv
open PySem PySem.Spec PyProof.Rows L2 Xg
open Classical
section
variable {K : PySem.W.Frag} {ta : TE} {ca : Nat} {fa : FE}
end
end Dv
namespace Dv
open PySem PySem.Spec PyProof.Rows L2 Xg
variable {K : PySem.W.Frag}
end Dv
namespace Zq
open PySem PySem.Spec PyProof.Rows L2
structure Ap3 (z S T p1 p2 p3 a b c : Addr) : Prop where
  sep : ZipSep3 z S T p1 p2 p3 [p1, a] [p2, b] [p3, c]
  a1 : a ≠ p1
  b2 : b ≠ p2
  c3 : c ≠ p3
end Zq
namespace Dv
open PySem PySem.Spec PyProof.Rows L2 Xg
open Classical
section
variable {K : PySem.W.Frag} {md : Bool} {ta tb tc : TE} {ca cb cc : Nat} {fa fb fc : FE}
end
end Dv
namespace Zn
open PySem PySem.Spec PyProof.Rows L2
structure Cell where
  p : Addr
  l : Addr
  xs : Array Value
  x : Value
def IsZ (g : Heap) (z S T : Addr) (f0 : Value) (f1 : Bool) : Prop := g.get? z = some { cls := .type "zip", data := .fields #[f0, .bool f1, .bool false, .ref S, .ref T] }
def IsT (g : Heap) (a : Addr) (vs : Array Value) : Prop := g.get? a = some { cls := .type "tuple", data := .seq vs }
structure Ap (z S T : Addr) (L : List Cell) : Prop where
  Sz : S ≠ z
  Tz : T ≠ z
  ST : S ≠ T
  pz : ∀ c ∈ L, c.p ≠ z
  pT : ∀ c ∈ L, c.p ≠ T
  pS : ∀ c ∈ L, c.p ≠ S
  lz : ∀ c ∈ L, c.l ≠ z
  lT : ∀ c ∈ L, c.l ≠ T
  lp : ∀ c ∈ L, ∀ d ∈ L, c.l ≠ d.p
  nd : (L.map Cell.p).Nodup
def Stay (g g' : Heap) (z T : Addr) (ps : List Addr) : Prop := ∀ c o, c ≠ z → c ≠ T → c ∉ ps → g.get? c = some o → g'.get? c = some o
section
variable {prog : Program} {w : World} {A : Around} {E : Value → Shared → Prop} {s : Shared} {z S T : Addr} {f0 : Value} {f1 : Bool} {L : List Cell} {i : Nat} {kept : Array Value}
structure Mid (g0 g : Heap) (z S T : Addr) (L : List Cell) (i : Nat) (D R : List Cell) : Prop where
  split : L = D ++ R
  sz : g.objs.size = g0.objs.size
  don : ∀ c ∈ D, g.IsListIter c.p c.l (i + 1)
  todo : ∀ c ∈ R, g.IsListIter c.p c.l i
  stay : Stay g0 g z T (L.map Cell.p)
theorem iter_ext {g g' : Heap} {p l b : Addr} {i : Nat} (x : g.IsListIter p l i) (k : Heap.SameBut b g g') (n : p ≠ b) : g'.IsListIter p l i := x.extBut k.extBut n
theorem Mid.step {g0 g g' : Heap} {c : Cell} {D R : List Cell} (M : Mid g0 g z S T L i D (c :: R)) (Ap : Ap z S T L) (k : Heap.SameBut c.p g g') (hc : g'.IsListIter c.p c.l (i + 1)) : Mid g0 g' z S T L i (D ++ [c]) R := by
  have mc : c ∈ L := by rw [M.split]; simp
  have nd := Ap.nd
  rw [M.split, List.map_append, List.map_cons] at nd
  have n2 := List.nodup_append.mp nd
  have n3 := List.nodup_cons.mp n2.2.1
  refine ⟨by rw [M.split]; simp, by rw [k.1, M.sz], fun d hd => ?_, fun d hd => ?_, fun b o h1 h2 h3 e => ?_⟩
  · rcases List.mem_append.mp hd with hd | hd
    · exact iter_ext (M.don d hd) k fun e => n2.2.2 d.p (List.mem_map_of_mem hd) c.p (List.mem_cons_self ..) e
    · rw [List.mem_singleton.mp hd]
      exact hc
  · exact iter_ext (M.todo d (List.mem_cons_of_mem _ hd)) k fun e => n3.1 (by rw [← e]; exact List.mem_map_of_mem hd)
  · exact k.extBut _ _ (fun e => h3 (by rw [e]; exact List.mem_map_of_mem mc)) (M.stay b o h1 h2 h3 e)
theorem Mid.list {g0 g : Heap} {D R : List Cell} (M : Mid g0 g z S T L i D R) (Ap : Ap z S T L) {c : Cell} (hc : c ∈ L) (hm : g0.IsList c.l c.xs) : g.IsList c.l c.xs := by
  refine hm.at fun o e => M.stay c.l o (Ap.lz c hc) (Ap.lT c hc) (fun h => ?_) e
  obtain ⟨d, hd, e2⟩ := List.mem_map.mp h
  exact Ap.lp c hc d hd e2.symm
end
end Zn
namespace Zn
open PySem PySem.Spec PyProof.Rows L2
structure Laid (g0 g : Heap) (ls : List Addr) : Prop where
  Z : IsZ g (g0.objs.size + ls.length + 2) (g0.objs.size + ls.length) (g0.objs.size + ls.length + 1) .none false
  S : IsT g (g0.objs.size + ls.length) ((List.range ls.length).map fun k => Value.ref (g0.objs.size + k)).toArray
  T : ∃ k : Array Value, IsT g (g0.objs.size + ls.length + 1) k ∧ k.size = ls.length
  I : ∀ k l, ls[k]? = some l → g.IsListIter (g0.objs.size + k) l 0
  st : ∀ b o, g0.get? b = some o → g.get? b = some o
theorem ti (obj : Value) (as : List Value) : argsOk "object.__init__" ⟨obj :: as, []⟩ := by unfold argsOk; kernel_rfl
theorem tn : ∀ (as : List Value), as.length ≤ 25 → checkBuiltinCall "zip.__new__" ⟨.type "zip" :: as, []⟩ = pure ()
  | [], _ => by kernel_rfl
  | [_], _ => by kernel_rfl
  | [_, _], _ => by kernel_rfl
  | [_, _, _], _ => by kernel_rfl
  | [_, _, _, _], _ => by kernel_rfl
  | [_, _, _, _, _], _ => by kernel_rfl
  | [_, _, _, _, _, _], _ => by kernel_rfl
  | [_, _, _, _, _, _, _], _ => by kernel_rfl
  | [_, _, _, _, _, _, _, _], _ => by kernel_rfl
  | [_, _, _, _, _, _, _, _, _], _ => by kernel_rfl
  | [_, _, _, _, _, _, _, _, _, _], _ => by kernel_rfl
  | [_, _, _, _, _, _, _, _, _, _, _], _ => by kernel_rfl
  | [_, _, _, _, _, _, _, _, _, _, _, _], _ => by kernel_rfl
  | [_, _, _, _, _, _, _, _, _, _, _, _, _], _ => by kernel_rfl
  | [_, _, _, _, _, _, _, _, _, _, _, _, _, _], _ => by kernel_rfl
  | [_, _, _, _, _, _, _, _, _, _, _, _, _, _, _], _ => by kernel_rfl
  | [_, _, _, _, _, _, _, _, _, _, _, _, _, _, _, _], _ => by kernel_rfl
  | [_, _, _, _, _, _, _, _, _, _, _, _, _, _, _, _, _], _ => by kernel_rfl
  | [_, _, _, _, _, _, _, _, _, _, _, _, _, _, _, _, _, _], _ => by kernel_rfl
  | [_, _, _, _, _, _, _, _, _, _, _, _, _, _, _, _, _, _, _], _ => by kernel_rfl
  | [_, _, _, _, _, _, _, _, _, _, _, _, _, _, _, _, _, _, _, _], _ => by kernel_rfl
  | [_, _, _, _, _, _, _, _, _, _, _, _, _, _, _, _, _, _, _, _, _], _ => by kernel_rfl
  | [_, _, _, _, _, _, _, _, _, _, _, _, _, _, _, _, _, _, _, _, _, _], _ => by kernel_rfl
  | [_, _, _, _, _, _, _, _, _, _, _, _, _, _, _, _, _, _, _, _, _, _, _], _ => by kernel_rfl
  | [_, _, _, _, _, _, _, _, _, _, _, _, _, _, _, _, _, _, _, _, _, _, _, _], _ => by kernel_rfl
  | [_, _, _, _, _, _, _, _, _, _, _, _, _, _, _, _, _, _, _, _, _, _, _, _, _], _ => by kernel_rfl
  | _ :: _ :: _ :: _ :: _ :: _ :: _ :: _ :: _ :: _ :: _ :: _ :: _ :: _ :: _ :: _ :: _ :: _ :: _ :: _ :: _ :: _ :: _ :: _ :: _ :: _ :: _, h => absurd h (by simp)
section
variable {prog : Program} {w : World} {A : Around} {E : Value → Shared → Prop} {s : Shared}
end
end Zn
namespace Zn
open PySem PySem.Spec PyProof.Rows L2
section
variable {M : Model} {A : Around} {E : Value → Shared → Prop} {s : Shared}
end
section
variable {prog : Program} {w : World} {A : Around} {E : Value → Shared → Prop} {s : Shared} {z S T : Addr} {f0 : Value} {f1 : Bool} {L : List Cell} {i : Nat} {kept : Array Value}
end
structure ApA (z S T : Addr) (ps as : List Addr) : Prop where
  Sz : S ≠ z
  Tz : T ≠ z
  ST : S ≠ T
  zp : z ∉ ps
  Tp : T ∉ ps
  Sp : S ∉ ps
  az : ∀ a ∈ as, a ≠ z
  aT : ∀ a ∈ as, a ≠ T
  ap : ∀ a ∈ as, a ∉ ps
  nd : ps.Nodup
  len : ps.length = as.length
  ne : as ≠ []
  le : as.length ≤ 1000
theorem ApA.cells {z S T : Addr} {ps as : List Addr} {L : List Cell} (D : ApA z S T ps as) (hp : L.map Cell.p = ps) (hl : L.map Cell.l = as) : Ap z S T L := by
  subst hp
  subst hl
  exact ⟨D.Sz, D.Tz, D.ST, fun c h e => D.zp (by rw [← e]; exact List.mem_map_of_mem h), fun c h e => D.Tp (by rw [← e]; exact List.mem_map_of_mem h), fun c h e => D.Sp (by rw [← e]; exact List.mem_map_of_mem h), fun c h => D.az _ (List.mem_map_of_mem h), fun c h => D.aT _ (List.mem_map_of_mem h), fun c h d g e => D.ap _ (List.mem_map_of_mem h) (by rw [e]; exact List.mem_map_of_mem g), D.nd⟩
end Zn
namespace Zn
open PySem PySem.Spec PyProof.Rows L2
end Zn
namespace Dv
open PySem PySem.Spec PyProof.Rows L2 Xg
open Classical
section
variable {K : PySem.W.Frag} {md : Bool} {ta tb tc : TE} {ca cb cc : Nat} {fa fb fc : FE}
end
end Dv
namespace Dv
open PySem PySem.Spec PyProof.Rows L2 Xg
open Classical
section
variable {K : PySem.W.Frag} {md md2 md3 : Bool} {ta tb tc : TE} {ca cb cc : Nat} {fa fb fc : FE}
end
end Dv
namespace Dv
open PySem PySem.Spec PyProof.Rows L2 Xg
open Classical
section
variable {K : PySem.W.Frag} {ta : TE} {ca c : Nat} {fa : FE}
end
end Dv
namespace Dv
open PySem PySem.Spec PyProof.Rows L2 Xg
section
variable {K : PySem.W.Frag}
end
end Dv
namespace Dv
open PySem PySem.Spec PyProof.Rows L2 Xg
section
variable {K : PySem.W.Frag}
variable {ta tb : TE} {ca cb : Nat} {fa fb : FE} {md md2 : Bool}
end
end Dv
namespace Dv
open PySem PySem.Spec PyProof.Rows L2 Xg
open Classical
section
variable {K : PySem.W.Frag} {H : Hp} {S T : Addr → Prop}
end
section
variable {K : PySem.W.Frag} {b : Option Addr} {H H' : Hp} {S T : Addr → Prop} {m n c cr : Nat} {md : Bool} {tr : TA} {fr : FA} {t : TE} {tt : TT} {f : FE} {ft : FT} {σ : L2.St} {ρ : List Sl}
def HL (H : Hp) (S : Addr → Prop) : Addr → Prop := fun a => S a ∨ ∃ xs, H a = some (.lst xs)
theorem HL.al (al : Al S H) : Al (HL H S) H := fun a h => by
  rcases h with h | ⟨xs, e⟩
  · exact al a h
  · exact ⟨_, e, rfl⟩
theorem HL.new {a : Addr} {xs : List V} (st : Stp K b H H') (bs : ∀ p, b = some p → S p) (n : ¬ HL H S a) (e : H' a = some (.lst xs)) : H a = none := by
  cases z : H a with
  | none => rfl
  | some o =>
    exfalso
    have g := st a o (fun w => n (.inl (bs a w))) z
    cases t : isT o with
    | false =>
      have := g.eq t
      rw [e] at this
      cases this
      exact n (.inr ⟨_, z⟩)
    | true =>
      cases o with
      | tbl ps =>
        obtain ⟨⟨qs, e2⟩, _⟩ := g
        rw [e] at e2
        cases e2
      | _ => cases t
end
end Dv
namespace Dv
open PySem PySem.Spec PyProof.Rows L2 Xg
open Classical
section
variable {K : PySem.W.Frag} {H : Hp}
theorem DaK.len : ∀ {ws : List (List L2.Key × V)} {kvs : List (List L2.Key × PyData)}, DaK K H ws kvs → ws.length = kvs.length
  | _, _, .nil => rfl
  | _, _, .cons _ g => by rw [List.length_cons, List.length_cons, DaK.len g]
end
section
variable {K : PySem.W.Frag} {b : Option Addr} {S G : Addr → Prop} {m n c ca cb : Nat} {H H0 H' : Hp} {b0 : Option Addr} {os : Nat → Option Addr} {σ : L2.St} {ρ : List Sl} {ty ta tx : TE} {fk fa fx : FE} {i : Nat}
theorem Tbs.dct {p : Addr} {o : HO} {ws : List (List L2.Key × V)} (h : Tbs K H) (e : H p = some (.dT ws)) : Tbs K (upd H p o) := h.chg (fun ps z => by rw [e] at z; cases z) fun q z => by rw [e] at z; unfold LamX.CodeO at z; cases z
theorem HoLe.dct {c p : Addr} {u o : HO} {ws : List (List L2.Key × V)} (ne : c ≠ p) (h : H c = some u) (e : H p = some (.dT ws)) : HoLe K H (upd H p o) c u := .chg ne h (fun ps z => by rw [e] at z; cases z) fun q z => by rw [e] at z; unfold LamX.CodeO at z; cases z
end
end Dv
namespace Dv
open PySem PySem.Spec PyProof.Rows L2 Xg
section
variable {K : PySem.W.Frag}
end
end Dv
namespace Dv
open PySem PySem.Spec PyProof.Rows L2 Xg
section
variable {K : PySem.W.Frag} {md : Bool} {ta tb : TE} {ca cb : Nat} {fa fb : FE}
end
end Dv
namespace Dv
open PySem PySem.Spec PyProof.Rows L2 Xg
section
variable {K : PySem.W.Frag} {md : Bool} {ta tb : TE} {ca cb : Nat} {fa fb : FE}
end
end Dv
namespace Zq
open PySem PySem.Spec PyProof.Rows L2
open PySem.Sem (wp)
section
variable {prog : Program} {w : World} {A : Around} {E : Value → Shared → Prop} {s : Shared}
end
end Zq
namespace Ez
open PySem PySem.Spec PyProof.Rows L2 Zq Xg
end Ez
namespace Dv
open PySem PySem.Spec PyProof.Rows L2 Xg
open Classical
section
variable {K : PySem.W.Frag} {md : Bool} {ta tb : TE} {ca cb : Nat} {fa fb : FE}
end
end Dv
namespace Dv
open PySem PySem.Spec PyProof.Rows L2 Xg
theorem DaL.at {K : PySem.W.Frag} {H : Hp} : ∀ {vs : List V} {ds : List PyData} {i : Nat} {v : V} {d : PyData}, DaL K H vs ds → vs[i]? = some v → ds[i]? = some d → Da K H v d
  | _, _, 0, _, _, .cons a _, h1, h2 => by
    cases h1
    cases h2
    exact a
  | _, _, i + 1, _, _, .cons _ b, h1, h2 => DaL.at (i := i) b h1 h2
  | _, _, _, _, _, .nil, h1, _ => by simp at h1
end Dv
namespace Dv
open PySem PySem.Spec PyProof.Rows L2 Xg
open Classical
section
variable {P : Program} {w : World} {K : PySem.W.Frag} {mg : Str → Option Value} {base : Heap}
end
section
variable {K : PySem.W.Frag} {c cr i : Nat} {tr : TA} {fr : FA}
end
end Dv
namespace Dv
open PySem PySem.Spec PyProof.Rows L2 Xg
def rReprA (K : PySem.W.Frag) : List V → Hp → VK → Prop := fun xs H Q => ∃ (v : V) (d : PyData), xs = [v] ∧ Dp K H v d ∧ d.showable = true ∧ d.hasDict = false ∧ d.depth ≤ 60 ∧ d.shown.length ≤ sizeLine ∧ Q (.str d.shown) H
theorem call_reprA {X : Cx} (hG : X.A.guards = some []) (hu : X.A.units + 64 < cLine) : CallR X (.builtin "repr") (rReprA X.K) := by
  intro pins s σ H xs us Q I r h
  obtain ⟨v, d, rfl, hd, h1, h2, h3, h4, q⟩ := h
  obtain ⟨u, rfl, rx⟩ := vals1 r
  have ref : ∀ a : Addr, v = .ref a → wpAny (model X.prog X.w) X.A (call (.builtin "repr") [u]) (EP X pins σ Q) X.xe s := fun a e => by
    subst e
    cases rx
    obtain ⟨as, rd⟩ := Dp.reads I d (.ref a) (.ref a) hd rfl
    refine repr_of_reads' rd h1 (fun z => by rw [h2] at z; cases z) hG (by omega) (fun b o e => e) (fun h' u tk hk => ?_) h4
    exact ⟨.str d.shown, H, I.kept (t' := tk) hk, ⟨_, rfl⟩, q⟩
  cases hd with
  | lst _ _ => exact ref _ rfl
  | tup _ _ => exact ref _ rfl
  | non =>
    cases rx
    exact PySem.P.repr_of_none ⟨.str _, H, I.tok _, ⟨_, rfl⟩, q⟩
  | bl c =>
    cases rx
    have e : PyData.shown (.bool c) = (if c = true then Str.ofString "True" else Str.ofString "False") := by cases c <;> rfl
    rw [e] at q
    exact PySem.P.repr_of_bool ⟨.str _, H, I.tok _, ⟨_, rfl⟩, q⟩
  | int i =>
    obtain ⟨t, rfl⟩ := rx
    rw [PyData.showable] at h1
    exact PySem.P.repr_of_int (of_decide_eq_true h1) ⟨.str _, H, I.tok _, ⟨_, rfl⟩, q⟩
  | str x =>
    obtain ⟨t, rfl⟩ := rx
    exact PySem.P.repr_of_str ⟨.str _, H, I.tok _, ⟨_, rfl⟩, q⟩ (hsz := h4)
abbrev reprA (d : PyData) (Q : PyData → Prop) : Prop := (d.showable = true ∧ d.hasDict = false ∧ d.depth ≤ 60 ∧ d.shown.length ≤ sizeLine) ∧ Q (.str d.shown)
theorem cs_reprA {K : PySem.W.Frag} : CallSnd K (rReprA K) (g1 reprA) := call1 (fun x P P' h q => ⟨q.1, h _ q.2⟩)
  (fun {b S H v d Q P} al h q k => ⟨v, d, rfl, h.dp, q.1.1, q.1.2.1, q.1.2.2.1, q.1.2.2.2, k _ _ _ q.2 (Evl.Ex.refl _) (.str _)⟩)
end Dv
namespace Dv
open PySem PySem.Spec PyProof.Rows L2 Xg
open Classical
section
variable {X : Cx}
structure Mf (P : Program) (w : World) (K : PySem.W.Frag) (mg : Str → Option Value) (base : Heap) (m : Str) (ps : List Str) (k : Nat) (sp : Sp) : Prop where
  ex : ∃ (C f : Addr) (fd : FuncData), TbF K C ∧ Meth K C m f ∧ FnG P w K mg base k f fd ps sp ∧ L2.Binds K fd ps []
def tMakeT (K : PySem.W.Frag) (sp : Sp) (t : TA) : TE := fun σ H Q => t σ H fun vs H1 => ∀ (C x dx : Addr), TbF K C → H1 x = none → H1 dx = none → dx ≠ x → sp (.ref x :: vs) (upd (upd H1 dx (.own x)) x (.ins C dx [])) (fun v H2 => v = .non ∧ Q (.ref x) H2) E0
structure Mi (P : Program) (w : World) (K : PySem.W.Frag) (mg : Str → Option Value) (base : Heap) (ps : List Str) (k : Nat) (sp : Sp) : Prop where
  ex : ∃ (C f : Addr) (fd : FuncData), TbF K C ∧ L2.Mk K C f ∧ mg "Table" = some (.ref C) ∧ FnG P w K mg base k f fd ps sp ∧ L2.Binds K fd ps []
end
section
variable {K : PySem.W.Frag} {md : Bool} {ta tb te : TE} {ca cb c : Nat} {fa fb fe : FE} {tr : TA} {cr : Nat} {fr : FA}
def spI (K : PySem.W.Frag) (c : Nat) (F : FF) : Sp := fun vs H Q _ => ∃ (x dx C : Addr) (rest : List V) (b : Option Addr) (S : Addr → Prop) (m : Nat) (as : List Sl), vs = .ref x :: rest ∧ TbF K C ∧ H x = some (.ins C dx []) ∧ S x ∧ b ≠ some x ∧ ArgL K b S H rest as ∧ BxO b H m ∧ (∀ p, b = some p → S p) ∧ (Al S H ∧ Tbs K H) ∧ m + c ≤ LIM ∧ as.length = 4 ∧
  F as (fun d => ∀ (vM vG : V) (dM : PyData) (n : Int) (dG : PyData) (H' : Hp), d = .tuple [dM, .int n, dG] → (∀ a o, b ≠ some a → a ≠ x → H a = some o → HoLe K H H' a o) → BxO b H' (m + c) → H' x = some (.ins C dx [("made_of", vM), ("many", .int n), ("grid", vG)]) → Da K (rm H' S) vM dM → Da K (rm H' S) vG dG → Q .non H')
theorem ArgL.ex {b : Option Addr} {S T : Addr → Prop} {H H' : Hp} (e : Evl.Ex (rm H S) (rm H' T)) : ∀ {vs : List V} {as : List Sl}, ArgL K b S H vs as → ArgL K b T H' vs as
  | _, _, .nil => .nil
  | _, _, .cons (s := s) a r => .cons (by
      cases s with
      | dt d => exact Da.mono e a
      | box => exact a
      | scr ns => exact let ⟨p, e1, g⟩ := a; ⟨p, e1, Evl.ex_l e g⟩
      | op g => exact TbO.mono e a
      | fn k ds => exact LamV.mono e a
      | exc k ds => exact a.elim
      | dct k => exact a.elim
      | dck k => exact DcO.mono e a
      | frt k => exact a.elim
      | no => exact a.elim
      | own _ => exact a.elim) (ArgL.ex e r)
end
end Dv
namespace Dv
open PySem PySem.Spec PyProof.Rows L2 Xg
open Classical
section
variable {K : PySem.W.Frag}
theorem BxO.chg {b : Option Addr} {H : Hp} {m : Nat} {x : Addr} {o : HO} (h : BxO b H m) (n : b ≠ some x) : BxO b (upd H x o) m := by
  cases b with
  | none => trivial
  | some p =>
    obtain ⟨i, y, z, h1, h2, h3, h4, h5, h6⟩ := h
    exact ⟨i, y, z, h1, h2, h3, h4, h5, (upd_ne fun e => n (by rw [e])).trans h6⟩
section
variable {P : Program} {w : World} {mg : Str → Option Value} {base : Heap}
end
end
end Dv
namespace Dv
open PySem PySem.Spec PyProof.Rows L2 Xg
open Classical
section
variable {K : PySem.W.Frag} {c : Nat} {tr : TA} {cr : Nat} {fr : FA}
end
end Dv
namespace Dv
open PySem PySem.Spec PyProof.Rows L2 Xg
open Classical
section
variable {K : PySem.W.Frag} {tr tr2 : TA} {cr cr2 : Nat} {fr fr2 : FA}
theorem mk_run {F : FF} (mF : MonoF F) (r : SndA K tr cr fr) {b : Option Addr} {S : Addr → Prop} {m : Nat} {σ : L2.St} {H : Hp} {ρ : List Sl} {P : PyData → Prop} {Q : VK} (E : DEnv K b S m H σ ρ) (hm : m + cr ≤ LIM)
    (hf : fr ρ fun as => as.length = 4 ∧ F as P) (k : ∀ d x H', P d → Stp K b H H' → BxO b H' (m + cr) → TbO K (rm H' S) (.ref x) d → Q (.ref x) H') : tMakeT K (spI K 0 F) tr σ H Q := r.go E (by omega) hf fun as vs H1 h1 s1 b1 a1 => by
  intro C x dx T nx ndx ne
  have E1 := E.step s1 b1
  have al1 := E1.al
  let S' : Addr → Prop := fun a => S a ∨ a = x ∨ a = dx
  have nS : ¬ S x := fun z => al1.no x z nx
  let H2 := upd (upd H1 dx (.own x)) x (.ins C dx [])
  have keep : ∀ a o, H1 a = some o → H2 a = some o := fun a o e => by
    show upd (upd H1 dx (.own x)) x (.ins C dx []) a = some o
    rw [upd_ne (ne_of_none e nx), upd_ne (ne_of_none e ndx)]
    exact e
  have ex1 : Evl.Ex (rm H1 S) (rm H2 S') := fun a o e => by
    obtain ⟨n1, e1⟩ := rm_some e
    exact rm_in (fun z => z.elim n1 fun z => z.elim (fun z => by rw [z, nx] at e1; cases e1) fun z => by rw [z, ndx] at e1; cases e1) (keep a o e1) (rm_nt e)
  refine ⟨x, dx, C, vs, b, S', m + cr, as, rfl, T, upd_same, .inr (.inl rfl), fun z => nS (E.bs x z), a1.ex ex1, b1.ex keep, fun p z => .inl (E.bs p z), ⟨fun a s => ?_, (E.step s1 b1).tb.ex keep⟩, by omega, h1.1, mF _ _ _ (fun d p vM vG dM n dG H' e kp bx ins dm dg => ⟨rfl, ?_⟩) h1.2⟩
  · rcases s with s | rfl | rfl
    · obtain ⟨o, z, t⟩ := al1 a s
      exact ⟨o, keep a o z, t⟩
    · exact ⟨_, (show H2 a = _ from upd_same), rfl⟩
    · exact ⟨_, (show H2 a = some (.own x) from (upd_ne ne).trans upd_same), rfl⟩
  · have st : Stp K b H1 H' := fun a o nb e => (HoLe.of keep e).trans fun o' e' => kp a o' nb (ne_of_none e nx) e'
    have sub : Evl.Ex (rm H' S') (rm H' S) := rm_sub fun a z => .inl z
    have tb : TbO K (rm H' S) (.ref x) d := ⟨x, C, dx, vM, vG, dM, n, dG, rfl, T, rm_in nS ins, Da.mono sub dm, Da.mono sub dg, e⟩
    exact k d x H' p (s1.trans st) (bx.le (by omega)) tb
end
end Dv
namespace Dv
open PySem PySem.Spec PyProof.Rows L2 Xg
open Classical
def spT (K : PySem.W.Frag) (c : Nat) (F : FF) : Sp := fun vs H Q _ => ∃ (b : Option Addr) (S : Addr → Prop) (m : Nat) (as : List Sl), ArgL K b S H vs as ∧ BxO b H m ∧ (∀ p, b = some p → S p) ∧ (Al S H ∧ Tbs K H) ∧ m + c ≤ LIM ∧ ∃ np, as.length = np ∧ vs.length = np ∧
  F as (fun d => ∀ v H', Stp K b H H' → BxO b H' (m + c) → TbO K (rm H' S) v d → Q v H')
abbrev mkTE (fr : FA) (FT : FF) (P : PyData → Prop) : DEnds := { nx := fun ρ => fr ρ fun as4 => as4.length = 4 ∧ FT as4 P, rt := fun _ => False, rl := fun _ => False }
abbrev mkT (np n : Nat) (f : FS) (fr : FA) (FT : FF) : FF := fun as P => as.length = np ∧ f (pad n as) (mkTE fr FT P)
section
variable {P : Program} {w : World} {K : PySem.W.Frag} {mg : Str → Option Value} {base : Heap}
theorem okT {x qual : Str} {st : Stmt} {f : Addr} {fd : FuncData} {N ps : List Str} {k c cr : Nat} {t : TS} {g : FS} {tr : TA} {fr : FA} {FT : FF} (F : Fun K x qual st f fd) (S : FnScope N ps (defScope st)) (sn : SndS K t c g) (r : SndA K tr cr fr) (mT : MonoF FT)
    (hbody : ∀ (cdv : Value) (A : Around) (outer : List Env) (s : Shared) (H : Hp), (A.deeper (envOfC qual (defScope st) s.heap.objs.size f cdv)).guards = some [] → Room k (A.deeper (envOfC qual (defScope st) s.heap.objs.size f cdv)) →
      PSs (cxOf CX0 P w K mg base N qual (defScope st) f cdv A outer s H E0).nox (defBody st) (tSeq t (tRet (tMakeT K (spI K 0 FT) tr)))) : FnG P w K mg base (k + 1) f fd ps (spT K (c + cr) (mkT ps.length N.length g fr FT)) := by
  refine okG F S (fun vs H Q h => ?_) fun cdv A outer s H vs Q hG hr h => ⟨tSeq t (tRet (tMakeT K (spI K 0 FT) tr)), hbody cdv A outer s H hG hr, ?_⟩
  · obtain ⟨b, S, m, as, hA, _, _, _, _, _, _, _, l, _⟩ := h
    rw [hA.len, l]
  · obtain ⟨b, S, m, as, hA, bx, bs, al, hm, _, _, _, l, hf⟩ := h
    refine sn.go (ok_start (N := N) hA bx bs al) (by omega) hf ⟨fun b' os σ' H' ρ' q o _ => ?_, fun _ _ _ q => q.elim, fun _ _ _ _ q => q.elim, fun _ _ _ _ _ q => q.elim, fun _ _ _ _ _ q => q.elim⟩
    refine mk_run mT r o.env (by omega) q fun d y H2 p st bx2 tb => ?_
    have o2 := o.step st bx2 (Nat.le_add_right _ _)
    exact p _ H2 o2.old (o2.obx.le (by omega)) (TbO.mono (rm_sub fun a z => .inl z) tb)
end
section
variable {K : PySem.W.Frag} {c cr ca cb i j l : Nat} {ta tb : TE} {tr : TA} {fr : FA} {fa fb : FE}
end
end Dv
namespace Dv
open PySem PySem.Spec PyProof.Rows L2 Xg
open Classical
structure SndB (K : PySem.W.Frag) (t : TE) (c : Nat) (f : FE) : Prop where
  mono : ∀ (ρ : List Sl) (P P' : PyData → Prop), (∀ d, P d → P' d) → f ρ P → f ρ P'
  go : ∀ {b : Option Addr} {S : Addr → Prop} {m : Nat} {σ : L2.St} {H : Hp} {ρ : List Sl} {Q : VK} {P : PyData → Prop}, DEnv K b S m H σ ρ → m + c ≤ LIM → f ρ P →
    (∀ d v H', P d → Stp K b H H' → BxO b H' (m + c) → TbO K (rm H' S) v d → Q v H') → t σ H Q
inductive TbL (K : PySem.W.Frag) (H : Hp) : List V → List PyData → Prop
  | nil : TbL K H [] []
  | cons {v : V} {d : PyData} {vs : List V} {ds : List PyData} : TbO K H v d → TbL K H vs ds → TbL K H (v :: vs) (d :: ds)
structure SndBs (K : PySem.W.Frag) (t : TA) (n c : Nat) (f : List Sl → (List PyData → Prop) → Prop) : Prop where
  mono : ∀ (ρ : List Sl) (P P' : List PyData → Prop), (∀ d, P d → P' d) → f ρ P → f ρ P'
  go : ∀ {b : Option Addr} {S : Addr → Prop} {m : Nat} {σ : L2.St} {H : Hp} {ρ : List Sl} {Q : List V → Hp → Prop} {P : List PyData → Prop}, DEnv K b S m H σ ρ → m + c ≤ LIM → f ρ P →
    (∀ ds vs H', P ds → vs.length = n → Stp K b H H' → BxO b H' (m + c) → TbL K (rm H' S) vs ds → Q vs H') → t σ H Q
section
variable {K : PySem.W.Frag} {c ca cb cr n i : Nat} {ta tb t : TE} {tr : TA} {fa fb f : FE} {fr : FA}
theorem TbL.mono {H H' : Hp} (e : Evl.Ex H H') : ∀ {vs : List V} {ds : List PyData}, TbL K H vs ds → TbL K H' vs ds
  | _, _, .nil => .nil
  | _, _, .cons a g => .cons (TbO.mono e a) (TbL.mono e g)
theorem TbL.len {H : Hp} : ∀ {vs : List V} {ds : List PyData}, TbL K H vs ds → vs.length = ds.length
  | _, _, .nil => rfl
  | _, _, .cons _ g => by rw [List.length_cons, List.length_cons, TbL.len g]
theorem TbL.at {H : Hp} : ∀ {vs : List V} {ds : List PyData} {i : Nat} {v : V}, TbL K H vs ds → vs[i]? = some v → ∃ d, ds[i]? = some d ∧ TbO K H v d
  | _, _, 0, _, .cons a _, h => by
    cases h
    exact ⟨_, rfl, a⟩
  | _, _, i + 1, _, .cons _ g, h => TbL.at (i := i) g h
  | _, _, _, _, .nil, h => by simp at h
end
end Dv
namespace Dv
open PySem PySem.Spec PyProof.Rows L2 Xg
open Classical
section
variable {K : PySem.W.Frag} {wi : TI} {ci ce i j l : Nat} {fi : FD} {g : TG} {vs : List Nat} {fg : FG} {te : TE} {fe : FE}
theorem TbL.app {H : Hp} : ∀ {vs : List V} {ds : List PyData} {v : V} {d : PyData}, TbL K H vs ds → TbO K H v d → TbL K H (vs ++ [v]) (ds ++ [d])
  | _, _, _, _, .nil, h => .cons h .nil
  | _, _, _, _, .cons a g, h => .cons a (TbL.app g h)
end
end Dv
namespace Dv
open PySem PySem.Spec PyProof.Rows L2 Xg
open Classical
structure SndLN (K : PySem.W.Frag) (t : TE) (c : Nat) (f : FN) : Prop where
  mono : ∀ (ρ : List Sl) (P P' : List (List PyData) → Prop), (∀ d, P d → P' d) → f ρ P → f ρ P'
  go : ∀ {b : Option Addr} {S : Addr → Prop} {m : Nat} {σ : L2.St} {H : Hp} {ρ : List Sl} {Q : VK} {P : List (List PyData) → Prop}, DEnv K b S m H σ ρ → m + c ≤ LIM → f ρ P →
    (∀ (dss : List (List PyData)) (ps : List Addr) (D : Addr) (H' : Hp), P dss → H D = none → Stp K b H H' → BxO b H' (m + c) → (∀ q ∈ ps, H q = none) → ps.Nodup → D ∉ ps → H' D = some (.lst (ps.map V.ref)) → DaL K (rm H' fun a => S a ∨ a = D) (ps.map V.ref) (dss.map PyData.list) → Q (.ref D) H') → t σ H Q
section
variable {K : PySem.W.Frag} {wi : TI} {ci ce : Nat} {fi : FD} {g : TG} {vs : List Nat} {fg : FG} {te : TE} {fe : FD}
end
end Dv
namespace Dv
open PySem PySem.Spec PyProof.Rows L2 Xg
open Classical
section
variable {P : Program} {w : World} {K : PySem.W.Frag} {mg : Str → Option Value} {base : Heap}
end
end Dv
namespace Dv
open PySem PySem.Spec PyProof.Rows L2 Xg
open Classical
section
variable {K : PySem.W.Frag} {b : Option Addr} {S G : Addr → Prop} {m n c cr ct : Nat} {H H0 H' : Hp} {b0 : Option Addr} {os : Nat → Option Addr} {σ : L2.St} {ρ : List Sl} {tr : TA} {fr : FA} {tt : TT} {ft : FT} {i : Nat}
end
end Dv
namespace Dv
open PySem PySem.Spec PyProof.Rows L2 Xg
open Classical
section
variable {K : PySem.W.Frag} {b : Option Addr} {S G : Addr → Prop} {m n c cr ct cu : Nat} {H H0 H' : Hp} {b0 : Option Addr} {os : Nat → Option Addr} {σ : L2.St} {ρ : List Sl} {tr : TA} {fr : FA} {tt tu : TT} {ft fu : FT} {i : Nat}
theorem DaL.flat {H H' : Hp} : ∀ {vs : List V} {ds : List PyData}, DaL K H vs ds → ds.all Dv.flat = true → DaL K H' vs ds
  | _, _, .nil, _ => .nil
  | _, _, .cons h g, f => by
    rw [List.all_cons, Bool.and_eq_true] at f
    exact .cons (Da.flat h f.1) (DaL.flat g f.2)
end
end Dv
namespace Ex
open PySem PySem.Spec PyProof.Rows L2 Xv
section
variable {X : Cx} {cls : Value} {b : Bool}
end
section
def spInit (C : Addr) (f : Str) : Sp := fun vs H Q _ => ∃ (a : Addr) (v : V), vs = [.ref a, v] ∧ H a = some (exo a C none) ∧
  ∀ dx, H dx = none → dx ≠ a → Q .non (upd (upd H dx (exd dx [(f, v)])) a (exo a C (some dx)))
structure Mk1 (P : Program) (w : World) (K : PySem.W.Frag) (mg : Str → Option Value) (base : Heap) (x f : Str) (C : Addr) : Prop where
  ex : ∃ (newId initId Bs : String) (bmB : List Value) (fI : Addr) (fd : FuncData), XC K C newId bmB ∧ BF Bs newId initId bmB ∧
    PySem.W.findIn K (.ref C) "__init__" = some (some (.ref fI)) ∧ PySem.W.typeIn K (.ref fI) = some (.type "function") ∧
    FnOk P w K mg base CX0 1 fI fd ["self", f] (spInit C f) ∧ L2.Binds K fd ["self", f] []
  g : mg x = some (.ref C)
  no : PySem.W.findIn K (.ref C) f = some none
  is : ExcC K C
  ty : PySem.W.typeIn K (.ref C) = some (.type "type")
structure Mk0 (K : PySem.W.Frag) (mg : Str → Option Value) (x : Str) (C : Addr) : Prop where
  ex : ∃ (newId initId Bs : String) (bmB : List Value), BF Bs newId initId bmB ∧ PySem.W.excIn K C bmB newId = true
  g : mg x = some (.ref C)
  kp : PySem.W.keepIn K (.ref C) = true
  is : ExcC K C
  ty : PySem.W.typeIn K (.ref C) = some (.type "type")
end
end Ex
namespace Ex
open PySem PySem.Spec PyProof.Rows L2 Xg Dv
structure FnX (P : Program) (w : World) (K : PySem.W.Frag) (mg : Str → Option Value) (base : Heap) (k : Nat) (f : Addr) (fd : FuncData) (ps : List Str) (sp : Sp) : Prop where
  len : ∀ vs H Q E, sp vs H Q E → vs.length = ps.length
  run : ∀ (A : Around) (outer : List Env) (s : Shared) (H : Hp) (args : Args) (us : List Value) (vs : List V) (Q : VK) (E : XK), A.guards = some [] → Room k A → Env0 P w K mg base A outer s H →
    BindsTo s fd args (ps.zip us) → Vals vs us → sp vs H Q E → codeAny (model P w) A (.call (.ref f) args) (CR (L2.CX P w) outer P w H s Q E) s
section
variable {P : Program} {w : World} {K : PySem.W.Frag} {mg : Str → Option Value} {base : Heap}
end
structure DfX (P : Program) (w : World) (K : PySem.W.Frag) (mg : Str → Option Value) (base : Heap) (x : Str) (ps : List Str) (k : Nat) (sp : Sp) : Prop where
  ex : ∃ (f : Addr) (fd : FuncData), FnX P w K mg base k f fd ps sp ∧ mg x = some (.ref f) ∧ PySem.W.keepIn K (.ref f) = true ∧ L2.Binds K fd ps []
structure DfB (P : Program) (w : World) (K : PySem.W.Frag) (mg : Str → Option Value) (base : Heap) (x : Str) (ps : List Str) (j k : Nat) (sp spx : Sp) : Prop where
  ex : ∃ (f : Addr) (fd : FuncData), FnG P w K mg base j f fd ps sp ∧ FnX P w K mg base k f fd ps spx ∧ mg x = some (.ref f) ∧ PySem.W.keepIn K (.ref f) = true ∧ L2.Binds K fd ps []
abbrev XW := Str → Option (Str × PyData) → Prop
def XdR (K : PySem.W.Frag) (S : Addr → Prop) (H : Hp) (d : Option Addr) : Option (Str × PyData) → Prop
  | none => d = none
  | some (f, u) => ∃ dx v, d = some dx ∧ H dx = some (.xd [(f, v)]) ∧ ¬ S dx ∧ Da K (rm H S) v u
abbrev FR := List Sl → XW → Prop
structure SndRE (K : PySem.W.Frag) (t : WX → TE) (c : Nat) (f : FR) : Prop where
  mono : ∀ (ρ : List Sl) (P P' : XW), (∀ x d, P x d → P' x d) → f ρ P → f ρ P'
  go : ∀ {b : Option Addr} {S : Addr → Prop} {m : Nat} {σ : L2.St} {H : Hp} {ρ : List Sl} {W : WX} {P : XW}, DEnv K b S m H σ ρ → m + c ≤ LIM → f ρ P →
    (∀ x d dd H', P x d → Stp K b H H' → BxO b H' (m + c) → XdR K S H' dd d → W (.ref (ca K x)) dd σ H') → ∀ Q, t W σ H Q
structure SndR (K : PySem.W.Frag) (t : WX → TS) (c : Nat) (f : FR) : Prop where
  mono : ∀ (ρ : List Sl) (P P' : XW), (∀ x d, P x d → P' x d) → f ρ P → f ρ P'
  go : ∀ {G : Addr → Prop} {H0 : Hp} {b0 b : Option Addr} {os : Nat → Option Addr} {m : Nat} {H : Hp} {σ : L2.St} {ρ : List Sl} {W : WX} {P : XW}, Ok K G H0 b0 b os m H σ ρ → m + c ≤ LIM → f ρ P →
    (∀ x d dd H' σ', P x d → Out K G H0 b0 (m + c) H' → XdR K G H' dd d → W (.ref (ca K x)) dd σ' H') → ∀ D, t W D σ H
section
variable {K : PySem.W.Frag} {md : Bool} {ta tb : TE} {te : WX → TE} {ca' cb c cu cr ct : Nat} {fa fb : FE} {fe f g : FR} {t u : WX → TS} {tr : TA} {fr : FA}
theorem XdR.sub {S T : Addr → Prop} {H : Hp} {d : Option Addr} {fs : Option (Str × PyData)} (h : XdR K S H d fs) (hs : ∀ a, T a → S a) : XdR K T H d fs := by
  cases fs with
  | none => exact h
  | some p =>
    obtain ⟨dx, v, e1, e2, n, e3⟩ := h
    exact ⟨dx, v, e1, e2, fun z => n (hs _ z), Da.mono (rm_sub hs) e3⟩
end
section
variable {P : Program} {w : World} {K : PySem.W.Frag} {mg : Str → Option Value} {base : Heap}
end
end Ex
namespace Ex
open PySem PySem.Spec PyProof.Rows L2 Xg Dv
open Classical
section
variable {K : PySem.W.Frag} {b : Option Addr} {S : Addr → Prop} {m n : Nat} {H H' : Hp} {σ : L2.St} {ρ : List Sl}
end
abbrev FB := List Sl → DEnds → XW → Prop
structure SndB (K : PySem.W.Frag) (t : WX → TS) (c : Nat) (f : FB) : Prop where
  mono : ∀ (ρ : List Sl) (E E' : DEnds) (P P' : XW), DLe E E' → (∀ x d, P x d → P' x d) → f ρ E P → f ρ E' P'
  go : ∀ {G : Addr → Prop} {H0 : Hp} {b0 b : Option Addr} {os : Nat → Option Addr} {m : Nat} {H : Hp} {σ : L2.St} {ρ : List Sl} {D : Ends} {E : DEnds} {W : WX} {P : XW}, Ok K G H0 b0 b os m H σ ρ → m + c ≤ LIM → f ρ E P →
    Goes K G H0 b0 (m + c) (SO G b os) H E D → (∀ x d dd H', P x d → Stp K b H H' → BxO b H' (m + c) → XdR K (SO G b os) H' dd d → W (.ref (ca K x)) dd σ H') → t W D σ H
section
variable {K : PySem.W.Frag} {md : Bool} {ta : TE} {ca' c cu cr ct : Nat} {fa : FE} {f g : FB} {t u : WX → TS} {tr : TA} {fr : FA}
end
end Ex
namespace Ex
open PySem PySem.Spec PyProof.Rows L2 Xg Dv
open Classical
structure SndRA (K : PySem.W.Frag) (t : WX → TA) (c : Nat) (f : FR) : Prop where
  mono : ∀ (ρ : List Sl) (P P' : XW), (∀ x d, P x d → P' x d) → f ρ P → f ρ P'
  go : ∀ {b : Option Addr} {S : Addr → Prop} {m : Nat} {σ : L2.St} {H : Hp} {ρ : List Sl} {W : WX} {P : XW}, DEnv K b S m H σ ρ → m + c ≤ LIM → f ρ P →
    (∀ x d dd H', P x d → Stp K b H H' → BxO b H' (m + c) → XdR K S H' dd d → W (.ref (ca K x)) dd σ H') → ∀ Q, t W σ H Q
section
variable {K : PySem.W.Frag} {md : Bool} {ta : TE} {te : WX → TE} {ca' c cu cr ct : Nat} {fa : FE} {f g : FR} {t u : WX → TS} {tr : TA} {tw : WX → TA}
abbrev FQ := List Sl → (List Sl → Prop) → XW → Prop
structure SndQ (K : PySem.W.Frag) (t : WX → TS) (c : Nat) (f : FQ) : Prop where
  mono : ∀ (ρ : List Sl) (N N' : List Sl → Prop) (P P' : XW), (∀ r, N r → N' r) → (∀ x d, P x d → P' x d) → f ρ N P → f ρ N' P'
  go : ∀ {G : Addr → Prop} {H0 : Hp} {b0 b : Option Addr} {os : Nat → Option Addr} {m : Nat} {H : Hp} {σ : L2.St} {ρ : List Sl} {D : Ends} {N : List Sl → Prop} {W : WX} {P : XW}, Ok K G H0 b0 b os m H σ ρ → m + c ≤ LIM → f ρ N P →
    (∀ b1 os1 σ' H' ρ', N ρ' → Ok K G H0 b0 b1 os1 (m + c) H' σ' ρ' → Lk (SO G b os) H (SO G b1 os1) H' → D.nx σ' H') →
    (∀ x d dd H' σ', P x d → Out K G H0 b0 (m + c) H' → XdR K G H' dd d → W (.ref (ca K x)) dd σ' H') → t W D σ H
variable {fq gq : FQ}
end
end Ex
namespace Ex
open PySem PySem.Spec PyProof.Rows L2 Xg Dv
open Classical
section
variable {K : PySem.W.Frag} {c cu ct : Nat} {f g : FR} {t u : WX → TS}
end
section
variable {X : Cx} {n m : Str} {i j : Nat} {body : List Stmt} {ty : Expr} {mp np ap pos pos' : Pos} {tb : WX → TS} {xs : List Str}
end
section
variable {K : PySem.W.Frag}
end
section
variable {P : Program} {w : World} {K : PySem.W.Frag} {mg : Str → Option Value} {base : Heap}
theorem btL : bootBuiltins "LookupError" = some (.type "LookupError") := by decide +kernel
end
end Ex
namespace Ex
open PySem PySem.Spec PyProof.Rows L2 Xg Dv
open Classical
structure AtB (P : Program) (w : World) (K : PySem.W.Frag) (mg : Str → Option Value) (base : Heap) (A : Around) (f : Addr) (sp spx : Sp) : Prop where
  ex : ∃ (fd : FuncData) (ps : List Str) (j k : Nat), FnG P w K mg base j f fd ps sp ∧ FnX P w K mg base k f fd ps spx ∧ Room j A ∧ Room k A ∧ PySem.W.keepIn K (.ref f) = true ∧ L2.Binds K fd ps []
theorem DfB.at_ {P : Program} {w : World} {K : PySem.W.Frag} {mg : Str → Option Value} {base : Heap} {A : Around} {x : Str} {ps : List Str} {j k : Nat} {sp spx : Sp} (D : DfB P w K mg base x ps j k sp spx) (g : mg x = some (.ref (ca K x))) (r1 : Room j A) (r2 : Room k A) : AtB P w K mg base A (ca K x) sp spx := by
  obtain ⟨f, fd, a, b, c, d, e⟩ := D.ex
  rw [c] at g
  cases Option.some.inj g
  exact ⟨fd, ps, j, k, a, b, r1, r2, d, e⟩
structure Ent where
  x : Str
  c : Nat
  cR : Nat
  F : FF
  R : FR
section
variable {K : PySem.W.Frag} {c cr : Nat} {tr : TA} {fr : FA}
end
end Ex
namespace Ex
open PySem PySem.Spec PyProof.Rows L2 Xg Dv
open Classical
section
variable {P : Program} {w : World} {K : PySem.W.Frag} {mg : Str → Option Value} {base : Heap}
end
section
variable {K : PySem.W.Frag} {c1 c2 cr1 cr2 : Nat} {tr1 tr2 : TA} {fr1 fr2 : FA}
end
end Ex
namespace Ex
open PySem PySem.W PySem.Spec PyProof.Rows L2 Xv
section
variable {M : Model} {K : Frag} {A : Around} {E : Value → Shared → Prop} {s : Shared}
end
section
variable {X : Cx} {cls : Value} {b : Bool}
end
end Ex
namespace Dv
open PySem PySem.Spec PyProof.Rows L2 Xg
section
variable {X : Cx}
end
section
variable {K : PySem.W.Frag} {md : Bool} {ta tb : TE} {ca cb : Nat} {fa fb : FE}
end
end Dv
namespace Ex
open PySem PySem.Spec PyProof.Rows L2 Xg Dv
open Classical
section
variable {K : PySem.W.Frag} {md md2 : Bool} {ta tb : TE} {ca' cb c cu cr cw u cu' : Nat} {fa fb : FE} {tr : TA} {fr : FA} {t v : WX → TS} {fq : FQ} {g : FR}
end
end Ex
namespace Dv
open PySem PySem.Spec PyProof.Rows L2 Xg
end Dv
namespace Ex
open PySem PySem.Spec PyProof.Rows L2 Xg Dv
open Classical
section
variable {md md2 : Bool} {K : PySem.W.Frag} {ta tb : TE} {ca' cb : Nat} {fa fb : FE}
end
end Ex
namespace Dv
open PySem PySem.Spec PyProof.Rows L2 Xg
open Classical
section
variable {X : Cx}
end
structure SndM (K : PySem.W.Frag) (t : TE) (c : Nat) (f : FD) : Prop where
  mono : ∀ (ρ : List Sl) (P P' : List PyData → Prop), (∀ d, P d → P' d) → f ρ P → f ρ P'
  go : ∀ {b : Option Addr} {S : Addr → Prop} {m : Nat} {σ : L2.St} {H : Hp} {ρ : List Sl} {Q : VK} {P : List PyData → Prop}, DEnv K b S m H σ ρ → m + c ≤ LIM → f ρ P →
    (∀ (ds : List PyData) (l : Addr) (o : Obj) (xs : List V) (H' : Hp), P ds → H l = none → o.cls = .type "tuple" → o.dict = none → H' l = some (.frz o (.tup xs)) → Stp K b H H' → BxO b H' (m + c) → DaL K (rm H' S) xs ds → Q (.ref l) H') → t σ H Q
section
variable {K : PySem.W.Frag} {c cr ca i : Nat} {t ta tb : TE} {tr : TA} {fr : FA} {f fl : FD} {fa fb : FE}
end
section
variable {P : Program} {w : World} {K : PySem.W.Frag} {mg : Str → Option Value} {base : Heap}
end
end Dv
namespace Dv
open PySem PySem.Spec PyProof.Rows L2 Xg
open Classical
def F_none : FF := fun _ _ => False
theorem m_none : MonoF F_none := fun _ _ _ _ q => q
section
variable {P : Program} {w : World} {K : PySem.W.Frag} {mg : Str → Option Value} {base : Heap}
theorem g_none {n : Nat} {f : Addr} {fd : FuncData} {ps : List Str} : FnG P w K mg base n f fd ps (spD K 0 F_none) :=
  ⟨fun vs H Q h => (let ⟨_, _, _, _, _, _, _, _, _, q⟩ := h; q.elim), fun A outer s H args us vs Q _ _ _ _ _ h => (let ⟨_, _, _, _, _, _, _, _, _, q⟩ := h; q.elim)⟩
end
section
variable {K : PySem.W.Frag} {md : Bool} {ta : TE} {ca : Nat} {fa : FE}
theorem snds_retIf {tt : TT} {ta tb : TE} {ct ca cb : Nat} {ft : FT} {fa fb : FS} (t : SndT K tt ct ft) (a : SndS K (tRet ta) ca fa) (b : SndS K (tRet tb) cb fb) : SndS K (tRet (tIf tt ta tb)) (ct + (ca + cb)) (sIf ft fa fb) := snds_if t a b
end
end Dv
namespace Dv
open PySem PySem.Spec PyProof.Rows L2 Xg
open Classical
def revS (x : Str) : Str := ⟨x.cps.toList.reverse.toArray⟩
theorem pickedS (x : Str) (k : Tok) : ((slicePicked x none none (some (-1, k))).filterMap (x.cps[·]?)).toArray = x.cps.toList.reverse.toArray := by
  have e : slicePicked x none none (some (-1, k)) = (List.range x.cps.size).reverse := by
    show sliceRange ((x.cps.size : Int) - 1) (-1) (-1) = _
    rw [PySem.W.krv_sliceRange, PySem.W.krv_range]
  rw [e, List.filterMap_reverse, PySem.W.krv_all]
def tRevS (te : TE) : TE := fun σ H Q => te σ H fun x H1 => ∃ z, x = .str z ∧ z.length ≤ sizeLine ∧ Q (.str (revS z)) H1
section
variable {X : Cx}
theorem pe_revS {e : Expr} {te : TE} {k : Nat} {p1 p2 p3 pos : Pos} (he : PE X e te) : PE X (.Subscript e (.Slice none none (some (.UnaryOp .USub (.Constant (.int 1) k p1) p2)) p3) pos) (tRevS te) := by
  refine ⟨fun pins s σ H Q I h => Subscript_ (thn (he.run pins s σ H _ I h) fun v s1 ⟨x, H1, I1, r1, z, ex, hz, q⟩ => ?_)⟩
  subst ex
  obtain ⟨t, rfl⟩ := r1
  have step : PO X (some (.UnaryOp .USub (.Constant (.int 1) k p1) p2)) (tPart (tUn (rU fun i => .int (-i)) (tC (.int 1)))) := po_some (pe_un un_neg pe_int)
  refine wpAny_Slice (thn (po_none.run pins s1 σ H1 (fun o H2 => o = none ∧ H2 = H1) I1 ⟨rfl, rfl⟩) fun v1 s2 ⟨o1, H2, I2, w1, y1, y2⟩ => ?_)
  subst y1 y2
  refine thn (po_none.run pins s2 σ H2 (fun o H3 => o = none ∧ H3 = H2) I2 ⟨rfl, rfl⟩) fun v2 s3 ⟨o2, H3, I3, w2, y1, y2⟩ => ?_
  subst y1 y2
  refine thn (step.run pins s3 σ H3 (fun o H4 => o = some (-1) ∧ H4 = H3) I3 ⟨1, rfl, -1, rfl, rfl, rfl⟩) fun v3 s4 ⟨o3, H4, I4, w3, y1, y2⟩ => ?_
  subst y1 y2
  cases w1
  cases w2
  cases w3 with
  | int _ c =>
  have I5 : Inv X pins σ H4 { s4 with heap := s4.heap.push { cls := .type "slice", data := .fields #[.none, .none, .int (-1) c] } } := I4.kept (t' := s4.toks) fun b o y => Heap.get?_push_of_some _ y
  show wpAny (model X.prog X.w) X.A (subscriptTail e (.Slice none none (some (.UnaryOp .USub (.Constant (.int 1) k p1) p2)) p3) (.str z t) (.ref s4.heap.objs.size)) (EP X pins σ Q) X.xe { s4 with heap := s4.heap.push { cls := .type "slice", data := .fields #[.none, .none, .int (-1) c] } }
  refine tail_any (ops := [.ref s4.heap.objs.size, .str z t]) (typeIs_str _ _ _) F.slot_str_getitem.lookup ?_ (by with_unfolding_all rfl)
  refine wpAny_getItem_str_slice (l := none) (u := none) (st := some (-1, c)) ⟨_, Heap.get?_push_size _ rfl, rfl, rfl⟩ rfl ?_
  show Made.post (Made.str ⟨((slicePicked z none none (some (-1, c))).filterMap (z.cps[·]?)).toArray⟩) (EP X pins σ Q) _
  rw [pickedS]
  refine ⟨?_, .str (revS z), H4, I5.tok _, ⟨_, rfl⟩, q⟩
  show (revS z).length ≤ sizeLine
  have el : (revS z).length = z.length := by
    show (z.cps.toList.reverse.toArray).size = z.cps.size
    simp
  rw [el]
  exact hz
end
section
variable {K : PySem.W.Frag} {md : Bool} {ta tb tc : TE} {ca cb cc : Nat} {fa fb : FE}
theorem DaL.erase {H : Hp} {vs : List V} {ds : List PyData} (h : DaL K H vs ds) (j : Nat) : DaL K H (vs.eraseIdx j) (ds.eraseIdx j) := by
  rw [List.eraseIdx_eq_take_drop_succ, List.eraseIdx_eq_take_drop_succ]
  exact (h.take j).app (h.drop (j + 1))
abbrev sPopAt (i : Nat) (f : FE) : FS := fun ρ E => ownQ ρ i fun ds => f ρ (asI fun k => ∃ j : Nat, k = (j : Int) ∧ j < ds.length ∧ ds.length < 1000000 ∧ E.nx (ρ.set i (.own (ds.eraseIdx j))))
theorem snds_popAt {i : Nat} (a : Snd true K ta ca fa) : SndS K (tDrop (tBM K "list" rPopAt (tVar i) (tCons ta tNil))) ca (sPopAt i fa) :=
  ⟨fun ρ E E' h q => ownQ_mono (fun ds => a.mono _ _ _ (asI_mono fun k ⟨j, z1, z2, z3, z4⟩ => ⟨j, z1, z2, z3, h.nx _ z4⟩)) q, fun ok hm hf k => by
    obtain ⟨ds, e, hf⟩ := ownQ_of hf
    obtain ⟨p, xs, e1, e2, e3, e4, e5⟩ := ok.env.sl i _ e
    refine ⟨.ref p, e1, .inl ⟨rfl, xs, .inl (.inl e4)⟩, a.go ok.env hm hf fun d v H' q st bx vd => ?_⟩
    obtain ⟨n, rfl, j, rfl, hj, hz, q⟩ := asI_of q vd
    have ln : xs.length = ds.length := e5.len
    have hx : j < xs.length := by omega
    have ok1 := ok.step st bx (by omega)
    obtain ⟨o, l⟩ := ok1.mut e e1 ((e5.mono (st.rm ok.env.bs)).erase j)
    have si : seqIndex? (j : Int) xs.length = some j := by
      unfold seqIndex?
      have c1 : ¬ ((j : Int) < 0) := by omega
      rw [if_neg c1]
      have c2 : (decide (0 ≤ (j : Int)) && decide ((j : Int) < xs.length)) = true := by
        rw [decide_eq_true (by omega), decide_eq_true (by omega)]
        rfl
      rw [if_pos c2]
      rfl
    exact ⟨p, xs, j, j, _, rfl, rfl, st _ _ e3 e4, by omega, by omega, si, List.getElem?_eq_getElem hx, k.nx _ _ _ _ _ q o ((Lk.step st ok.env.bs).trans l)⟩⟩
abbrev rIns : V → List V → Hp → VK → Prop := fun x vs H Q => ∃ l xs i y, x = .ref l ∧ vs = [.int i, y] ∧ H l = some (.lst xs) ∧ xs.length < sizeLine ∧ 0 ≤ i ∧ i < 2 ^ 63 ∧ Q .non (upd H l (.lst (xs.take i.toNat ++ [y] ++ xs.drop i.toNat)))
abbrev sIns (i : Nat) (fi fe : FE) : FS := fun ρ E => ownQ ρ i fun ds => fi ρ (asI fun k => fe ρ fun d => ∃ j : Nat, k = (j : Int) ∧ j < 1000000 ∧ ds.length < 1000000 ∧ E.nx (ρ.set i (.own (ds.take j ++ [d] ++ ds.drop j))))
theorem snds_ins {i : Nat} (x : Snd true K tb cb fb) (a : Snd true K ta ca fa) : SndS K (tDrop (tBM K "list" rIns (tVar i) (tCons tb (tCons ta tNil)))) (cb + ca) (sIns i fb fa) :=
  ⟨fun ρ E E' h q => ownQ_mono (fun ds => x.mono _ _ _ (asI_mono fun k => a.mono _ _ _ fun d ⟨j, z1, z2, z3, z4⟩ => ⟨j, z1, z2, z3, h.nx _ z4⟩)) q, fun ok hm hf k => by
    obtain ⟨ds, e, hf⟩ := ownQ_of hf
    obtain ⟨p, xs, e1, e2, e3, e4, e5⟩ := ok.env.sl i _ e
    refine ⟨.ref p, e1, .inl ⟨rfl, xs, .inl (.inl e4)⟩, x.go ok.env (by omega) hf fun dj vj H1 q1 st1 bx1 vd1 => ?_⟩
    obtain ⟨n, rfl, q1⟩ := asI_of q1 vd1
    refine a.go (ok.env.step st1 bx1) (by omega) q1 fun d v H2 q st2 bx2 vd => ?_
    obtain ⟨j, rfl, hj, hz, q⟩ := q
    have ln : xs.length = ds.length := e5.len
    have ok1 := ok.step st1 bx1 (by omega)
    have ok2 := ok1.step st2 bx2 (by omega)
    have g := (e5.mono (st1.rm ok.env.bs)).mono (st2.rm ok1.env.bs)
    obtain ⟨o, l⟩ := ok2.mut e e1 (((g.take j).app (.cons vd .nil)).app (g.drop j))
    exact ⟨p, xs, j, v, rfl, rfl, st2 _ _ e3 (st1 _ _ e3 e4), by rw [ln]; exact Nat.lt_trans hz (by decide), by omega, by omega, k.nx _ _ _ _ _ q (o.le (by omega)) (((Lk.step st1 ok.env.bs).trans (Lk.step st2 ok1.env.bs)).trans l)⟩⟩
abbrev sPar3O (i j l : Nat) (fa fb : FE) (fc : FD) : FS := fun ρ E => fa ρ fun x => fb ρ fun y => fc ρ fun zs => E.nx (((ρ.set i (.dt x)).set j (.dt y)).set l (.own zs))
theorem snds_par3O {i j l : Nat} {fl : FD} (a : Snd true K ta ca fa) (r : Snd true K tb cb fb) (u : SndL K tc cc fl) : SndS K (tPar3 i j l (tCons ta (tCons tb (tCons tc tNil)))) (ca + (cb + cc)) (sPar3O i j l fa fb fl) :=
  ⟨fun ρ E E' h q => a.mono _ _ _ (fun x => r.mono _ _ _ fun y => u.mono _ _ _ fun z => h.nx _) q, fun {G H0 b0 b os m H σ ρ D E} ok hm hf k => a.go ok.env (by omega) hf fun dx v H1 p st bx vd => by
    have ok1 := ok.step st bx (by omega)
    refine r.go ok1.env (by omega) p fun dy w H2 p2 st2 bx2 vd2 => ?_
    have ok2 := ok1.step st2 bx2 (by omega)
    refine u.go ok2.env (by omega) p2 fun zs xs q H3 h3 np st3 bx3 e g => ⟨v, w, .ref q, rfl, ?_⟩
    have k1 := ok2.kpt (ok2.env.set (i := i) (s := .dt dx) fun z e => ⟨_, e, Da.mono (st2.rm ok.env.bs) vd⟩) (kpt_set (vs := [i]) (by simp))
    have k2 := k1.kpt (k1.env.set (i := j) (s := .dt dy) fun z e => ⟨_, e, vd2⟩) (kpt_set (vs := [j]) (by simp))
    obtain ⟨o3, l3⟩ := k2.own (i := l) np st3 bx3 (by omega) e g
    exact k.nx _ _ _ _ _ h3 (o3.le (by omega)) (((Lk.step st ok.env.bs).trans (Lk.step st2 ok.env.bs)).trans l3)⟩
def rAddS : R2 := fun x y H Q => ∃ i j, x = .str i ∧ y = .str j ∧ i.length + j.length ≤ sizeLine ∧ Q (.str (i ++ j)) H
abbrev gAddS : GB
  | .str i, .str j, Q => i.length + j.length ≤ 1000000 ∧ Q (.str (i ++ j))
  | _, _, _ => False
theorem ops_addS : OpSnd K rAddS gAddS := ⟨fun x y P P' h q => by
    cases x <;> cases y <;> first | exact ⟨q.1, h _ q.2⟩ | exact q.elim, fun {b S H x y dx dy Q P} al hx hy q k => by
    cases dx <;> cases dy <;> first | exact q.elim | skip
    rw [hx.str, hy.str]
    exact ⟨_, _, rfl, rfl, Nat.le_trans q.1 (by decide), k _ _ _ q.2 (Evl.Ex.refl _) (.str _)⟩⟩
theorem op_addS {X : Cx} : OpR X (binaryOp .Add) rAddS := op_add_str
abbrev strQ (Q : Str → Prop) : PyData → Prop
  | .str x => Q x
  | _ => False
theorem strQ_mono {P P' : Str → Prop} (h : ∀ x, P x → P' x) : ∀ d, strQ P d → strQ P' d := fun d z => by cases d <;> first | exact h _ z | exact z.elim
abbrev eCutS (fa : FE) (n : Nat) : FE := fun ρ Q => fa ρ (strQ fun x => x.length ≤ 1000000 ∧ Q (.str (cutS x (some (n : Int)) none)))
theorem snd_cutS {n : Nat} (a : Snd md K ta ca fa) : Snd true K (tSl rSlS ta (tPart (tC (.int (n : Int)))) tNoPart) ca (eCutS fa n) := mk_snd
  (fun ρ P P' h q => a.mono _ _ _ (strQ_mono fun x z => ⟨z.1, h _ z.2⟩) q)
  (fun E hm hf k => a.go E hm hf fun dx v H1 p st bx vd => by
    cases dx <;> first | exact p.elim | skip
    rw [vd.vw.str]
    exact ⟨_, rfl, _, rfl, Nat.le_trans p.1 (by decide), k _ _ _ p.2 st bx (.str _)⟩)
abbrev eRevS (fa : FE) : FE := fun ρ Q => fa ρ (strQ fun x => x.length ≤ 1000000 ∧ Q (.str (revS x)))
theorem snd_revS (a : Snd md K ta ca fa) : Snd true K (tRevS ta) ca (eRevS fa) := mk_snd
  (fun ρ P P' h q => a.mono _ _ _ (strQ_mono fun x z => ⟨z.1, h _ z.2⟩) q)
  (fun E hm hf k => a.go E hm hf fun dx v H1 p st bx vd => by
    cases dx <;> first | exact p.elim | skip
    rw [vd.vw.str]
    exact ⟨_, rfl, Nat.le_trans p.1 (by decide), k _ _ _ p.2 st bx (.str _)⟩)
abbrev rUpper : V → List V → Hp → VK → Prop := fun x xs H Q => ∃ a, x = .str a ∧ xs = [] ∧ a.length ≤ 5592405 ∧ Q (.str (Txt.upper a)) H
abbrev eUpper (fa : FE) : FE := fun ρ Q => fa ρ (strQ fun x => x.length ≤ 1000000 ∧ Q (.str (Txt.upper x)))
theorem snd_upper (a : Snd md K ta ca fa) : Snd true K (tM0 rUpper ta) ca (eUpper fa) := mk_snd
  (fun ρ P P' h q => a.mono _ _ _ (strQ_mono fun x z => ⟨z.1, h _ z.2⟩) q)
  (fun E hm hf k => a.go E hm hf fun dx v H1 p st bx vd => by
    cases dx <;> first | exact p.elim | skip
    rw [vd.vw.str]
    exact ⟨⟨_, rfl⟩, _, rfl, rfl, Nat.le_trans p.1 (by decide), k _ _ _ p.2 st bx (.str _)⟩)
abbrev eStrI (fa : FE) : FE := fun ρ Q => fa ρ (asI fun i => i.natAbs.log2 < 1920 ∧ Q (.str (Str.ofString (toString i))))
theorem snd_strI (a : Snd true K ta ca fa) : Snd true K (tCB (fun xs H Q => ∃ i, xs = [.int i] ∧ i.natAbs.log2 < 1920 ∧ Q (.str (Str.ofString (toString i))) H) (tCons ta tNil)) ca (eStrI fa) := mk_snd
  (fun ρ P P' h q => a.mono _ _ _ (asI_mono fun x z => ⟨z.1, h _ z.2⟩) q)
  (fun E hm hf k => a.go E hm hf fun dx v H1 p st bx vd => by
    obtain ⟨n, rfl, z, q⟩ := asI_of p vd
    exact ⟨_, rfl, z, k _ _ _ q st bx (.str _)⟩)
end
end Dv
namespace Dv
open PySem PySem.Spec PyProof.Rows L2 Xg
open Classical
section
variable {K : PySem.W.Frag} {H : Hp}
theorem DaL.strs_inv : ∀ {ns : List Str} {vs : List V}, DaL K H vs (ns.map PyData.str) → vs = ns.map V.str
  | [], _, .nil => rfl
  | n :: r, _, .cons h g => by
    cases h
    rw [DaL.strs_inv g]
    rfl
abbrev gNotInTS : GB
  | .str i, .tuple ds, Q => ∃ ns : List Str, ds = ns.map PyData.str ∧ Q (.bool (!decide (i ∈ ns)))
  | _, _, _ => False
theorem inV_strs {i : Str} : ∀ {ns : List Str}, inV (.str i) (ns.map V.str) = decide (i ∈ ns)
  | [] => rfl
  | n :: ns => by
    have ih := inV_strs (i := i) (ns := ns)
    unfold inV at ih ⊢
    rw [List.map_cons, List.any_cons, ih]
    have e : eqV (.str n) (.str i) = decide (n = i) := by
      show (n == i) = decide (n = i)
      by_cases h : n = i
      · rw [decide_eq_true h, h]; simp
      · rw [decide_eq_false h]; simp [h]
    rw [e]
    by_cases h : n = i
    · simp [h]
    · have h' : ¬ i = n := fun z => h z.symm
      simp [h, h']
theorem flat_strs : ∀ {ns : List Str}, (ns.map V.str).all flatV = true
  | [] => rfl
  | n :: ns => by rw [List.map_cons, List.all_cons, flat_strs]; rfl
theorem ops_notInTS : OpSnd K (rIn K true) gNotInTS := ⟨fun x y P P' h q => by
    cases x <;> cases y <;> first | exact let ⟨ns, e, z⟩ := q; ⟨ns, e, h _ z⟩ | exact q.elim, fun {b S H x y dx dy Q P} al hx hy q k => by
    cases dx <;> cases dy <;> first | exact q.elim | skip
    obtain ⟨ns, rfl, q⟩ := q
    obtain ⟨p, vs, rfl, e, g⟩ := hy.tuple
    rw [g.strs_inv] at e
    rw [hx.str]
    refine ⟨p, _, rfl, .inr e, rfl, flat_strs, ?_⟩
    rw [if_pos rfl, inV_strs]
    exact k _ _ _ q (Evl.Ex.refl _) (.bl _)⟩
end
end Dv
namespace Kd
open PySem PySem.Spec PyProof.Rows L2 Xg Dv
@[irreducible] def f__law_odd_0 : FS := (sRet (eBin gIx (eBin gAdd (eVar 1) (eLst (dCons (eTup (dCons (eTup (dCons (eC (.int 1)) dNil)) dNil)) (dCons (eTup (dCons (eC (.str "row")) (dCons (eTup (dCons (eC (.int 1)) dNil)) dNil))) (dCons (eTup (dCons (eC (.str "ring")) (dCons (eTup (dCons (eC (.int 1)) (dCons (eC (.int 1)) dNil))) dNil))) (dCons (eLst (dCons (eC (.str "row")) (dCons (eLst (dCons (eC (.int 1)) dNil)) dNil))) dNil)))))) (eCall F_take (aBox 0 (aCons (eC (.int 22)) aNil)))))
def t__law_odd_0 (K : PySem.W.Frag) : TS := (tRet (tOp (rIx K) (tOp (rAdd K) (tVar 1) (tLst (tCons (tTup (tCons (tTup (tCons (tC (.int 1)) tNil)) tNil)) (tCons (tTup (tCons (tC (.str "row")) (tCons (tTup (tCons (tC (.int 1)) tNil)) tNil))) (tCons (tTup (tCons (tC (.str "ring")) (tCons (tTup (tCons (tC (.int 1)) (tCons (tC (.int 1)) tNil))) tNil))) (tCons (tLst (tCons (tC (.str "row")) (tCons (tLst (tCons (tC (.int 1)) tNil)) tNil))) tNil)))))) (tCallG (spD K 1 F_take) (tCons (tVar 0) (tCons (tC (.int 22)) tNil)))))
theorem s__law_odd_0 (K : PySem.W.Frag) : SndS K (t__law_odd_0 K) 1 f__law_odd_0 := by
  unfold f__law_odd_0
  exact (snds_ret (snd_op ops_ix (snd_op ops_add snd_var (SndL.d (sndl_lst (sndd_cons (snd_tup (sndd_cons (snd_tup (sndd_cons snd_int sndd_nil) (by decide)) sndd_nil) (by decide)) (sndd_cons (snd_tup (sndd_cons snd_str (sndd_cons (snd_tup (sndd_cons snd_int sndd_nil) (by decide)) sndd_nil)) (by decide)) (sndd_cons (snd_tup (sndd_cons snd_str (sndd_cons (snd_tup (sndd_cons snd_int (sndd_cons snd_int sndd_nil)) (by decide)) sndd_nil)) (by decide)) (sndd_cons (SndL.d (sndl_lst (sndd_cons snd_str (sndd_cons (SndL.d (sndl_lst (sndd_cons snd_int sndd_nil) (by decide))) sndd_nil)) (by decide))) sndd_nil)))) (by decide)))) (snd_call m_take (snda_box (snda_cons snd_int snda_nil)))))
def f__law_odd : FS := (sSeq (sAsg (eLst (dCons (eC .none) (dCons (eC (.bool true)) (dCons (eC (.bool false)) (dCons (eUn negD (eC (.int 1))) (dCons (eC (.int 0)) (dCons (eC (.int 1)) (dCons (eC (.int 2)) (dCons (eBin (gIc CPow fun i j => i ^ j.toNat) (eC (.int 10)) (eC (.int 30))) (dCons (eC (.str "")) (dCons (eC (.str "row")) (dCons (eC (.str "ring")) (dCons (eC (.str "forth")) (dCons (eTup dNil) (dCons (eLst dNil) (dCons (eTup (dCons (eC (.int 0)) dNil)) (dCons (eLst (dCons (eC (.int 1)) dNil)) (dCons (eTup (dCons (eC (.int 1)) (dCons (eC (.int 1)) dNil))) (dCons (eLst (dCons (eLst (dCons (eC (.int 1)) dNil)) dNil)) dNil))))))))))))))))))) (gN 1)) f__law_odd_0)
@[irreducible] def F__law_odd : FF := mkF 1 2 f__law_odd
def t__law_odd (K : PySem.W.Frag) : TS := (tSeq (tAsg (tLst (tCons (tC .non) (tCons (tC (.bl true)) (tCons (tC (.bl false)) (tCons (tUn (rU fun i => .int (-i)) (tC (.int 1))) (tCons (tC (.int 0)) (tCons (tC (.int 1)) (tCons (tC (.int 2)) (tCons (tOp (rI CPow fun i j => .int (i ^ j.toNat)) (tC (.int 10)) (tC (.int 30))) (tCons (tC (.str "")) (tCons (tC (.str "row")) (tCons (tC (.str "ring")) (tCons (tC (.str "forth")) (tCons (tTup tNil) (tCons (tLst tNil) (tCons (tTup (tCons (tC (.int 0)) tNil)) (tCons (tLst (tCons (tC (.int 1)) tNil)) (tCons (tTup (tCons (tC (.int 1)) (tCons (tC (.int 1)) tNil))) (tCons (tLst (tCons (tLst (tCons (tC (.int 1)) tNil)) tNil)) tNil))))))))))))))))))) (gName 1)) (t__law_odd_0 K))
theorem s__law_odd (K : PySem.W.Frag) : SndS K (t__law_odd K) 1 f__law_odd := (snds_seq (snds_asg (vs := [1]) (SndL.d (sndl_lst (sndd_cons snd_non (sndd_cons snd_bl (sndd_cons snd_bl (sndd_cons (snd_un us_neg snd_int) (sndd_cons snd_int (sndd_cons snd_int (sndd_cons snd_int (sndd_cons (snd_op ops_Ic snd_int snd_int) (sndd_cons snd_str (sndd_cons snd_str (sndd_cons snd_str (sndd_cons snd_str (sndd_cons (snd_tup sndd_nil (by decide)) (sndd_cons (SndL.d (sndl_lst sndd_nil (by decide))) (sndd_cons (snd_tup (sndd_cons snd_int sndd_nil) (by decide)) (sndd_cons (SndL.d (sndl_lst (sndd_cons snd_int sndd_nil) (by decide))) (sndd_cons (snd_tup (sndd_cons snd_int (sndd_cons snd_int sndd_nil)) (by decide)) (sndd_cons (SndL.d (sndl_lst (sndd_cons (SndL.d (sndl_lst (sndd_cons snd_int sndd_nil) (by decide))) sndd_nil) (by decide))) sndd_nil)))))))))))))))))) (by decide))) (sndg_name (by decide))) (s__law_odd_0 K))
theorem m__law_odd (K : PySem.W.Frag) : MonoF F__law_odd := by
  unfold F__law_odd
  exact mkF_mono (s__law_odd K)
end Kd
namespace Kd
open PySem PySem.Spec PyProof.Rows L2 Xg Dv
@[irreducible] def f__law_otherwise__0_0 : FS := (sIf (fTest (eIsi .list (eVar 1))) (sRetO 4) (sRet (eUn tupD (eVarV 4))))
def t__law_otherwise__0_0 (K : PySem.W.Frag) : TS := (tRet (tIf (tB (tCB (rIsi K) (tCons (tVar 1) (tCons (tC (.ty "list")) tNil)))) (tVar 4) (tThen (tVar 4) (kTup K))))
theorem s__law_otherwise__0_0 (K : PySem.W.Frag) : SndS K (t__law_otherwise__0_0 K) 0 f__law_otherwise__0_0 := by
  unfold f__law_otherwise__0_0
  exact (snds_retIf (sndt_B (snd_isi (t := .list) snd_var)) snds_retO (snds_ret (snd_tupOf sndV_var)))
@[irreducible] def f__law_otherwise__0_1 : FS := (sSeq (sIf (fTest (eBin (gC fun i j => decide (i < j)) (eVar 3) (eC (.int 6)))) (sPut 4 (eVar 2) (eCall F_none (aBox 0 (aCons (eBin gIx (eVar 1) (eVar 2)) aNil)))) (sIf (fTest (eBin gEq (eVar 3) (eC (.int 6)))) (sPopAt 4 (eVar 2)) (sIf (fTest (eBin gEq (eVar 3) (eC (.int 7)))) (sIns 4 (eVar 2) (eBin gIx (eVar 1) (eVar 2))) (sIf (fTest (eBin gEq (eVar 3) (eC (.int 8)))) (sMeth 4 List.reverse) (sIf (fTest (eIsi .tuple (eVar 1))) (sRetO 4) (sRet (eUn tupD (eVarV 4)))))))) f__law_otherwise__0_0)
def t__law_otherwise__0_1 (K : PySem.W.Frag) : TS := (tSeq (tIfS (tTest (tOp (rI0 fun i j => .bl (decide (i < j))) (tVar 3) (tC (.int 6)))) (tAsg (tCallG (spD K 0 F_none) (tCons (tVar 0) (tCons (tOp (rIx K) (tVar 1) (tVar 2)) tNil))) (gSub (tVar 4) (tVar 2) rSetL)) (tIfS (tTest (tOp (rEqX K) (tVar 3) (tC (.int 6)))) (tDrop (tBM K "list" rPopAt (tVar 4) (tCons (tVar 2) tNil))) (tIfS (tTest (tOp (rEqX K) (tVar 3) (tC (.int 7)))) (tDrop (tBM K "list" rIns (tVar 4) (tCons (tVar 2) (tCons (tOp (rIx K) (tVar 1) (tVar 2)) tNil)))) (tIfS (tTest (tOp (rEqX K) (tVar 3) (tC (.int 8)))) (tDrop (tBM0 K "list" rReverse (tVar 4))) (tRet (tIf (tB (tCB (rIsi K) (tCons (tVar 1) (tCons (tC (.ty "tuple")) tNil)))) (tVar 4) (tThen (tVar 4) (kTup K)))))))) (t__law_otherwise__0_0 K))
theorem s__law_otherwise__0_1 (K : PySem.W.Frag) : SndS K (t__law_otherwise__0_1 K) 0 f__law_otherwise__0_1 := by
  unfold f__law_otherwise__0_1
  exact (snds_seq (snds_if (sndt_test (snd_op ops_C snd_var snd_int)) (snds_put (snd_call m_none (snda_box (snda_cons (snd_op ops_ix snd_var snd_var) snda_nil))) snd_var) (snds_if (sndt_test (snd_op ops_eq snd_var snd_int)) (snds_popAt snd_var) (snds_if (sndt_test (snd_op ops_eq snd_var snd_int)) (snds_ins snd_var (snd_op ops_ix snd_var snd_var)) (snds_if (sndt_test (snd_op ops_eq snd_var snd_int)) snds_rev (snds_retIf (sndt_B (snd_isi (t := .tuple) snd_var)) snds_retO (snds_ret (snd_tupOf sndV_var))))))) (s__law_otherwise__0_0 K))
@[irreducible] def f__law_otherwise__0_2 : FS := (sRet (eCall F__law_odd (aBox 0 aNil)))
def t__law_otherwise__0_2 (K : PySem.W.Frag) : TS := (tRet (tCallG (spD K 1 F__law_odd) (tCons (tVar 0) tNil)))
theorem s__law_otherwise__0_2 (K : PySem.W.Frag) : SndS K (t__law_otherwise__0_2 K) 1 f__law_otherwise__0_2 := by
  unfold f__law_otherwise__0_2
  exact (snds_ret (snd_call (m__law_odd K) (snda_box snda_nil)))
@[irreducible] def f__law_otherwise__0_3 : FS := (sSeq (sIf (fAnd (fTest (eIsi .str (eVar 1))) (fTest (eBin (gC fun i j => decide (j < i)) (eCall F_take (aBox 0 (aCons (eC (.int 4)) aNil))) (eC (.int 0))))) (sRet (eBin gIx (eLst (dCons (eBin gAddS (eVar 1) (eC (.str "s"))) (dCons (eCutS (eVar 1) 1) (dCons (eUpper (eVar 1)) (dCons (eBin gAddS (eVar 1) (eC (.str " "))) (dCons (eTup (dCons (eVar 1) dNil)) (dCons (eRevS (eVar 1)) dNil))))))) (eCall F_take (aBox 0 (aCons (eC (.int 6)) aNil))))) sSkip) f__law_otherwise__0_2)
def t__law_otherwise__0_3 (K : PySem.W.Frag) : TS := (tSeq (tIfS (tAnd (tB (tCB (rIsi K) (tCons (tVar 1) (tCons (tC (.ty "str")) tNil)))) (tTest (tOp (rI0 fun i j => .bl (decide (j < i))) (tCallG (spD K 1 F_take) (tCons (tVar 0) (tCons (tC (.int 4)) tNil))) (tC (.int 0))))) (tRet (tOp (rIx K) (tLst (tCons (tOp rAddS (tVar 1) (tC (.str "s"))) (tCons (tSl rSlS (tVar 1) (tPart (tC (.int (1 : Int)))) tNoPart) (tCons (tM0 rUpper (tVar 1)) (tCons (tOp rAddS (tVar 1) (tC (.str " "))) (tCons (tTup (tCons (tVar 1) tNil)) (tCons (tRevS (tVar 1)) tNil))))))) (tCallG (spD K 1 F_take) (tCons (tVar 0) (tCons (tC (.int 6)) tNil))))) tNext) (t__law_otherwise__0_2 K))
theorem s__law_otherwise__0_3 (K : PySem.W.Frag) : SndS K (t__law_otherwise__0_3 K) 3 f__law_otherwise__0_3 := by
  unfold f__law_otherwise__0_3
  exact (snds_seq (snds_if (sndt_and (sndt_B (snd_isi (t := .str) snd_var)) (sndt_test (snd_op ops_C (snd_call m_take (snda_box (snda_cons snd_int snda_nil))) snd_int))) (snds_ret (snd_op ops_ix (SndL.d (sndl_lst (sndd_cons (snd_op ops_addS snd_var snd_str) (sndd_cons (snd_cutS (n := 1) snd_var) (sndd_cons (snd_upper snd_var) (sndd_cons (snd_op ops_addS snd_var snd_str) (sndd_cons (snd_tup (sndd_cons snd_var sndd_nil) (by decide)) (sndd_cons (snd_revS snd_var) sndd_nil)))))) (by decide))) (snd_call m_take (snda_box (snda_cons snd_int snda_nil))))) snds_nil) (s__law_otherwise__0_2 K))
@[irreducible] def f__law_otherwise__0_4 : FS := (sSeq (sIf (fAnd (fTest (eIsi .int (eVar 1))) (fAnd (fNot (fTest (eIsi .bool (eVar 1)))) (fTest (eBin (gC fun i j => decide (j < i)) (eCall F_take (aBox 0 (aCons (eC (.int 4)) aNil))) (eC (.int 0)))))) (sRet (eBin gIx (eLst (dCons (eBin gAdd (eVar 1) (eC (.int 1))) (dCons (eBin (gI fun i j => i - j) (eVar 1) (eC (.int 1))) (dCons (eC (.int 0)) (dCons (eUn negD (eVar 1)) (dCons (eBin gEq (eVar 1) (eC (.int 1))) (dCons (eStrI (eVar 1)) (dCons (eC .none) dNil)))))))) (eCall F_take (aBox 0 (aCons (eC (.int 7)) aNil))))) sSkip) f__law_otherwise__0_3)
def t__law_otherwise__0_4 (K : PySem.W.Frag) : TS := (tSeq (tIfS (tAnd (tB (tCB (rIsi K) (tCons (tVar 1) (tCons (tC (.ty "int")) tNil)))) (tAnd (tNot (tB (tCB (rIsi K) (tCons (tVar 1) (tCons (tC (.ty "bool")) tNil))))) (tTest (tOp (rI0 fun i j => .bl (decide (j < i))) (tCallG (spD K 1 F_take) (tCons (tVar 0) (tCons (tC (.int 4)) tNil))) (tC (.int 0)))))) (tRet (tOp (rIx K) (tLst (tCons (tOp (rAdd K) (tVar 1) (tC (.int 1))) (tCons (tOp (rI0 fun i j => .int (i - j)) (tVar 1) (tC (.int 1))) (tCons (tC (.int 0)) (tCons (tUn (rU fun i => .int (-i)) (tVar 1)) (tCons (tOp (rEqX K) (tVar 1) (tC (.int 1))) (tCons (tCB (fun xs H Q => ∃ i, xs = [.int i] ∧ i.natAbs.log2 < 1920 ∧ Q (.str (Str.ofString (toString i))) H) (tCons (tVar 1) tNil)) (tCons (tC .non) tNil)))))))) (tCallG (spD K 1 F_take) (tCons (tVar 0) (tCons (tC (.int 7)) tNil))))) tNext) (t__law_otherwise__0_3 K))
theorem s__law_otherwise__0_4 (K : PySem.W.Frag) : SndS K (t__law_otherwise__0_4 K) 5 f__law_otherwise__0_4 := by
  unfold f__law_otherwise__0_4
  exact (snds_seq (snds_if (sndt_and (sndt_B (snd_isi (t := .int) snd_var)) (sndt_and (sndt_not (sndt_B (snd_isi (t := .bool) snd_var))) (sndt_test (snd_op ops_C (snd_call m_take (snda_box (snda_cons snd_int snda_nil))) snd_int)))) (snds_ret (snd_op ops_ix (SndL.d (sndl_lst (sndd_cons (snd_op ops_add snd_var snd_int) (sndd_cons (snd_op ops_I snd_var snd_int) (sndd_cons snd_int (sndd_cons (snd_un us_neg snd_var) (sndd_cons (snd_op ops_eq snd_var snd_int) (sndd_cons (snd_strI snd_var) (sndd_cons snd_non sndd_nil))))))) (by decide))) (snd_call m_take (snda_box (snda_cons snd_int snda_nil))))) snds_nil) (s__law_otherwise__0_3 K))
def f__law_otherwise__0 : FS := (sSeq (sIf (fAnd (fTest (eIsiLT (eVar 1))) (fAnd (fTest (eBin (gC fun i j => decide (j < i)) (eCB (g1 lenD) (dCons (eVar 1) dNil)) (eC (.int 0)))) (fTest (eBin (gC fun i j => decide (j < i)) (eCall F_take (aBox 0 (aCons (eC (.int 6)) aNil))) (eC (.int 0)))))) (sSeq (sPar3O 2 3 4 (eCall F_take (aBox 0 (aCons (eCB (g1 lenD) (dCons (eVar 1) dNil)) aNil))) (eCall F_take (aBox 0 (aCons (eC (.int 10)) aNil))) (fListOf (eVar 1))) f__law_otherwise__0_1) sSkip) f__law_otherwise__0_4)
@[irreducible] def F__law_otherwise__0 : FF := mkF 2 5 f__law_otherwise__0
def t__law_otherwise__0 (K : PySem.W.Frag) : TS := (tSeq (tIfS (tAnd (tB (tCB (rIsiT K) (tCons (tVar 1) (tCons (tTup (tCons (tC (.ty "list")) (tCons (tC (.ty "tuple")) tNil))) tNil)))) (tAnd (tTest (tOp (rI0 fun i j => .bl (decide (j < i))) (tCB (fun xs H Q => ∃ x n, xs = [x] ∧ LenV K x H n ∧ Q (.int n) H) (tCons (tVar 1) tNil)) (tC (.int 0)))) (tTest (tOp (rI0 fun i j => .bl (decide (j < i))) (tCallG (spD K 1 F_take) (tCons (tVar 0) (tCons (tC (.int 6)) tNil))) (tC (.int 0)))))) (tSeq (tPar3 2 3 4 (tCons (tCallG (spD K 1 F_take) (tCons (tVar 0) (tCons (tCB (fun xs H Q => ∃ x n, xs = [x] ∧ LenV K x H n ∧ Q (.int n) H) (tCons (tVar 1) tNil)) tNil))) (tCons (tCallG (spD K 1 F_take) (tCons (tVar 0) (tCons (tC (.int 10)) tNil))) (tCons (tCB (fun xs H Q => ∃ p ys, xs = [.ref p] ∧ (SqL K H p ys ∨ SqT K H p ys) ∧ ∀ l, H l = none → Q (.ref l) (upd H l (.lst ys))) (tCons (tVar 1) tNil)) tNil)))) (t__law_otherwise__0_1 K)) tNext) (t__law_otherwise__0_4 K))
theorem s__law_otherwise__0 (K : PySem.W.Frag) : SndS K (t__law_otherwise__0 K) 8 f__law_otherwise__0 := (snds_seq (snds_if (sndt_and (sndt_B (snd_isiLT snd_var)) (sndt_and (sndt_test (snd_op ops_C (snd_cb cs_len (sndd_cons snd_var sndd_nil)) snd_int)) (sndt_test (snd_op ops_C (snd_call m_take (snda_box (snda_cons snd_int snda_nil))) snd_int)))) (snds_seq (snds_par3O (snd_call m_take (snda_box (snda_cons (snd_cb cs_len (sndd_cons snd_var sndd_nil)) snda_nil))) (snd_call m_take (snda_box (snda_cons snd_int snda_nil))) (sndl_listOf snd_var)) (s__law_otherwise__0_1 K)) snds_nil) (s__law_otherwise__0_4 K))
theorem m__law_otherwise__0 (K : PySem.W.Frag) : MonoF F__law_otherwise__0 := by
  unfold F__law_otherwise__0
  exact mkF_mono (s__law_otherwise__0 K)
end Kd
namespace Kd
open PySem PySem.Spec PyProof.Rows L2 Xg Dv
@[irreducible] def f__law_otherwise__1_0 : FS := (sIf (fTest (eIsi .list (eVar 1))) (sRetO 4) (sRet (eUn tupD (eVarV 4))))
def t__law_otherwise__1_0 (K : PySem.W.Frag) : TS := (tRet (tIf (tB (tCB (rIsi K) (tCons (tVar 1) (tCons (tC (.ty "list")) tNil)))) (tVar 4) (tThen (tVar 4) (kTup K))))
theorem s__law_otherwise__1_0 (K : PySem.W.Frag) : SndS K (t__law_otherwise__1_0 K) 0 f__law_otherwise__1_0 := by
  unfold f__law_otherwise__1_0
  exact (snds_retIf (sndt_B (snd_isi (t := .list) snd_var)) snds_retO (snds_ret (snd_tupOf sndV_var)))
@[irreducible] def f__law_otherwise__1_1 : FS := (sSeq (sIf (fTest (eBin (gC fun i j => decide (i < j)) (eVar 3) (eC (.int 6)))) (sPut 4 (eVar 2) (eCall F__law_otherwise__0 (aBox 0 (aCons (eBin gIx (eVar 1) (eVar 2)) aNil)))) (sIf (fTest (eBin gEq (eVar 3) (eC (.int 6)))) (sPopAt 4 (eVar 2)) (sIf (fTest (eBin gEq (eVar 3) (eC (.int 7)))) (sIns 4 (eVar 2) (eBin gIx (eVar 1) (eVar 2))) (sIf (fTest (eBin gEq (eVar 3) (eC (.int 8)))) (sMeth 4 List.reverse) (sIf (fTest (eIsi .tuple (eVar 1))) (sRetO 4) (sRet (eUn tupD (eVarV 4)))))))) f__law_otherwise__1_0)
def t__law_otherwise__1_1 (K : PySem.W.Frag) : TS := (tSeq (tIfS (tTest (tOp (rI0 fun i j => .bl (decide (i < j))) (tVar 3) (tC (.int 6)))) (tAsg (tCallG (spD K 8 F__law_otherwise__0) (tCons (tVar 0) (tCons (tOp (rIx K) (tVar 1) (tVar 2)) tNil))) (gSub (tVar 4) (tVar 2) rSetL)) (tIfS (tTest (tOp (rEqX K) (tVar 3) (tC (.int 6)))) (tDrop (tBM K "list" rPopAt (tVar 4) (tCons (tVar 2) tNil))) (tIfS (tTest (tOp (rEqX K) (tVar 3) (tC (.int 7)))) (tDrop (tBM K "list" rIns (tVar 4) (tCons (tVar 2) (tCons (tOp (rIx K) (tVar 1) (tVar 2)) tNil)))) (tIfS (tTest (tOp (rEqX K) (tVar 3) (tC (.int 8)))) (tDrop (tBM0 K "list" rReverse (tVar 4))) (tRet (tIf (tB (tCB (rIsi K) (tCons (tVar 1) (tCons (tC (.ty "tuple")) tNil)))) (tVar 4) (tThen (tVar 4) (kTup K)))))))) (t__law_otherwise__1_0 K))
theorem s__law_otherwise__1_1 (K : PySem.W.Frag) : SndS K (t__law_otherwise__1_1 K) 8 f__law_otherwise__1_1 := by
  unfold f__law_otherwise__1_1
  exact (snds_seq (snds_if (sndt_test (snd_op ops_C snd_var snd_int)) (snds_put (snd_call (m__law_otherwise__0 K) (snda_box (snda_cons (snd_op ops_ix snd_var snd_var) snda_nil))) snd_var) (snds_if (sndt_test (snd_op ops_eq snd_var snd_int)) (snds_popAt snd_var) (snds_if (sndt_test (snd_op ops_eq snd_var snd_int)) (snds_ins snd_var (snd_op ops_ix snd_var snd_var)) (snds_if (sndt_test (snd_op ops_eq snd_var snd_int)) snds_rev (snds_retIf (sndt_B (snd_isi (t := .tuple) snd_var)) snds_retO (snds_ret (snd_tupOf sndV_var))))))) (s__law_otherwise__1_0 K))
@[irreducible] def f__law_otherwise__1_2 : FS := (sRet (eCall F__law_odd (aBox 0 aNil)))
def t__law_otherwise__1_2 (K : PySem.W.Frag) : TS := (tRet (tCallG (spD K 1 F__law_odd) (tCons (tVar 0) tNil)))
theorem s__law_otherwise__1_2 (K : PySem.W.Frag) : SndS K (t__law_otherwise__1_2 K) 1 f__law_otherwise__1_2 := by
  unfold f__law_otherwise__1_2
  exact (snds_ret (snd_call (m__law_odd K) (snda_box snda_nil)))
@[irreducible] def f__law_otherwise__1_3 : FS := (sSeq (sIf (fAnd (fTest (eIsi .str (eVar 1))) (fTest (eBin (gC fun i j => decide (j < i)) (eCall F_take (aBox 0 (aCons (eC (.int 4)) aNil))) (eC (.int 0))))) (sRet (eBin gIx (eLst (dCons (eBin gAddS (eVar 1) (eC (.str "s"))) (dCons (eCutS (eVar 1) 1) (dCons (eUpper (eVar 1)) (dCons (eBin gAddS (eVar 1) (eC (.str " "))) (dCons (eTup (dCons (eVar 1) dNil)) (dCons (eRevS (eVar 1)) dNil))))))) (eCall F_take (aBox 0 (aCons (eC (.int 6)) aNil))))) sSkip) f__law_otherwise__1_2)
def t__law_otherwise__1_3 (K : PySem.W.Frag) : TS := (tSeq (tIfS (tAnd (tB (tCB (rIsi K) (tCons (tVar 1) (tCons (tC (.ty "str")) tNil)))) (tTest (tOp (rI0 fun i j => .bl (decide (j < i))) (tCallG (spD K 1 F_take) (tCons (tVar 0) (tCons (tC (.int 4)) tNil))) (tC (.int 0))))) (tRet (tOp (rIx K) (tLst (tCons (tOp rAddS (tVar 1) (tC (.str "s"))) (tCons (tSl rSlS (tVar 1) (tPart (tC (.int (1 : Int)))) tNoPart) (tCons (tM0 rUpper (tVar 1)) (tCons (tOp rAddS (tVar 1) (tC (.str " "))) (tCons (tTup (tCons (tVar 1) tNil)) (tCons (tRevS (tVar 1)) tNil))))))) (tCallG (spD K 1 F_take) (tCons (tVar 0) (tCons (tC (.int 6)) tNil))))) tNext) (t__law_otherwise__1_2 K))
theorem s__law_otherwise__1_3 (K : PySem.W.Frag) : SndS K (t__law_otherwise__1_3 K) 3 f__law_otherwise__1_3 := by
  unfold f__law_otherwise__1_3
  exact (snds_seq (snds_if (sndt_and (sndt_B (snd_isi (t := .str) snd_var)) (sndt_test (snd_op ops_C (snd_call m_take (snda_box (snda_cons snd_int snda_nil))) snd_int))) (snds_ret (snd_op ops_ix (SndL.d (sndl_lst (sndd_cons (snd_op ops_addS snd_var snd_str) (sndd_cons (snd_cutS (n := 1) snd_var) (sndd_cons (snd_upper snd_var) (sndd_cons (snd_op ops_addS snd_var snd_str) (sndd_cons (snd_tup (sndd_cons snd_var sndd_nil) (by decide)) (sndd_cons (snd_revS snd_var) sndd_nil)))))) (by decide))) (snd_call m_take (snda_box (snda_cons snd_int snda_nil))))) snds_nil) (s__law_otherwise__1_2 K))
@[irreducible] def f__law_otherwise__1_4 : FS := (sSeq (sIf (fAnd (fTest (eIsi .int (eVar 1))) (fAnd (fNot (fTest (eIsi .bool (eVar 1)))) (fTest (eBin (gC fun i j => decide (j < i)) (eCall F_take (aBox 0 (aCons (eC (.int 4)) aNil))) (eC (.int 0)))))) (sRet (eBin gIx (eLst (dCons (eBin gAdd (eVar 1) (eC (.int 1))) (dCons (eBin (gI fun i j => i - j) (eVar 1) (eC (.int 1))) (dCons (eC (.int 0)) (dCons (eUn negD (eVar 1)) (dCons (eBin gEq (eVar 1) (eC (.int 1))) (dCons (eStrI (eVar 1)) (dCons (eC .none) dNil)))))))) (eCall F_take (aBox 0 (aCons (eC (.int 7)) aNil))))) sSkip) f__law_otherwise__1_3)
def t__law_otherwise__1_4 (K : PySem.W.Frag) : TS := (tSeq (tIfS (tAnd (tB (tCB (rIsi K) (tCons (tVar 1) (tCons (tC (.ty "int")) tNil)))) (tAnd (tNot (tB (tCB (rIsi K) (tCons (tVar 1) (tCons (tC (.ty "bool")) tNil))))) (tTest (tOp (rI0 fun i j => .bl (decide (j < i))) (tCallG (spD K 1 F_take) (tCons (tVar 0) (tCons (tC (.int 4)) tNil))) (tC (.int 0)))))) (tRet (tOp (rIx K) (tLst (tCons (tOp (rAdd K) (tVar 1) (tC (.int 1))) (tCons (tOp (rI0 fun i j => .int (i - j)) (tVar 1) (tC (.int 1))) (tCons (tC (.int 0)) (tCons (tUn (rU fun i => .int (-i)) (tVar 1)) (tCons (tOp (rEqX K) (tVar 1) (tC (.int 1))) (tCons (tCB (fun xs H Q => ∃ i, xs = [.int i] ∧ i.natAbs.log2 < 1920 ∧ Q (.str (Str.ofString (toString i))) H) (tCons (tVar 1) tNil)) (tCons (tC .non) tNil)))))))) (tCallG (spD K 1 F_take) (tCons (tVar 0) (tCons (tC (.int 7)) tNil))))) tNext) (t__law_otherwise__1_3 K))
theorem s__law_otherwise__1_4 (K : PySem.W.Frag) : SndS K (t__law_otherwise__1_4 K) 5 f__law_otherwise__1_4 := by
  unfold f__law_otherwise__1_4
  exact (snds_seq (snds_if (sndt_and (sndt_B (snd_isi (t := .int) snd_var)) (sndt_and (sndt_not (sndt_B (snd_isi (t := .bool) snd_var))) (sndt_test (snd_op ops_C (snd_call m_take (snda_box (snda_cons snd_int snda_nil))) snd_int)))) (snds_ret (snd_op ops_ix (SndL.d (sndl_lst (sndd_cons (snd_op ops_add snd_var snd_int) (sndd_cons (snd_op ops_I snd_var snd_int) (sndd_cons snd_int (sndd_cons (snd_un us_neg snd_var) (sndd_cons (snd_op ops_eq snd_var snd_int) (sndd_cons (snd_strI snd_var) (sndd_cons snd_non sndd_nil))))))) (by decide))) (snd_call m_take (snda_box (snda_cons snd_int snda_nil))))) snds_nil) (s__law_otherwise__1_3 K))
def f__law_otherwise__1 : FS := (sSeq (sIf (fAnd (fTest (eIsiLT (eVar 1))) (fAnd (fTest (eBin (gC fun i j => decide (j < i)) (eCB (g1 lenD) (dCons (eVar 1) dNil)) (eC (.int 0)))) (fTest (eBin (gC fun i j => decide (j < i)) (eCall F_take (aBox 0 (aCons (eC (.int 6)) aNil))) (eC (.int 0)))))) (sSeq (sPar3O 2 3 4 (eCall F_take (aBox 0 (aCons (eCB (g1 lenD) (dCons (eVar 1) dNil)) aNil))) (eCall F_take (aBox 0 (aCons (eC (.int 10)) aNil))) (fListOf (eVar 1))) f__law_otherwise__1_1) sSkip) f__law_otherwise__1_4)
@[irreducible] def F__law_otherwise__1 : FF := mkF 2 5 f__law_otherwise__1
def t__law_otherwise__1 (K : PySem.W.Frag) : TS := (tSeq (tIfS (tAnd (tB (tCB (rIsiT K) (tCons (tVar 1) (tCons (tTup (tCons (tC (.ty "list")) (tCons (tC (.ty "tuple")) tNil))) tNil)))) (tAnd (tTest (tOp (rI0 fun i j => .bl (decide (j < i))) (tCB (fun xs H Q => ∃ x n, xs = [x] ∧ LenV K x H n ∧ Q (.int n) H) (tCons (tVar 1) tNil)) (tC (.int 0)))) (tTest (tOp (rI0 fun i j => .bl (decide (j < i))) (tCallG (spD K 1 F_take) (tCons (tVar 0) (tCons (tC (.int 6)) tNil))) (tC (.int 0)))))) (tSeq (tPar3 2 3 4 (tCons (tCallG (spD K 1 F_take) (tCons (tVar 0) (tCons (tCB (fun xs H Q => ∃ x n, xs = [x] ∧ LenV K x H n ∧ Q (.int n) H) (tCons (tVar 1) tNil)) tNil))) (tCons (tCallG (spD K 1 F_take) (tCons (tVar 0) (tCons (tC (.int 10)) tNil))) (tCons (tCB (fun xs H Q => ∃ p ys, xs = [.ref p] ∧ (SqL K H p ys ∨ SqT K H p ys) ∧ ∀ l, H l = none → Q (.ref l) (upd H l (.lst ys))) (tCons (tVar 1) tNil)) tNil)))) (t__law_otherwise__1_1 K)) tNext) (t__law_otherwise__1_4 K))
theorem s__law_otherwise__1 (K : PySem.W.Frag) : SndS K (t__law_otherwise__1 K) 16 f__law_otherwise__1 := (snds_seq (snds_if (sndt_and (sndt_B (snd_isiLT snd_var)) (sndt_and (sndt_test (snd_op ops_C (snd_cb cs_len (sndd_cons snd_var sndd_nil)) snd_int)) (sndt_test (snd_op ops_C (snd_call m_take (snda_box (snda_cons snd_int snda_nil))) snd_int)))) (snds_seq (snds_par3O (snd_call m_take (snda_box (snda_cons (snd_cb cs_len (sndd_cons snd_var sndd_nil)) snda_nil))) (snd_call m_take (snda_box (snda_cons snd_int snda_nil))) (sndl_listOf snd_var)) (s__law_otherwise__1_1 K)) snds_nil) (s__law_otherwise__1_4 K))
theorem m__law_otherwise__1 (K : PySem.W.Frag) : MonoF F__law_otherwise__1 := by
  unfold F__law_otherwise__1
  exact mkF_mono (s__law_otherwise__1 K)
end Kd
namespace Kd
open PySem PySem.Spec PyProof.Rows L2 Xg Dv
@[irreducible] def f__law_otherwise__2_0 : FS := (sIf (fTest (eIsi .list (eVar 1))) (sRetO 4) (sRet (eUn tupD (eVarV 4))))
def t__law_otherwise__2_0 (K : PySem.W.Frag) : TS := (tRet (tIf (tB (tCB (rIsi K) (tCons (tVar 1) (tCons (tC (.ty "list")) tNil)))) (tVar 4) (tThen (tVar 4) (kTup K))))
theorem s__law_otherwise__2_0 (K : PySem.W.Frag) : SndS K (t__law_otherwise__2_0 K) 0 f__law_otherwise__2_0 := by
  unfold f__law_otherwise__2_0
  exact (snds_retIf (sndt_B (snd_isi (t := .list) snd_var)) snds_retO (snds_ret (snd_tupOf sndV_var)))
@[irreducible] def f__law_otherwise__2_1 : FS := (sSeq (sIf (fTest (eBin (gC fun i j => decide (i < j)) (eVar 3) (eC (.int 6)))) (sPut 4 (eVar 2) (eCall F__law_otherwise__1 (aBox 0 (aCons (eBin gIx (eVar 1) (eVar 2)) aNil)))) (sIf (fTest (eBin gEq (eVar 3) (eC (.int 6)))) (sPopAt 4 (eVar 2)) (sIf (fTest (eBin gEq (eVar 3) (eC (.int 7)))) (sIns 4 (eVar 2) (eBin gIx (eVar 1) (eVar 2))) (sIf (fTest (eBin gEq (eVar 3) (eC (.int 8)))) (sMeth 4 List.reverse) (sIf (fTest (eIsi .tuple (eVar 1))) (sRetO 4) (sRet (eUn tupD (eVarV 4)))))))) f__law_otherwise__2_0)
def t__law_otherwise__2_1 (K : PySem.W.Frag) : TS := (tSeq (tIfS (tTest (tOp (rI0 fun i j => .bl (decide (i < j))) (tVar 3) (tC (.int 6)))) (tAsg (tCallG (spD K 16 F__law_otherwise__1) (tCons (tVar 0) (tCons (tOp (rIx K) (tVar 1) (tVar 2)) tNil))) (gSub (tVar 4) (tVar 2) rSetL)) (tIfS (tTest (tOp (rEqX K) (tVar 3) (tC (.int 6)))) (tDrop (tBM K "list" rPopAt (tVar 4) (tCons (tVar 2) tNil))) (tIfS (tTest (tOp (rEqX K) (tVar 3) (tC (.int 7)))) (tDrop (tBM K "list" rIns (tVar 4) (tCons (tVar 2) (tCons (tOp (rIx K) (tVar 1) (tVar 2)) tNil)))) (tIfS (tTest (tOp (rEqX K) (tVar 3) (tC (.int 8)))) (tDrop (tBM0 K "list" rReverse (tVar 4))) (tRet (tIf (tB (tCB (rIsi K) (tCons (tVar 1) (tCons (tC (.ty "tuple")) tNil)))) (tVar 4) (tThen (tVar 4) (kTup K)))))))) (t__law_otherwise__2_0 K))
theorem s__law_otherwise__2_1 (K : PySem.W.Frag) : SndS K (t__law_otherwise__2_1 K) 16 f__law_otherwise__2_1 := by
  unfold f__law_otherwise__2_1
  exact (snds_seq (snds_if (sndt_test (snd_op ops_C snd_var snd_int)) (snds_put (snd_call (m__law_otherwise__1 K) (snda_box (snda_cons (snd_op ops_ix snd_var snd_var) snda_nil))) snd_var) (snds_if (sndt_test (snd_op ops_eq snd_var snd_int)) (snds_popAt snd_var) (snds_if (sndt_test (snd_op ops_eq snd_var snd_int)) (snds_ins snd_var (snd_op ops_ix snd_var snd_var)) (snds_if (sndt_test (snd_op ops_eq snd_var snd_int)) snds_rev (snds_retIf (sndt_B (snd_isi (t := .tuple) snd_var)) snds_retO (snds_ret (snd_tupOf sndV_var))))))) (s__law_otherwise__2_0 K))
@[irreducible] def f__law_otherwise__2_2 : FS := (sRet (eCall F__law_odd (aBox 0 aNil)))
def t__law_otherwise__2_2 (K : PySem.W.Frag) : TS := (tRet (tCallG (spD K 1 F__law_odd) (tCons (tVar 0) tNil)))
theorem s__law_otherwise__2_2 (K : PySem.W.Frag) : SndS K (t__law_otherwise__2_2 K) 1 f__law_otherwise__2_2 := by
  unfold f__law_otherwise__2_2
  exact (snds_ret (snd_call (m__law_odd K) (snda_box snda_nil)))
@[irreducible] def f__law_otherwise__2_3 : FS := (sSeq (sIf (fAnd (fTest (eIsi .str (eVar 1))) (fTest (eBin (gC fun i j => decide (j < i)) (eCall F_take (aBox 0 (aCons (eC (.int 4)) aNil))) (eC (.int 0))))) (sRet (eBin gIx (eLst (dCons (eBin gAddS (eVar 1) (eC (.str "s"))) (dCons (eCutS (eVar 1) 1) (dCons (eUpper (eVar 1)) (dCons (eBin gAddS (eVar 1) (eC (.str " "))) (dCons (eTup (dCons (eVar 1) dNil)) (dCons (eRevS (eVar 1)) dNil))))))) (eCall F_take (aBox 0 (aCons (eC (.int 6)) aNil))))) sSkip) f__law_otherwise__2_2)
def t__law_otherwise__2_3 (K : PySem.W.Frag) : TS := (tSeq (tIfS (tAnd (tB (tCB (rIsi K) (tCons (tVar 1) (tCons (tC (.ty "str")) tNil)))) (tTest (tOp (rI0 fun i j => .bl (decide (j < i))) (tCallG (spD K 1 F_take) (tCons (tVar 0) (tCons (tC (.int 4)) tNil))) (tC (.int 0))))) (tRet (tOp (rIx K) (tLst (tCons (tOp rAddS (tVar 1) (tC (.str "s"))) (tCons (tSl rSlS (tVar 1) (tPart (tC (.int (1 : Int)))) tNoPart) (tCons (tM0 rUpper (tVar 1)) (tCons (tOp rAddS (tVar 1) (tC (.str " "))) (tCons (tTup (tCons (tVar 1) tNil)) (tCons (tRevS (tVar 1)) tNil))))))) (tCallG (spD K 1 F_take) (tCons (tVar 0) (tCons (tC (.int 6)) tNil))))) tNext) (t__law_otherwise__2_2 K))
theorem s__law_otherwise__2_3 (K : PySem.W.Frag) : SndS K (t__law_otherwise__2_3 K) 3 f__law_otherwise__2_3 := by
  unfold f__law_otherwise__2_3
  exact (snds_seq (snds_if (sndt_and (sndt_B (snd_isi (t := .str) snd_var)) (sndt_test (snd_op ops_C (snd_call m_take (snda_box (snda_cons snd_int snda_nil))) snd_int))) (snds_ret (snd_op ops_ix (SndL.d (sndl_lst (sndd_cons (snd_op ops_addS snd_var snd_str) (sndd_cons (snd_cutS (n := 1) snd_var) (sndd_cons (snd_upper snd_var) (sndd_cons (snd_op ops_addS snd_var snd_str) (sndd_cons (snd_tup (sndd_cons snd_var sndd_nil) (by decide)) (sndd_cons (snd_revS snd_var) sndd_nil)))))) (by decide))) (snd_call m_take (snda_box (snda_cons snd_int snda_nil))))) snds_nil) (s__law_otherwise__2_2 K))
@[irreducible] def f__law_otherwise__2_4 : FS := (sSeq (sIf (fAnd (fTest (eIsi .int (eVar 1))) (fAnd (fNot (fTest (eIsi .bool (eVar 1)))) (fTest (eBin (gC fun i j => decide (j < i)) (eCall F_take (aBox 0 (aCons (eC (.int 4)) aNil))) (eC (.int 0)))))) (sRet (eBin gIx (eLst (dCons (eBin gAdd (eVar 1) (eC (.int 1))) (dCons (eBin (gI fun i j => i - j) (eVar 1) (eC (.int 1))) (dCons (eC (.int 0)) (dCons (eUn negD (eVar 1)) (dCons (eBin gEq (eVar 1) (eC (.int 1))) (dCons (eStrI (eVar 1)) (dCons (eC .none) dNil)))))))) (eCall F_take (aBox 0 (aCons (eC (.int 7)) aNil))))) sSkip) f__law_otherwise__2_3)
def t__law_otherwise__2_4 (K : PySem.W.Frag) : TS := (tSeq (tIfS (tAnd (tB (tCB (rIsi K) (tCons (tVar 1) (tCons (tC (.ty "int")) tNil)))) (tAnd (tNot (tB (tCB (rIsi K) (tCons (tVar 1) (tCons (tC (.ty "bool")) tNil))))) (tTest (tOp (rI0 fun i j => .bl (decide (j < i))) (tCallG (spD K 1 F_take) (tCons (tVar 0) (tCons (tC (.int 4)) tNil))) (tC (.int 0)))))) (tRet (tOp (rIx K) (tLst (tCons (tOp (rAdd K) (tVar 1) (tC (.int 1))) (tCons (tOp (rI0 fun i j => .int (i - j)) (tVar 1) (tC (.int 1))) (tCons (tC (.int 0)) (tCons (tUn (rU fun i => .int (-i)) (tVar 1)) (tCons (tOp (rEqX K) (tVar 1) (tC (.int 1))) (tCons (tCB (fun xs H Q => ∃ i, xs = [.int i] ∧ i.natAbs.log2 < 1920 ∧ Q (.str (Str.ofString (toString i))) H) (tCons (tVar 1) tNil)) (tCons (tC .non) tNil)))))))) (tCallG (spD K 1 F_take) (tCons (tVar 0) (tCons (tC (.int 7)) tNil))))) tNext) (t__law_otherwise__2_3 K))
theorem s__law_otherwise__2_4 (K : PySem.W.Frag) : SndS K (t__law_otherwise__2_4 K) 5 f__law_otherwise__2_4 := by
  unfold f__law_otherwise__2_4
  exact (snds_seq (snds_if (sndt_and (sndt_B (snd_isi (t := .int) snd_var)) (sndt_and (sndt_not (sndt_B (snd_isi (t := .bool) snd_var))) (sndt_test (snd_op ops_C (snd_call m_take (snda_box (snda_cons snd_int snda_nil))) snd_int)))) (snds_ret (snd_op ops_ix (SndL.d (sndl_lst (sndd_cons (snd_op ops_add snd_var snd_int) (sndd_cons (snd_op ops_I snd_var snd_int) (sndd_cons snd_int (sndd_cons (snd_un us_neg snd_var) (sndd_cons (snd_op ops_eq snd_var snd_int) (sndd_cons (snd_strI snd_var) (sndd_cons snd_non sndd_nil))))))) (by decide))) (snd_call m_take (snda_box (snda_cons snd_int snda_nil))))) snds_nil) (s__law_otherwise__2_3 K))
def f__law_otherwise__2 : FS := (sSeq (sIf (fAnd (fTest (eIsiLT (eVar 1))) (fAnd (fTest (eBin (gC fun i j => decide (j < i)) (eCB (g1 lenD) (dCons (eVar 1) dNil)) (eC (.int 0)))) (fTest (eBin (gC fun i j => decide (j < i)) (eCall F_take (aBox 0 (aCons (eC (.int 6)) aNil))) (eC (.int 0)))))) (sSeq (sPar3O 2 3 4 (eCall F_take (aBox 0 (aCons (eCB (g1 lenD) (dCons (eVar 1) dNil)) aNil))) (eCall F_take (aBox 0 (aCons (eC (.int 10)) aNil))) (fListOf (eVar 1))) f__law_otherwise__2_1) sSkip) f__law_otherwise__2_4)
@[irreducible] def F__law_otherwise__2 : FF := mkF 2 5 f__law_otherwise__2
def t__law_otherwise__2 (K : PySem.W.Frag) : TS := (tSeq (tIfS (tAnd (tB (tCB (rIsiT K) (tCons (tVar 1) (tCons (tTup (tCons (tC (.ty "list")) (tCons (tC (.ty "tuple")) tNil))) tNil)))) (tAnd (tTest (tOp (rI0 fun i j => .bl (decide (j < i))) (tCB (fun xs H Q => ∃ x n, xs = [x] ∧ LenV K x H n ∧ Q (.int n) H) (tCons (tVar 1) tNil)) (tC (.int 0)))) (tTest (tOp (rI0 fun i j => .bl (decide (j < i))) (tCallG (spD K 1 F_take) (tCons (tVar 0) (tCons (tC (.int 6)) tNil))) (tC (.int 0)))))) (tSeq (tPar3 2 3 4 (tCons (tCallG (spD K 1 F_take) (tCons (tVar 0) (tCons (tCB (fun xs H Q => ∃ x n, xs = [x] ∧ LenV K x H n ∧ Q (.int n) H) (tCons (tVar 1) tNil)) tNil))) (tCons (tCallG (spD K 1 F_take) (tCons (tVar 0) (tCons (tC (.int 10)) tNil))) (tCons (tCB (fun xs H Q => ∃ p ys, xs = [.ref p] ∧ (SqL K H p ys ∨ SqT K H p ys) ∧ ∀ l, H l = none → Q (.ref l) (upd H l (.lst ys))) (tCons (tVar 1) tNil)) tNil)))) (t__law_otherwise__2_1 K)) tNext) (t__law_otherwise__2_4 K))
theorem s__law_otherwise__2 (K : PySem.W.Frag) : SndS K (t__law_otherwise__2 K) 24 f__law_otherwise__2 := (snds_seq (snds_if (sndt_and (sndt_B (snd_isiLT snd_var)) (sndt_and (sndt_test (snd_op ops_C (snd_cb cs_len (sndd_cons snd_var sndd_nil)) snd_int)) (sndt_test (snd_op ops_C (snd_call m_take (snda_box (snda_cons snd_int snda_nil))) snd_int)))) (snds_seq (snds_par3O (snd_call m_take (snda_box (snda_cons (snd_cb cs_len (sndd_cons snd_var sndd_nil)) snda_nil))) (snd_call m_take (snda_box (snda_cons snd_int snda_nil))) (sndl_listOf snd_var)) (s__law_otherwise__2_1 K)) snds_nil) (s__law_otherwise__2_4 K))
theorem m__law_otherwise__2 (K : PySem.W.Frag) : MonoF F__law_otherwise__2 := by
  unfold F__law_otherwise__2
  exact mkF_mono (s__law_otherwise__2 K)
end Kd
namespace Kd
open PySem PySem.Spec PyProof.Rows L2 Xg Dv
@[irreducible] def f__law_otherwise__3_0 : FS := (sIf (fTest (eIsi .list (eVar 1))) (sRetO 4) (sRet (eUn tupD (eVarV 4))))
def t__law_otherwise__3_0 (K : PySem.W.Frag) : TS := (tRet (tIf (tB (tCB (rIsi K) (tCons (tVar 1) (tCons (tC (.ty "list")) tNil)))) (tVar 4) (tThen (tVar 4) (kTup K))))
theorem s__law_otherwise__3_0 (K : PySem.W.Frag) : SndS K (t__law_otherwise__3_0 K) 0 f__law_otherwise__3_0 := by
  unfold f__law_otherwise__3_0
  exact (snds_retIf (sndt_B (snd_isi (t := .list) snd_var)) snds_retO (snds_ret (snd_tupOf sndV_var)))
@[irreducible] def f__law_otherwise__3_1 : FS := (sSeq (sIf (fTest (eBin (gC fun i j => decide (i < j)) (eVar 3) (eC (.int 6)))) (sPut 4 (eVar 2) (eCall F__law_otherwise__2 (aBox 0 (aCons (eBin gIx (eVar 1) (eVar 2)) aNil)))) (sIf (fTest (eBin gEq (eVar 3) (eC (.int 6)))) (sPopAt 4 (eVar 2)) (sIf (fTest (eBin gEq (eVar 3) (eC (.int 7)))) (sIns 4 (eVar 2) (eBin gIx (eVar 1) (eVar 2))) (sIf (fTest (eBin gEq (eVar 3) (eC (.int 8)))) (sMeth 4 List.reverse) (sIf (fTest (eIsi .tuple (eVar 1))) (sRetO 4) (sRet (eUn tupD (eVarV 4)))))))) f__law_otherwise__3_0)
def t__law_otherwise__3_1 (K : PySem.W.Frag) : TS := (tSeq (tIfS (tTest (tOp (rI0 fun i j => .bl (decide (i < j))) (tVar 3) (tC (.int 6)))) (tAsg (tCallG (spD K 24 F__law_otherwise__2) (tCons (tVar 0) (tCons (tOp (rIx K) (tVar 1) (tVar 2)) tNil))) (gSub (tVar 4) (tVar 2) rSetL)) (tIfS (tTest (tOp (rEqX K) (tVar 3) (tC (.int 6)))) (tDrop (tBM K "list" rPopAt (tVar 4) (tCons (tVar 2) tNil))) (tIfS (tTest (tOp (rEqX K) (tVar 3) (tC (.int 7)))) (tDrop (tBM K "list" rIns (tVar 4) (tCons (tVar 2) (tCons (tOp (rIx K) (tVar 1) (tVar 2)) tNil)))) (tIfS (tTest (tOp (rEqX K) (tVar 3) (tC (.int 8)))) (tDrop (tBM0 K "list" rReverse (tVar 4))) (tRet (tIf (tB (tCB (rIsi K) (tCons (tVar 1) (tCons (tC (.ty "tuple")) tNil)))) (tVar 4) (tThen (tVar 4) (kTup K)))))))) (t__law_otherwise__3_0 K))
theorem s__law_otherwise__3_1 (K : PySem.W.Frag) : SndS K (t__law_otherwise__3_1 K) 24 f__law_otherwise__3_1 := by
  unfold f__law_otherwise__3_1
  exact (snds_seq (snds_if (sndt_test (snd_op ops_C snd_var snd_int)) (snds_put (snd_call (m__law_otherwise__2 K) (snda_box (snda_cons (snd_op ops_ix snd_var snd_var) snda_nil))) snd_var) (snds_if (sndt_test (snd_op ops_eq snd_var snd_int)) (snds_popAt snd_var) (snds_if (sndt_test (snd_op ops_eq snd_var snd_int)) (snds_ins snd_var (snd_op ops_ix snd_var snd_var)) (snds_if (sndt_test (snd_op ops_eq snd_var snd_int)) snds_rev (snds_retIf (sndt_B (snd_isi (t := .tuple) snd_var)) snds_retO (snds_ret (snd_tupOf sndV_var))))))) (s__law_otherwise__3_0 K))
@[irreducible] def f__law_otherwise__3_2 : FS := (sRet (eCall F__law_odd (aBox 0 aNil)))
def t__law_otherwise__3_2 (K : PySem.W.Frag) : TS := (tRet (tCallG (spD K 1 F__law_odd) (tCons (tVar 0) tNil)))
theorem s__law_otherwise__3_2 (K : PySem.W.Frag) : SndS K (t__law_otherwise__3_2 K) 1 f__law_otherwise__3_2 := by
  unfold f__law_otherwise__3_2
  exact (snds_ret (snd_call (m__law_odd K) (snda_box snda_nil)))
@[irreducible] def f__law_otherwise__3_3 : FS := (sSeq (sIf (fAnd (fTest (eIsi .str (eVar 1))) (fTest (eBin (gC fun i j => decide (j < i)) (eCall F_take (aBox 0 (aCons (eC (.int 4)) aNil))) (eC (.int 0))))) (sRet (eBin gIx (eLst (dCons (eBin gAddS (eVar 1) (eC (.str "s"))) (dCons (eCutS (eVar 1) 1) (dCons (eUpper (eVar 1)) (dCons (eBin gAddS (eVar 1) (eC (.str " "))) (dCons (eTup (dCons (eVar 1) dNil)) (dCons (eRevS (eVar 1)) dNil))))))) (eCall F_take (aBox 0 (aCons (eC (.int 6)) aNil))))) sSkip) f__law_otherwise__3_2)
def t__law_otherwise__3_3 (K : PySem.W.Frag) : TS := (tSeq (tIfS (tAnd (tB (tCB (rIsi K) (tCons (tVar 1) (tCons (tC (.ty "str")) tNil)))) (tTest (tOp (rI0 fun i j => .bl (decide (j < i))) (tCallG (spD K 1 F_take) (tCons (tVar 0) (tCons (tC (.int 4)) tNil))) (tC (.int 0))))) (tRet (tOp (rIx K) (tLst (tCons (tOp rAddS (tVar 1) (tC (.str "s"))) (tCons (tSl rSlS (tVar 1) (tPart (tC (.int (1 : Int)))) tNoPart) (tCons (tM0 rUpper (tVar 1)) (tCons (tOp rAddS (tVar 1) (tC (.str " "))) (tCons (tTup (tCons (tVar 1) tNil)) (tCons (tRevS (tVar 1)) tNil))))))) (tCallG (spD K 1 F_take) (tCons (tVar 0) (tCons (tC (.int 6)) tNil))))) tNext) (t__law_otherwise__3_2 K))
theorem s__law_otherwise__3_3 (K : PySem.W.Frag) : SndS K (t__law_otherwise__3_3 K) 3 f__law_otherwise__3_3 := by
  unfold f__law_otherwise__3_3
  exact (snds_seq (snds_if (sndt_and (sndt_B (snd_isi (t := .str) snd_var)) (sndt_test (snd_op ops_C (snd_call m_take (snda_box (snda_cons snd_int snda_nil))) snd_int))) (snds_ret (snd_op ops_ix (SndL.d (sndl_lst (sndd_cons (snd_op ops_addS snd_var snd_str) (sndd_cons (snd_cutS (n := 1) snd_var) (sndd_cons (snd_upper snd_var) (sndd_cons (snd_op ops_addS snd_var snd_str) (sndd_cons (snd_tup (sndd_cons snd_var sndd_nil) (by decide)) (sndd_cons (snd_revS snd_var) sndd_nil)))))) (by decide))) (snd_call m_take (snda_box (snda_cons snd_int snda_nil))))) snds_nil) (s__law_otherwise__3_2 K))
@[irreducible] def f__law_otherwise__3_4 : FS := (sSeq (sIf (fAnd (fTest (eIsi .int (eVar 1))) (fAnd (fNot (fTest (eIsi .bool (eVar 1)))) (fTest (eBin (gC fun i j => decide (j < i)) (eCall F_take (aBox 0 (aCons (eC (.int 4)) aNil))) (eC (.int 0)))))) (sRet (eBin gIx (eLst (dCons (eBin gAdd (eVar 1) (eC (.int 1))) (dCons (eBin (gI fun i j => i - j) (eVar 1) (eC (.int 1))) (dCons (eC (.int 0)) (dCons (eUn negD (eVar 1)) (dCons (eBin gEq (eVar 1) (eC (.int 1))) (dCons (eStrI (eVar 1)) (dCons (eC .none) dNil)))))))) (eCall F_take (aBox 0 (aCons (eC (.int 7)) aNil))))) sSkip) f__law_otherwise__3_3)
def t__law_otherwise__3_4 (K : PySem.W.Frag) : TS := (tSeq (tIfS (tAnd (tB (tCB (rIsi K) (tCons (tVar 1) (tCons (tC (.ty "int")) tNil)))) (tAnd (tNot (tB (tCB (rIsi K) (tCons (tVar 1) (tCons (tC (.ty "bool")) tNil))))) (tTest (tOp (rI0 fun i j => .bl (decide (j < i))) (tCallG (spD K 1 F_take) (tCons (tVar 0) (tCons (tC (.int 4)) tNil))) (tC (.int 0)))))) (tRet (tOp (rIx K) (tLst (tCons (tOp (rAdd K) (tVar 1) (tC (.int 1))) (tCons (tOp (rI0 fun i j => .int (i - j)) (tVar 1) (tC (.int 1))) (tCons (tC (.int 0)) (tCons (tUn (rU fun i => .int (-i)) (tVar 1)) (tCons (tOp (rEqX K) (tVar 1) (tC (.int 1))) (tCons (tCB (fun xs H Q => ∃ i, xs = [.int i] ∧ i.natAbs.log2 < 1920 ∧ Q (.str (Str.ofString (toString i))) H) (tCons (tVar 1) tNil)) (tCons (tC .non) tNil)))))))) (tCallG (spD K 1 F_take) (tCons (tVar 0) (tCons (tC (.int 7)) tNil))))) tNext) (t__law_otherwise__3_3 K))
theorem s__law_otherwise__3_4 (K : PySem.W.Frag) : SndS K (t__law_otherwise__3_4 K) 5 f__law_otherwise__3_4 := by
  unfold f__law_otherwise__3_4
  exact (snds_seq (snds_if (sndt_and (sndt_B (snd_isi (t := .int) snd_var)) (sndt_and (sndt_not (sndt_B (snd_isi (t := .bool) snd_var))) (sndt_test (snd_op ops_C (snd_call m_take (snda_box (snda_cons snd_int snda_nil))) snd_int)))) (snds_ret (snd_op ops_ix (SndL.d (sndl_lst (sndd_cons (snd_op ops_add snd_var snd_int) (sndd_cons (snd_op ops_I snd_var snd_int) (sndd_cons snd_int (sndd_cons (snd_un us_neg snd_var) (sndd_cons (snd_op ops_eq snd_var snd_int) (sndd_cons (snd_strI snd_var) (sndd_cons snd_non sndd_nil))))))) (by decide))) (snd_call m_take (snda_box (snda_cons snd_int snda_nil))))) snds_nil) (s__law_otherwise__3_3 K))
def f__law_otherwise__3 : FS := (sSeq (sIf (fAnd (fTest (eIsiLT (eVar 1))) (fAnd (fTest (eBin (gC fun i j => decide (j < i)) (eCB (g1 lenD) (dCons (eVar 1) dNil)) (eC (.int 0)))) (fTest (eBin (gC fun i j => decide (j < i)) (eCall F_take (aBox 0 (aCons (eC (.int 6)) aNil))) (eC (.int 0)))))) (sSeq (sPar3O 2 3 4 (eCall F_take (aBox 0 (aCons (eCB (g1 lenD) (dCons (eVar 1) dNil)) aNil))) (eCall F_take (aBox 0 (aCons (eC (.int 10)) aNil))) (fListOf (eVar 1))) f__law_otherwise__3_1) sSkip) f__law_otherwise__3_4)
@[irreducible] def F__law_otherwise__3 : FF := mkF 2 5 f__law_otherwise__3
def t__law_otherwise__3 (K : PySem.W.Frag) : TS := (tSeq (tIfS (tAnd (tB (tCB (rIsiT K) (tCons (tVar 1) (tCons (tTup (tCons (tC (.ty "list")) (tCons (tC (.ty "tuple")) tNil))) tNil)))) (tAnd (tTest (tOp (rI0 fun i j => .bl (decide (j < i))) (tCB (fun xs H Q => ∃ x n, xs = [x] ∧ LenV K x H n ∧ Q (.int n) H) (tCons (tVar 1) tNil)) (tC (.int 0)))) (tTest (tOp (rI0 fun i j => .bl (decide (j < i))) (tCallG (spD K 1 F_take) (tCons (tVar 0) (tCons (tC (.int 6)) tNil))) (tC (.int 0)))))) (tSeq (tPar3 2 3 4 (tCons (tCallG (spD K 1 F_take) (tCons (tVar 0) (tCons (tCB (fun xs H Q => ∃ x n, xs = [x] ∧ LenV K x H n ∧ Q (.int n) H) (tCons (tVar 1) tNil)) tNil))) (tCons (tCallG (spD K 1 F_take) (tCons (tVar 0) (tCons (tC (.int 10)) tNil))) (tCons (tCB (fun xs H Q => ∃ p ys, xs = [.ref p] ∧ (SqL K H p ys ∨ SqT K H p ys) ∧ ∀ l, H l = none → Q (.ref l) (upd H l (.lst ys))) (tCons (tVar 1) tNil)) tNil)))) (t__law_otherwise__3_1 K)) tNext) (t__law_otherwise__3_4 K))
theorem s__law_otherwise__3 (K : PySem.W.Frag) : SndS K (t__law_otherwise__3 K) 32 f__law_otherwise__3 := (snds_seq (snds_if (sndt_and (sndt_B (snd_isiLT snd_var)) (sndt_and (sndt_test (snd_op ops_C (snd_cb cs_len (sndd_cons snd_var sndd_nil)) snd_int)) (sndt_test (snd_op ops_C (snd_call m_take (snda_box (snda_cons snd_int snda_nil))) snd_int)))) (snds_seq (snds_par3O (snd_call m_take (snda_box (snda_cons (snd_cb cs_len (sndd_cons snd_var sndd_nil)) snda_nil))) (snd_call m_take (snda_box (snda_cons snd_int snda_nil))) (sndl_listOf snd_var)) (s__law_otherwise__3_1 K)) snds_nil) (s__law_otherwise__3_4 K))
theorem m__law_otherwise__3 (K : PySem.W.Frag) : MonoF F__law_otherwise__3 := by
  unfold F__law_otherwise__3
  exact mkF_mono (s__law_otherwise__3 K)
end Kd
namespace Kd
open PySem PySem.Spec PyProof.Rows L2 Xg Dv
@[irreducible] def f__law_otherwise__4_0 : FS := (sIf (fTest (eIsi .list (eVar 1))) (sRetO 4) (sRet (eUn tupD (eVarV 4))))
def t__law_otherwise__4_0 (K : PySem.W.Frag) : TS := (tRet (tIf (tB (tCB (rIsi K) (tCons (tVar 1) (tCons (tC (.ty "list")) tNil)))) (tVar 4) (tThen (tVar 4) (kTup K))))
theorem s__law_otherwise__4_0 (K : PySem.W.Frag) : SndS K (t__law_otherwise__4_0 K) 0 f__law_otherwise__4_0 := by
  unfold f__law_otherwise__4_0
  exact (snds_retIf (sndt_B (snd_isi (t := .list) snd_var)) snds_retO (snds_ret (snd_tupOf sndV_var)))
@[irreducible] def f__law_otherwise__4_1 : FS := (sSeq (sIf (fTest (eBin (gC fun i j => decide (i < j)) (eVar 3) (eC (.int 6)))) (sPut 4 (eVar 2) (eCall F__law_otherwise__3 (aBox 0 (aCons (eBin gIx (eVar 1) (eVar 2)) aNil)))) (sIf (fTest (eBin gEq (eVar 3) (eC (.int 6)))) (sPopAt 4 (eVar 2)) (sIf (fTest (eBin gEq (eVar 3) (eC (.int 7)))) (sIns 4 (eVar 2) (eBin gIx (eVar 1) (eVar 2))) (sIf (fTest (eBin gEq (eVar 3) (eC (.int 8)))) (sMeth 4 List.reverse) (sIf (fTest (eIsi .tuple (eVar 1))) (sRetO 4) (sRet (eUn tupD (eVarV 4)))))))) f__law_otherwise__4_0)
def t__law_otherwise__4_1 (K : PySem.W.Frag) : TS := (tSeq (tIfS (tTest (tOp (rI0 fun i j => .bl (decide (i < j))) (tVar 3) (tC (.int 6)))) (tAsg (tCallG (spD K 32 F__law_otherwise__3) (tCons (tVar 0) (tCons (tOp (rIx K) (tVar 1) (tVar 2)) tNil))) (gSub (tVar 4) (tVar 2) rSetL)) (tIfS (tTest (tOp (rEqX K) (tVar 3) (tC (.int 6)))) (tDrop (tBM K "list" rPopAt (tVar 4) (tCons (tVar 2) tNil))) (tIfS (tTest (tOp (rEqX K) (tVar 3) (tC (.int 7)))) (tDrop (tBM K "list" rIns (tVar 4) (tCons (tVar 2) (tCons (tOp (rIx K) (tVar 1) (tVar 2)) tNil)))) (tIfS (tTest (tOp (rEqX K) (tVar 3) (tC (.int 8)))) (tDrop (tBM0 K "list" rReverse (tVar 4))) (tRet (tIf (tB (tCB (rIsi K) (tCons (tVar 1) (tCons (tC (.ty "tuple")) tNil)))) (tVar 4) (tThen (tVar 4) (kTup K)))))))) (t__law_otherwise__4_0 K))
theorem s__law_otherwise__4_1 (K : PySem.W.Frag) : SndS K (t__law_otherwise__4_1 K) 32 f__law_otherwise__4_1 := by
  unfold f__law_otherwise__4_1
  exact (snds_seq (snds_if (sndt_test (snd_op ops_C snd_var snd_int)) (snds_put (snd_call (m__law_otherwise__3 K) (snda_box (snda_cons (snd_op ops_ix snd_var snd_var) snda_nil))) snd_var) (snds_if (sndt_test (snd_op ops_eq snd_var snd_int)) (snds_popAt snd_var) (snds_if (sndt_test (snd_op ops_eq snd_var snd_int)) (snds_ins snd_var (snd_op ops_ix snd_var snd_var)) (snds_if (sndt_test (snd_op ops_eq snd_var snd_int)) snds_rev (snds_retIf (sndt_B (snd_isi (t := .tuple) snd_var)) snds_retO (snds_ret (snd_tupOf sndV_var))))))) (s__law_otherwise__4_0 K))
@[irreducible] def f__law_otherwise__4_2 : FS := (sRet (eCall F__law_odd (aBox 0 aNil)))
def t__law_otherwise__4_2 (K : PySem.W.Frag) : TS := (tRet (tCallG (spD K 1 F__law_odd) (tCons (tVar 0) tNil)))
theorem s__law_otherwise__4_2 (K : PySem.W.Frag) : SndS K (t__law_otherwise__4_2 K) 1 f__law_otherwise__4_2 := by
  unfold f__law_otherwise__4_2
  exact (snds_ret (snd_call (m__law_odd K) (snda_box snda_nil)))
@[irreducible] def f__law_otherwise__4_3 : FS := (sSeq (sIf (fAnd (fTest (eIsi .str (eVar 1))) (fTest (eBin (gC fun i j => decide (j < i)) (eCall F_take (aBox 0 (aCons (eC (.int 4)) aNil))) (eC (.int 0))))) (sRet (eBin gIx (eLst (dCons (eBin gAddS (eVar 1) (eC (.str "s"))) (dCons (eCutS (eVar 1) 1) (dCons (eUpper (eVar 1)) (dCons (eBin gAddS (eVar 1) (eC (.str " "))) (dCons (eTup (dCons (eVar 1) dNil)) (dCons (eRevS (eVar 1)) dNil))))))) (eCall F_take (aBox 0 (aCons (eC (.int 6)) aNil))))) sSkip) f__law_otherwise__4_2)
def t__law_otherwise__4_3 (K : PySem.W.Frag) : TS := (tSeq (tIfS (tAnd (tB (tCB (rIsi K) (tCons (tVar 1) (tCons (tC (.ty "str")) tNil)))) (tTest (tOp (rI0 fun i j => .bl (decide (j < i))) (tCallG (spD K 1 F_take) (tCons (tVar 0) (tCons (tC (.int 4)) tNil))) (tC (.int 0))))) (tRet (tOp (rIx K) (tLst (tCons (tOp rAddS (tVar 1) (tC (.str "s"))) (tCons (tSl rSlS (tVar 1) (tPart (tC (.int (1 : Int)))) tNoPart) (tCons (tM0 rUpper (tVar 1)) (tCons (tOp rAddS (tVar 1) (tC (.str " "))) (tCons (tTup (tCons (tVar 1) tNil)) (tCons (tRevS (tVar 1)) tNil))))))) (tCallG (spD K 1 F_take) (tCons (tVar 0) (tCons (tC (.int 6)) tNil))))) tNext) (t__law_otherwise__4_2 K))
theorem s__law_otherwise__4_3 (K : PySem.W.Frag) : SndS K (t__law_otherwise__4_3 K) 3 f__law_otherwise__4_3 := by
  unfold f__law_otherwise__4_3
  exact (snds_seq (snds_if (sndt_and (sndt_B (snd_isi (t := .str) snd_var)) (sndt_test (snd_op ops_C (snd_call m_take (snda_box (snda_cons snd_int snda_nil))) snd_int))) (snds_ret (snd_op ops_ix (SndL.d (sndl_lst (sndd_cons (snd_op ops_addS snd_var snd_str) (sndd_cons (snd_cutS (n := 1) snd_var) (sndd_cons (snd_upper snd_var) (sndd_cons (snd_op ops_addS snd_var snd_str) (sndd_cons (snd_tup (sndd_cons snd_var sndd_nil) (by decide)) (sndd_cons (snd_revS snd_var) sndd_nil)))))) (by decide))) (snd_call m_take (snda_box (snda_cons snd_int snda_nil))))) snds_nil) (s__law_otherwise__4_2 K))
@[irreducible] def f__law_otherwise__4_4 : FS := (sSeq (sIf (fAnd (fTest (eIsi .int (eVar 1))) (fAnd (fNot (fTest (eIsi .bool (eVar 1)))) (fTest (eBin (gC fun i j => decide (j < i)) (eCall F_take (aBox 0 (aCons (eC (.int 4)) aNil))) (eC (.int 0)))))) (sRet (eBin gIx (eLst (dCons (eBin gAdd (eVar 1) (eC (.int 1))) (dCons (eBin (gI fun i j => i - j) (eVar 1) (eC (.int 1))) (dCons (eC (.int 0)) (dCons (eUn negD (eVar 1)) (dCons (eBin gEq (eVar 1) (eC (.int 1))) (dCons (eStrI (eVar 1)) (dCons (eC .none) dNil)))))))) (eCall F_take (aBox 0 (aCons (eC (.int 7)) aNil))))) sSkip) f__law_otherwise__4_3)
def t__law_otherwise__4_4 (K : PySem.W.Frag) : TS := (tSeq (tIfS (tAnd (tB (tCB (rIsi K) (tCons (tVar 1) (tCons (tC (.ty "int")) tNil)))) (tAnd (tNot (tB (tCB (rIsi K) (tCons (tVar 1) (tCons (tC (.ty "bool")) tNil))))) (tTest (tOp (rI0 fun i j => .bl (decide (j < i))) (tCallG (spD K 1 F_take) (tCons (tVar 0) (tCons (tC (.int 4)) tNil))) (tC (.int 0)))))) (tRet (tOp (rIx K) (tLst (tCons (tOp (rAdd K) (tVar 1) (tC (.int 1))) (tCons (tOp (rI0 fun i j => .int (i - j)) (tVar 1) (tC (.int 1))) (tCons (tC (.int 0)) (tCons (tUn (rU fun i => .int (-i)) (tVar 1)) (tCons (tOp (rEqX K) (tVar 1) (tC (.int 1))) (tCons (tCB (fun xs H Q => ∃ i, xs = [.int i] ∧ i.natAbs.log2 < 1920 ∧ Q (.str (Str.ofString (toString i))) H) (tCons (tVar 1) tNil)) (tCons (tC .non) tNil)))))))) (tCallG (spD K 1 F_take) (tCons (tVar 0) (tCons (tC (.int 7)) tNil))))) tNext) (t__law_otherwise__4_3 K))
theorem s__law_otherwise__4_4 (K : PySem.W.Frag) : SndS K (t__law_otherwise__4_4 K) 5 f__law_otherwise__4_4 := by
  unfold f__law_otherwise__4_4
  exact (snds_seq (snds_if (sndt_and (sndt_B (snd_isi (t := .int) snd_var)) (sndt_and (sndt_not (sndt_B (snd_isi (t := .bool) snd_var))) (sndt_test (snd_op ops_C (snd_call m_take (snda_box (snda_cons snd_int snda_nil))) snd_int)))) (snds_ret (snd_op ops_ix (SndL.d (sndl_lst (sndd_cons (snd_op ops_add snd_var snd_int) (sndd_cons (snd_op ops_I snd_var snd_int) (sndd_cons snd_int (sndd_cons (snd_un us_neg snd_var) (sndd_cons (snd_op ops_eq snd_var snd_int) (sndd_cons (snd_strI snd_var) (sndd_cons snd_non sndd_nil))))))) (by decide))) (snd_call m_take (snda_box (snda_cons snd_int snda_nil))))) snds_nil) (s__law_otherwise__4_3 K))
def f__law_otherwise__4 : FS := (sSeq (sIf (fAnd (fTest (eIsiLT (eVar 1))) (fAnd (fTest (eBin (gC fun i j => decide (j < i)) (eCB (g1 lenD) (dCons (eVar 1) dNil)) (eC (.int 0)))) (fTest (eBin (gC fun i j => decide (j < i)) (eCall F_take (aBox 0 (aCons (eC (.int 6)) aNil))) (eC (.int 0)))))) (sSeq (sPar3O 2 3 4 (eCall F_take (aBox 0 (aCons (eCB (g1 lenD) (dCons (eVar 1) dNil)) aNil))) (eCall F_take (aBox 0 (aCons (eC (.int 10)) aNil))) (fListOf (eVar 1))) f__law_otherwise__4_1) sSkip) f__law_otherwise__4_4)
@[irreducible] def F__law_otherwise__4 : FF := mkF 2 5 f__law_otherwise__4
def t__law_otherwise__4 (K : PySem.W.Frag) : TS := (tSeq (tIfS (tAnd (tB (tCB (rIsiT K) (tCons (tVar 1) (tCons (tTup (tCons (tC (.ty "list")) (tCons (tC (.ty "tuple")) tNil))) tNil)))) (tAnd (tTest (tOp (rI0 fun i j => .bl (decide (j < i))) (tCB (fun xs H Q => ∃ x n, xs = [x] ∧ LenV K x H n ∧ Q (.int n) H) (tCons (tVar 1) tNil)) (tC (.int 0)))) (tTest (tOp (rI0 fun i j => .bl (decide (j < i))) (tCallG (spD K 1 F_take) (tCons (tVar 0) (tCons (tC (.int 6)) tNil))) (tC (.int 0)))))) (tSeq (tPar3 2 3 4 (tCons (tCallG (spD K 1 F_take) (tCons (tVar 0) (tCons (tCB (fun xs H Q => ∃ x n, xs = [x] ∧ LenV K x H n ∧ Q (.int n) H) (tCons (tVar 1) tNil)) tNil))) (tCons (tCallG (spD K 1 F_take) (tCons (tVar 0) (tCons (tC (.int 10)) tNil))) (tCons (tCB (fun xs H Q => ∃ p ys, xs = [.ref p] ∧ (SqL K H p ys ∨ SqT K H p ys) ∧ ∀ l, H l = none → Q (.ref l) (upd H l (.lst ys))) (tCons (tVar 1) tNil)) tNil)))) (t__law_otherwise__4_1 K)) tNext) (t__law_otherwise__4_4 K))
theorem s__law_otherwise__4 (K : PySem.W.Frag) : SndS K (t__law_otherwise__4 K) 40 f__law_otherwise__4 := (snds_seq (snds_if (sndt_and (sndt_B (snd_isiLT snd_var)) (sndt_and (sndt_test (snd_op ops_C (snd_cb cs_len (sndd_cons snd_var sndd_nil)) snd_int)) (sndt_test (snd_op ops_C (snd_call m_take (snda_box (snda_cons snd_int snda_nil))) snd_int)))) (snds_seq (snds_par3O (snd_call m_take (snda_box (snda_cons (snd_cb cs_len (sndd_cons snd_var sndd_nil)) snda_nil))) (snd_call m_take (snda_box (snda_cons snd_int snda_nil))) (sndl_listOf snd_var)) (s__law_otherwise__4_1 K)) snds_nil) (s__law_otherwise__4_4 K))
theorem m__law_otherwise__4 (K : PySem.W.Frag) : MonoF F__law_otherwise__4 := by
  unfold F__law_otherwise__4
  exact mkF_mono (s__law_otherwise__4 K)
end Kd
namespace Kd
open PySem PySem.Spec PyProof.Rows L2 Xg Dv
@[irreducible] def f__law_are_turns_0 : FS := (sIf (fOr (fTest (eBin gNotInTS (eBin gIx (eVar 1) (eC (.int 0))) (eTup (dCons (eC (.str "forth")) (dCons (eC (.str "back")) dNil))))) (fOr (fNot (fTest (eIsi .int (eBin gIx (eVar 1) (eC (.int 1)))))) (fOr (fTest (eIsi .bool (eBin gIx (eVar 1) (eC (.int 1))))) (fTest (eBin (gC fun i j => decide (i < j)) (eBin gIx (eVar 1) (eC (.int 1))) (eC (.int 1))))))) (sRet (eC (.bool false))) sSkip)
def t__law_are_turns_0 (K : PySem.W.Frag) : TS := (tIfS (tOr (tTest (tOp (rIn K true) (tOp (rIx K) (tVar 1) (tC (.int 0))) (tTup (tCons (tC (.str "forth")) (tCons (tC (.str "back")) tNil))))) (tOr (tNot (tB (tCB (rIsi K) (tCons (tOp (rIx K) (tVar 1) (tC (.int 1))) (tCons (tC (.ty "int")) tNil))))) (tOr (tB (tCB (rIsi K) (tCons (tOp (rIx K) (tVar 1) (tC (.int 1))) (tCons (tC (.ty "bool")) tNil)))) (tTest (tOp (rI0 fun i j => .bl (decide (i < j))) (tOp (rIx K) (tVar 1) (tC (.int 1))) (tC (.int 1))))))) (tRet (tC (.bl false))) tNext)
theorem s__law_are_turns_0 (K : PySem.W.Frag) : SndS K (t__law_are_turns_0 K) 0 f__law_are_turns_0 := by
  unfold f__law_are_turns_0
  exact (snds_if (sndt_or (sndt_test (snd_op ops_notInTS (snd_op ops_ix snd_var snd_int) (snd_tup (sndd_cons snd_str (sndd_cons snd_str sndd_nil)) (by decide)))) (sndt_or (sndt_not (sndt_B (snd_isi (t := .int) (snd_op ops_ix snd_var snd_int)))) (sndt_or (sndt_B (snd_isi (t := .bool) (snd_op ops_ix snd_var snd_int))) (sndt_test (snd_op ops_C (snd_op ops_ix snd_var snd_int) snd_int))))) (snds_ret snd_bl) snds_nil)
@[irreducible] def f__law_are_turns_1 : FS := (sRet (eC (.bool true)))
def t__law_are_turns_1 (K : PySem.W.Frag) : TS := (tRet (tC (.bl true)))
theorem s__law_are_turns_1 (K : PySem.W.Frag) : SndS K (t__law_are_turns_1 K) 0 f__law_are_turns_1 := by
  unfold f__law_are_turns_1
  exact (snds_ret snd_bl)
@[irreducible] def f__law_are_turns_2 : FS := (sSeq (sFor 1000000 (fIt (eVar 0)) (gN 1) (sSeq (sIf (fOr (fNot (fTest (eIsi .tuple (eVar 1)))) (fOr (fTest (eBin gNe (eCB (g1 lenD) (dCons (eVar 1) dNil)) (eC (.int 2)))) (fNot (fTest (eIsi .str (eBin gIx (eVar 1) (eC (.int 0)))))))) (sRet (eC (.bool false))) sSkip) f__law_are_turns_0)) f__law_are_turns_1)
def t__law_are_turns_2 (K : PySem.W.Frag) : TS := (tSeq (tFor (Pw.iSeq K (tVar 0)) (gName 1) (tSeq (tIfS (tOr (tNot (tB (tCB (rIsi K) (tCons (tVar 1) (tCons (tC (.ty "tuple")) tNil))))) (tOr (tTest (tOp (rNeX K) (tCB (fun xs H Q => ∃ x n, xs = [x] ∧ LenV K x H n ∧ Q (.int n) H) (tCons (tVar 1) tNil)) (tC (.int 2)))) (tNot (tB (tCB (rIsi K) (tCons (tOp (rIx K) (tVar 1) (tC (.int 0))) (tCons (tC (.ty "str")) tNil))))))) (tRet (tC (.bl false))) tNext) (t__law_are_turns_0 K))) (t__law_are_turns_1 K))
theorem s__law_are_turns_2 (K : PySem.W.Frag) : SndS K (t__law_are_turns_2 K) 0 f__law_are_turns_2 := by
  unfold f__law_are_turns_2
  exact (snds_seq (snds_for (vs := [1]) (N := 1000000) (sndi_seq snd_var) (sndg_name (by decide)) (snds_seq (snds_if (sndt_or (sndt_not (sndt_B (snd_isi (t := .tuple) snd_var))) (sndt_or (sndt_test (snd_op ops_ne (snd_cb cs_len (sndd_cons snd_var sndd_nil)) snd_int)) (sndt_not (sndt_B (snd_isi (t := .str) (snd_op ops_ix snd_var snd_int)))))) (snds_ret snd_bl) snds_nil) (s__law_are_turns_0 K))) (s__law_are_turns_1 K))
def f__law_are_turns : FS := (sSeq (sIf (fNot (fTest (eIsi .list (eVar 0)))) (sRet (eC (.bool false))) sSkip) f__law_are_turns_2)
@[irreducible] def F__law_are_turns : FF := mkF 1 2 f__law_are_turns
def t__law_are_turns (K : PySem.W.Frag) : TS := (tSeq (tIfS (tNot (tB (tCB (rIsi K) (tCons (tVar 0) (tCons (tC (.ty "list")) tNil))))) (tRet (tC (.bl false))) tNext) (t__law_are_turns_2 K))
theorem s__law_are_turns (K : PySem.W.Frag) : SndS K (t__law_are_turns K) 0 f__law_are_turns := (snds_seq (snds_if (sndt_not (sndt_B (snd_isi (t := .list) snd_var))) (snds_ret snd_bl) snds_nil) (s__law_are_turns_2 K))
theorem m__law_are_turns (K : PySem.W.Frag) : MonoF F__law_are_turns := by
  unfold F__law_are_turns
  exact mkF_mono (s__law_are_turns K)
end Kd
namespace Kd
open PySem PySem.Spec PyProof.Rows L2 Xg Dv
@[irreducible] def f__law_hill_0 : FS := (sAsg (eBin (gI fun i j => i - j) (eC (.int 1)) (eVar 4)) (gN 4))
def t__law_hill_0 (K : PySem.W.Frag) : TS := (tAsg (tOp (rI0 fun i j => .int (i - j)) (tC (.int 1)) (tVar 4)) (gName 4))
theorem s__law_hill_0 (K : PySem.W.Frag) : SndS K (t__law_hill_0 K) 0 f__law_hill_0 := by
  unfold f__law_hill_0
  exact (snds_asg (vs := [4]) (snd_op ops_I snd_int snd_var) (sndg_name (by decide)))
@[irreducible] def f__law_hill_1 : FS := (sRetO 5)
def t__law_hill_1 (K : PySem.W.Frag) : TS := (tRet (tVar 5))
theorem s__law_hill_1 (K : PySem.W.Frag) : SndS K (t__law_hill_1 K) 0 f__law_hill_1 := by
  unfold f__law_hill_1
  exact snds_retO
@[irreducible] def f__law_hill_2 : FS := (sSeq (sFor 1000000 (fIt (eBin gAdd (eVarV 1) (eRevL (eVarV 2)))) (gN 6) (sSeq (sApp 5 (eTup (dCons (eBin gIx (eLst (dCons (eC (.str "forth")) (dCons (eC (.str "back")) dNil))) (eVar 4)) (dCons (eVar 6) dNil)))) f__law_hill_0)) f__law_hill_1)
def t__law_hill_2 (K : PySem.W.Frag) : TS := (tSeq (tFor (Pw.iSeq K (tOp (rAdd K) (tVar 1) (tRevL K (tVar 2)))) (gName 6) (tSeq (tDrop (tBM K "list" rAppend (tVar 5) (tCons (tTup (tCons (tOp (rIx K) (tLst (tCons (tC (.str "forth")) (tCons (tC (.str "back")) tNil))) (tVar 4)) (tCons (tVar 6) tNil))) tNil))) (t__law_hill_0 K))) (t__law_hill_1 K))
theorem s__law_hill_2 (K : PySem.W.Frag) : SndS K (t__law_hill_2 K) 0 f__law_hill_2 := by
  unfold f__law_hill_2
  exact (snds_seq (snds_for (vs := [6]) (N := 1000000) (sndi_seq (snd_op ops_add sndV_var (snd_revL sndV_var))) (sndg_name (by decide)) (snds_seq (snds_app (snd_tup (sndd_cons (snd_op ops_ix (SndL.d (sndl_lst (sndd_cons snd_str (sndd_cons snd_str sndd_nil)) (by decide))) snd_var) (sndd_cons snd_var sndd_nil)) (by decide))) (s__law_hill_0 K))) (s__law_hill_1 K))
@[irreducible] def f__law_hill_3 : FS := (sSeq (sParP 4 5 (eCall F_take (aBox 0 (aCons (eC (.int 2)) aNil))) dNil) f__law_hill_2)
def t__law_hill_3 (K : PySem.W.Frag) : TS := (tSeq (tPar 4 5 (tCons (tCallG (spD K 1 F_take) (tCons (tVar 0) (tCons (tC (.int 2)) tNil))) (tCons (tLst tNil) tNil))) (t__law_hill_2 K))
theorem s__law_hill_3 (K : PySem.W.Frag) : SndS K (t__law_hill_3 K) 1 f__law_hill_3 := by
  unfold f__law_hill_3
  exact (snds_seq (snds_parP (snd_call m_take (snda_box (snda_cons snd_int snda_nil))) (sndl_lst sndd_nil (by decide))) (s__law_hill_2 K))
@[irreducible] def f__law_hill_4 : FS := (sSeq (sFor 5 (fRange1 (eCall F_take (aBox 0 (aCons (eC (.int 5)) aNil)))) (gN 3) (sApp 2 (eBin gAdd (eBin gAdd (eIf (fTest (eBin gNe (eVarV 2) (eLst dNil))) (eBin gIx (eVarV 2) (eUn negD (eC (.int 1)))) (eC (.int 0))) (eC (.int 1))) (eCall F_take (aBox 0 (aCons (eC (.int 3)) aNil)))))) f__law_hill_3)
def t__law_hill_4 (K : PySem.W.Frag) : TS := (tSeq (tFor (iRng1 (tCons (tCallG (spD K 1 F_take) (tCons (tVar 0) (tCons (tC (.int 5)) tNil))) tNil)) (gName 3) (tDrop (tBM K "list" rAppend (tVar 2) (tCons (tOp (rAdd K) (tOp (rAdd K) (tIf (tTest (tOp (rNeX K) (tVar 2) (tLst tNil))) (tOp (rIx K) (tVar 2) (tUn (rU fun i => .int (-i)) (tC (.int 1)))) (tC (.int 0))) (tC (.int 1))) (tCallG (spD K 1 F_take) (tCons (tVar 0) (tCons (tC (.int 3)) tNil)))) tNil)))) (t__law_hill_3 K))
theorem s__law_hill_4 (K : PySem.W.Frag) : SndS K (t__law_hill_4 K) 7 f__law_hill_4 := by
  unfold f__law_hill_4
  exact (snds_seq (snds_for (vs := [3]) (N := 5) (sndi_range1 (snd_call m_take (snda_box (snda_cons snd_int snda_nil)))) (sndg_name (by decide)) (snds_app (snd_op ops_add (snd_op ops_add (snd_if (sndt_test (snd_op ops_ne sndV_var (SndL.d (sndl_lst sndd_nil (by decide))))) (snd_op ops_ix sndV_var (snd_un us_neg snd_int)) snd_int) snd_int) (snd_call m_take (snda_box (snda_cons snd_int snda_nil)))))) (s__law_hill_3 K))
@[irreducible] def f__law_hill_5 : FS := (sSeq (sFor 100 (fRange1 (eBin gAdd (eC (.int 1)) (eCall F_take (aBox 0 (aCons (eC (.int 5)) aNil))))) (gN 3) (sApp 1 (eBin gAdd (eBin gAdd (eIf (fTest (eBin gNe (eVarV 1) (eLst dNil))) (eBin gIx (eVarV 1) (eUn negD (eC (.int 1)))) (eC (.int 0))) (eC (.int 1))) (eCall F_take (aBox 0 (aCons (eC (.int 3)) aNil)))))) f__law_hill_4)
def t__law_hill_5 (K : PySem.W.Frag) : TS := (tSeq (tFor (iRng1 (tCons (tOp (rAdd K) (tC (.int 1)) (tCallG (spD K 1 F_take) (tCons (tVar 0) (tCons (tC (.int 5)) tNil)))) tNil)) (gName 3) (tDrop (tBM K "list" rAppend (tVar 1) (tCons (tOp (rAdd K) (tOp (rAdd K) (tIf (tTest (tOp (rNeX K) (tVar 1) (tLst tNil))) (tOp (rIx K) (tVar 1) (tUn (rU fun i => .int (-i)) (tC (.int 1)))) (tC (.int 0))) (tC (.int 1))) (tCallG (spD K 1 F_take) (tCons (tVar 0) (tCons (tC (.int 3)) tNil)))) tNil)))) (t__law_hill_4 K))
theorem s__law_hill_5 (K : PySem.W.Frag) : SndS K (t__law_hill_5 K) 108 f__law_hill_5 := by
  unfold f__law_hill_5
  exact (snds_seq (snds_for (vs := [3]) (N := 100) (sndi_range1 (snd_op ops_add snd_int (snd_call m_take (snda_box (snda_cons snd_int snda_nil))))) (sndg_name (by decide)) (snds_app (snd_op ops_add (snd_op ops_add (snd_if (sndt_test (snd_op ops_ne sndV_var (SndL.d (sndl_lst sndd_nil (by decide))))) (snd_op ops_ix sndV_var (snd_un us_neg snd_int)) snd_int) snd_int) (snd_call m_take (snda_box (snda_cons snd_int snda_nil)))))) (s__law_hill_4 K))
def f__law_hill : FS := (sSeq (sPar00 1 2) f__law_hill_5)
@[irreducible] def F__law_hill : FF := mkF 1 7 f__law_hill
@[irreducible] def L__law_hill : FFL := mkL 1 7 f__law_hill
def t__law_hill (K : PySem.W.Frag) : TS := (tSeq (tPar 1 2 (tCons (tLst tNil) (tCons (tLst tNil) tNil))) (t__law_hill_5 K))
theorem s__law_hill (K : PySem.W.Frag) : SndS K (t__law_hill K) 108 f__law_hill := (snds_seq snds_par00 (s__law_hill_5 K))
theorem m__law_hill (K : PySem.W.Frag) : MonoF F__law_hill := by
  unfold F__law_hill
  exact mkF_mono (s__law_hill K)
end Kd
namespace Kd
open PySem PySem.Spec PyProof.Rows L2 Xg Dv
@[irreducible] def f__law_right_0 : FS := (sIf (fOr (fNot (fTest (eCall F_same (aCons (eVar 9) (aCons (eLst (dCons (eVar 7) (dCons (eVar 7) (dCons (eVar 8) (dCons (eVar 8) dNil))))) aNil))))) (fTest (eBin gNe (eCB (g1 reprA) (dCons (eVar 5) dNil)) (eVar 6)))) (sRet (eC (.bool false))) sSkip)
def t__law_right_0 (K : PySem.W.Frag) : TS := (tIfS (tOr (tNot (tB (tCallG (spD K 0 F_same) (tCons (tVar 9) (tCons (tLst (tCons (tVar 7) (tCons (tVar 7) (tCons (tVar 8) (tCons (tVar 8) tNil))))) tNil))))) (tTest (tOp (rNeX K) (tCB (rReprA K) (tCons (tVar 5) tNil)) (tVar 6)))) (tRet (tC (.bl false))) tNext)
theorem s__law_right_0 (K : PySem.W.Frag) : SndS K (t__law_right_0 K) 0 f__law_right_0 := by
  unfold f__law_right_0
  exact (snds_if (sndt_or (sndt_not (sndt_B (snd_call m_same (snda_cons snd_var (snda_cons (SndL.d (sndl_lst (sndd_cons snd_var (sndd_cons snd_var (sndd_cons snd_var (sndd_cons snd_var sndd_nil)))) (by decide))) snda_nil))))) (sndt_test (snd_op ops_ne (snd_cb cs_reprA (sndd_cons snd_var sndd_nil)) snd_var))) (snds_ret snd_bl) snds_nil)
@[irreducible] def f__law_right_1 : FS := (sSeq (sAsg (eLst (dCons (eCall F_is_turns (aCons (eVar 5) aNil)) (dCons (eKw 1 F_is_turns (aCons (eVar 5) aNil)) (dCons (eCall F_is_forgotten (aCons (eVar 5) aNil)) (dCons (eKw 1 F_is_forgotten (aCons (eVar 5) aNil)) dNil))))) (gN 9)) f__law_right_0)
def t__law_right_1 (K : PySem.W.Frag) : TS := (tSeq (tAsg (tLst (tCons (tCallG (spD K 0 F_is_turns) (tCons (tVar 5) tNil)) (tCons (tKw 1 (spD K 0 F_is_turns) List.reverse (tCons (tVar 5) tNil)) (tCons (tCallG (spD K 0 F_is_forgotten) (tCons (tVar 5) tNil)) (tCons (tKw 1 (spD K 0 F_is_forgotten) List.reverse (tCons (tVar 5) tNil)) tNil))))) (gName 9)) (t__law_right_0 K))
theorem s__law_right_1 (K : PySem.W.Frag) : SndS K (t__law_right_1 K) 0 f__law_right_1 := by
  unfold f__law_right_1
  exact (snds_seq (snds_asg (vs := [9]) (SndL.d (sndl_lst (sndd_cons (snd_call (m_is_turns K) (snda_cons snd_var snda_nil)) (sndd_cons (snd_kw (m_is_turns K) (snda_cons snd_var snda_nil)) (sndd_cons (snd_call (m_is_forgotten K) (snda_cons snd_var snda_nil)) (sndd_cons (snd_kw (m_is_forgotten K) (snda_cons snd_var snda_nil)) sndd_nil)))) (by decide))) (sndg_name (by decide))) (s__law_right_0 K))
@[irreducible] def f__law_right_2 : FS := (sSeq (sAsg (eAnd (eVar 7) (eAnd (eBin gEq (eCall F__law_joined (aCons (eVar 5) aNil)) (eVar 5)) (eBin gEq (eCall F__law_spots (aCons (eVar 5) aNil)) (eLst dNil)))) (gN 8)) f__law_right_1)
def t__law_right_2 (K : PySem.W.Frag) : TS := (tSeq (tAsg (tAndV (tVar 7) (tAndV (tOp (rEqX K) (tCallG (spD K 0 F__law_joined) (tCons (tVar 5) tNil)) (tVar 5)) (tOp (rEqX K) (tCallG (spD K 0 F__law_spots) (tCons (tVar 5) tNil)) (tLst tNil)))) (gName 8)) (t__law_right_1 K))
theorem s__law_right_2 (K : PySem.W.Frag) : SndS K (t__law_right_2 K) 0 f__law_right_2 := by
  unfold f__law_right_2
  exact (snds_seq (snds_asg (vs := [8]) (snd_and snd_var (snd_and (snd_op ops_eq (snd_call (m__law_joined K) (snda_cons snd_var snda_nil)) snd_var) (snd_op ops_eq (snd_call (m__law_spots K) (snda_cons snd_var snda_nil)) (SndL.d (sndl_lst sndd_nil (by decide)))))) (sndg_name (by decide))) (s__law_right_1 K))
@[irreducible] def f__law_right_3 : FS := (sSeq (sPar 6 7 (eCB (g1 reprA) (dCons (eVar 5) dNil)) (eCall F__law_are_turns (aCons (eVar 5) aNil))) f__law_right_2)
def t__law_right_3 (K : PySem.W.Frag) : TS := (tSeq (tPar 6 7 (tCons (tCB (rReprA K) (tCons (tVar 5) tNil)) (tCons (tCallG (spD K 0 F__law_are_turns) (tCons (tVar 5) tNil)) tNil))) (t__law_right_2 K))
theorem s__law_right_3 (K : PySem.W.Frag) : SndS K (t__law_right_3 K) 0 f__law_right_3 := by
  unfold f__law_right_3
  exact (snds_seq (snds_par (snd_cb cs_reprA (sndd_cons snd_var sndd_nil)) (snd_call (m__law_are_turns K) (snda_cons snd_var snda_nil))) (s__law_right_2 K))
@[irreducible] def f__law_right_4 : FS := (sSeq (sIf (fAnd (fTest (eBin (gC fun i j => decide (j < i)) (eVar 3) (eC (.int 3)))) (fTest (eBin gEq (eCall F_take (aBox 0 (aCons (eC (.int 3)) aNil))) (eC (.int 0))))) (sAsg (eCall F__law_otherwise__4 (aBox 0 (aCons (eVar 5) aNil))) (gN 5)) sSkip) f__law_right_3)
def t__law_right_4 (K : PySem.W.Frag) : TS := (tSeq (tIfS (tAnd (tTest (tOp (rI0 fun i j => .bl (decide (j < i))) (tVar 3) (tC (.int 3)))) (tTest (tOp (rEqX K) (tCallG (spD K 1 F_take) (tCons (tVar 0) (tCons (tC (.int 3)) tNil))) (tC (.int 0))))) (tAsg (tCallG (spD K 40 F__law_otherwise__4) (tCons (tVar 0) (tCons (tVar 5) tNil))) (gName 5)) tNext) (t__law_right_3 K))
theorem s__law_right_4 (K : PySem.W.Frag) : SndS K (t__law_right_4 K) 41 f__law_right_4 := by
  unfold f__law_right_4
  exact (snds_seq (snds_if (sndt_and (sndt_test (snd_op ops_C snd_var snd_int)) (sndt_test (snd_op ops_eq (snd_call m_take (snda_box (snda_cons snd_int snda_nil))) snd_int))) (snds_asg (vs := [5]) (snd_call (m__law_otherwise__4 K) (snda_box (snda_cons snd_var snda_nil))) (sndg_name (by decide))) snds_nil) (s__law_right_3 K))
@[irreducible] def f__law_right_5 : FS := (sRet (eAnd (eBin gEq (eL (fComp 1000000 (fIt (eVar 4)) [5] (gN 5) fYes (eCall F_is_forgotten (aCons (eVar 5) aNil)))) (eBin gMul (eLst (dCons (eC (.bool false)) dNil)) (eCB (g1 lenD) (dCons (eVar 4) dNil)))) (eBin gIsB (eCall F_is_forgotten (aCons (eLst dNil) aNil)) (eC (.bool true)))))
def t__law_right_5 (K : PySem.W.Frag) : TS := (tRet (tAndV (tOp (rEqX K) (tLc (Pw.iSeq K (tVar 4)) (gName 5) tYes (tCallG (spD K 0 F_is_forgotten) (tCons (tVar 5) tNil)) [5]) (tOp (rMul K) (tLst (tCons (tC (.bl false)) tNil)) (tCB (fun xs H Q => ∃ x n, xs = [x] ∧ LenV K x H n ∧ Q (.int n) H) (tCons (tVar 4) tNil)))) (tOp (fun x y H Q => ∃ a b, x = .bl a ∧ y = .bl b ∧ Q (.bl (decide (a = b))) H) (tCallG (spD K 0 F_is_forgotten) (tCons (tLst tNil) tNil)) (tC (.bl true)))))
theorem s__law_right_5 (K : PySem.W.Frag) : SndS K (t__law_right_5 K) 0 f__law_right_5 := by
  unfold f__law_right_5
  exact (snds_ret (snd_and (snd_op ops_eq (SndL.d (sndl_comp (N := 1000000) (by decide) (sndi_seq (Snd.v snd_var)) (sndg_name (by decide)) sndt_yes (snd_call (m_is_forgotten K) (snda_cons snd_var snda_nil)))) (snd_op ops_mul (SndL.d (sndl_lst (sndd_cons snd_bl sndd_nil) (by decide))) (snd_cb cs_len (sndd_cons snd_var sndd_nil)))) (snd_op ops_isB (snd_call (m_is_forgotten K) (snda_cons (SndL.d (sndl_lst sndd_nil (by decide))) snda_nil)) snd_bl)))
@[irreducible] def f__law_right_6 : FS := (sSeq (sAsg (eLst (dCons (eC .none) (dCons (eTup dNil) (dCons (eTup (dCons (eC (.str "forth")) (dCons (eC (.int 1)) dNil))) (dCons (eLst (dCons (eTup (dCons (eC (.str "forth")) (dCons (eC (.int 0)) dNil))) dNil)) (dCons (eLst (dCons (eTup (dCons (eC (.str "forth")) (dCons (eC (.bool true)) dNil))) dNil)) (dCons (eLst (dCons (eLst (dCons (eC (.str "forth")) (dCons (eC (.int 1)) dNil))) dNil)) (dCons (eLst (dCons (eTup (dCons (eC (.str "forth")) dNil)) dNil)) (dCons (eLst (dCons (eTup (dCons (eC (.str "Forth")) (dCons (eC (.int 1)) dNil))) dNil)) dNil))))))))) (gN 4)) f__law_right_5)
def t__law_right_6 (K : PySem.W.Frag) : TS := (tSeq (tAsg (tLst (tCons (tC .non) (tCons (tTup tNil) (tCons (tTup (tCons (tC (.str "forth")) (tCons (tC (.int 1)) tNil))) (tCons (tLst (tCons (tTup (tCons (tC (.str "forth")) (tCons (tC (.int 0)) tNil))) tNil)) (tCons (tLst (tCons (tTup (tCons (tC (.str "forth")) (tCons (tC (.bl true)) tNil))) tNil)) (tCons (tLst (tCons (tLst (tCons (tC (.str "forth")) (tCons (tC (.int 1)) tNil))) tNil)) (tCons (tLst (tCons (tTup (tCons (tC (.str "forth")) tNil)) tNil)) (tCons (tLst (tCons (tTup (tCons (tC (.str "Forth")) (tCons (tC (.int 1)) tNil))) tNil)) tNil))))))))) (gName 4)) (t__law_right_5 K))
theorem s__law_right_6 (K : PySem.W.Frag) : SndS K (t__law_right_6 K) 0 f__law_right_6 := by
  unfold f__law_right_6
  exact (snds_seq (snds_asg (vs := [4]) (SndL.d (sndl_lst (sndd_cons snd_non (sndd_cons (snd_tup sndd_nil (by decide)) (sndd_cons (snd_tup (sndd_cons snd_str (sndd_cons snd_int sndd_nil)) (by decide)) (sndd_cons (SndL.d (sndl_lst (sndd_cons (snd_tup (sndd_cons snd_str (sndd_cons snd_int sndd_nil)) (by decide)) sndd_nil) (by decide))) (sndd_cons (SndL.d (sndl_lst (sndd_cons (snd_tup (sndd_cons snd_str (sndd_cons snd_bl sndd_nil)) (by decide)) sndd_nil) (by decide))) (sndd_cons (SndL.d (sndl_lst (sndd_cons (SndL.d (sndl_lst (sndd_cons snd_str (sndd_cons snd_int sndd_nil)) (by decide))) sndd_nil) (by decide))) (sndd_cons (SndL.d (sndl_lst (sndd_cons (snd_tup (sndd_cons snd_str sndd_nil) (by decide)) sndd_nil) (by decide))) (sndd_cons (SndL.d (sndl_lst (sndd_cons (snd_tup (sndd_cons snd_str (sndd_cons snd_int sndd_nil)) (by decide)) sndd_nil) (by decide))) sndd_nil)))))))) (by decide))) (sndg_name (by decide))) (s__law_right_5 K))
@[irreducible] def f__law_right_7 : FS := (sSeq (sFor 9 (fRange1 (eC (.int 9))) (gN 3) (sSeq (sAsg (eIf (fTest (eBin (gC fun i j => decide (i < j)) (eVar 3) (eC (.int 3)))) (eBin gIx (eVar 2) (eVar 3)) (eCall F__law_otherwise__4 (aBox 0 (aCons (eBin gIx (eVar 2) (eCall F_take (aBox 0 (aCons (eC (.int 3)) aNil)))) aNil)))) (gN 5)) f__law_right_4)) f__law_right_6)
def t__law_right_7 (K : PySem.W.Frag) : TS := (tSeq (tFor (iRng1 (tCons (tC (.int 9)) tNil)) (gName 3) (tSeq (tAsg (tIf (tTest (tOp (rI0 fun i j => .bl (decide (i < j))) (tVar 3) (tC (.int 3)))) (tOp (rIx K) (tVar 2) (tVar 3)) (tCallG (spD K 40 F__law_otherwise__4) (tCons (tVar 0) (tCons (tOp (rIx K) (tVar 2) (tCallG (spD K 1 F_take) (tCons (tVar 0) (tCons (tC (.int 3)) tNil)))) tNil)))) (gName 5)) (t__law_right_4 K))) (t__law_right_6 K))
theorem s__law_right_7 (K : PySem.W.Frag) : SndS K (t__law_right_7 K) 738 f__law_right_7 := by
  unfold f__law_right_7
  exact (snds_seq (snds_for (vs := [3]) (N := 9) (sndi_range1 snd_int) (sndg_name (by decide)) (snds_seq (snds_asg (vs := [5]) (snd_if (sndt_test (snd_op ops_C snd_var snd_int)) (snd_op ops_ix snd_var snd_var) (snd_call (m__law_otherwise__4 K) (snda_box (snda_cons (snd_op ops_ix snd_var (snd_call m_take (snda_box (snda_cons snd_int snda_nil)))) snda_nil)))) (sndg_name (by decide))) (s__law_right_4 K))) (s__law_right_6 K))
@[irreducible] def f__law_right_8 : FS := (sSeq (sAsg (eLst (dCons (eVar 1) (dCons (eCall F_forgotten (aCons (eVar 1) aNil)) (dCons (eCall F__law_hill (aBox 0 aNil)) dNil)))) (gN 2)) f__law_right_7)
def t__law_right_8 (K : PySem.W.Frag) : TS := (tSeq (tAsg (tLst (tCons (tVar 1) (tCons (tCallG (spD K 0 F_forgotten) (tCons (tVar 1) tNil)) (tCons (tCallG (spD K 108 F__law_hill) (tCons (tVar 0) tNil)) tNil)))) (gName 2)) (t__law_right_7 K))
theorem s__law_right_8 (K : PySem.W.Frag) : SndS K (t__law_right_8 K) 846 f__law_right_8 := by
  unfold f__law_right_8
  exact (snds_seq (snds_asg (vs := [2]) (SndL.d (sndl_lst (sndd_cons snd_var (sndd_cons (snd_call (m_forgotten K) (snda_cons snd_var snda_nil)) (sndd_cons (snd_call (m__law_hill K) (snda_box snda_nil)) sndd_nil))) (by decide))) (sndg_name (by decide))) (s__law_right_7 K))
def f__law_right : FS := (sSeq (sAsg (eCall F__law_turns (aBox 0 (aCons (eC (.int 9)) (aCons (eCall F__law_of (aBox 0 (aCons (eLst (dCons (eC (.int 1)) (dCons (eC (.int 3)) (dCons (eC (.int 9)) dNil)))) aNil))) aNil)))) (gN 1)) f__law_right_8)
@[irreducible] def F__law_right : FF := mkF 1 10 f__law_right
def t__law_right (K : PySem.W.Frag) : TS := (tSeq (tAsg (tCallG (spD K 202 F__law_turns) (tCons (tVar 0) (tCons (tC (.int 9)) (tCons (tCallG (spD K 1 F__law_of) (tCons (tVar 0) (tCons (tLst (tCons (tC (.int 1)) (tCons (tC (.int 3)) (tCons (tC (.int 9)) tNil)))) tNil))) tNil)))) (gName 1)) (t__law_right_8 K))
theorem s__law_right (K : PySem.W.Frag) : SndS K (t__law_right K) 1049 f__law_right := (snds_seq (snds_asg (vs := [1]) (snd_call (m__law_turns K) (snda_box (snda_cons snd_int (snda_cons (snd_call (m__law_of K) (snda_box (snda_cons (SndL.d (sndl_lst (sndd_cons snd_int (sndd_cons snd_int (sndd_cons snd_int sndd_nil))) (by decide))) snda_nil))) snda_nil)))) (sndg_name (by decide))) (s__law_right_8 K))
theorem m__law_right (K : PySem.W.Frag) : MonoF F__law_right := by
  unfold F__law_right
  exact mkF_mono (s__law_right K)
end Kd
namespace Kd
open PySem PySem.Spec PyProof.Rows L2 Xg Dv
def f_law : FS := (sSeq (sFor 100 (fRange1 (eCB (g2 (gI fun i j => if j > i then j else i)) (dCons (eC (.int 1)) (dCons (eCB (g2 (gI fun i j => if j < i then j else i)) (dCons (eC (.int 3)) (dCons (eLenS 0) dNil))) dNil)))) (gN 1) (sSeq (sBox 2 (aScr 0 (aCons (eVar 1) aNil))) (sIf (fNot (fTest (eCB allD (dCons (eL (fComp 4 (fRange1 (eC (.int 4))) [3] (gN 3) fYes (eCall F__law_right (aBox 2 aNil)))) dNil)))) (sRet (eC (.bool false))) sSkip))) (sRet (eC (.bool true))))
@[irreducible] def F_law : FF := mkF 1 4 f_law
def t_law (K : PySem.W.Frag) : TS := (tSeq (tFor (iRng1 (tCons (tCB (fun xs H Q => ∃ i j, xs = [.int i, .int j] ∧ Q (.int (if j > i then j else i)) H) (tCons (tC (.int 1)) (tCons (tCB (fun xs H Q => ∃ i j, xs = [.int i, .int j] ∧ Q (.int (if j < i then j else i)) H) (tCons (tC (.int 3)) (tCons (tCB (fun xs H Q => ∃ x n, xs = [x] ∧ LenV K x H n ∧ Q (.int n) H) (tCons (tVar 0) tNil)) tNil))) tNil))) tNil)) (gName 1) (tSeq (tAsg (tCallG (spBx K) (tCons (tVar 0) (tCons (tVar 1) tNil))) (gName 2)) (tIfS (tNot (tB (tCB (rAll K) (tCons (tLc (iRng1 (tCons (tC (.int 4)) tNil)) (gName 3) tYes (tCallG (spD K 1049 F__law_right) (tCons (tVar 2) tNil)) [3]) tNil)))) (tRet (tC (.bl false))) tNext))) (tRet (tC (.bl true))))
theorem s_law (K : PySem.W.Frag) : SndS K (t_law K) 419600 f_law := (snds_seq (snds_for (vs := [1]) (N := 100) (sndi_range1 (snd_cb cs_max2 (sndd_cons snd_int (sndd_cons (snd_cb cs_min2 (sndd_cons snd_int (sndd_cons snd_lenS sndd_nil))) sndd_nil)))) (sndg_name (by decide)) (snds_seq (snds_box (snda_scr (snda_cons snd_var snda_nil))) (snds_if (sndt_not (sndt_B (snd_cb cs_all (sndd_cons (SndL.d (sndl_comp (N := 4) (by decide) (sndi_range1 snd_int) (sndg_name (by decide)) sndt_yes (snd_call (m__law_right K) (snda_box snda_nil)))) sndd_nil)))) (snds_ret snd_bl) snds_nil))) (snds_ret snd_bl))
theorem m_law (K : PySem.W.Frag) : MonoF F_law := by
  unfold F_law
  exact mkF_mono (s_law K)
end Kd
namespace Kd
open PySem PySem.Spec PyProof.Rows L2 Xg Dv
structure Nm (mg : Str → Option Value) : Prop where
  abs : mg "abs" = none
  all : mg "all" = none
  bool : mg "bool" = none
  int : mg "int" = none
  isinstance : mg "isinstance" = none
  len : mg "len" = none
  list : mg "list" = none
  max : mg "max" = none
  min : mg "min" = none
  range : mg "range" = none
  repr : mg "repr" = none
  str : mg "str" = none
  tuple : mg "tuple" = none
  zip : mg "zip" = none
end Kd
namespace Kd
open PySem PySem.Spec PyProof.Rows L2 Xg Dv
section
variable {P : Program} {w : World} {K : PySem.W.Frag} {mg : Str → Option Value} {base : Heap}
theorem sc_is_number : FnScope ["thing"] ["thing"] (defScope (topS 1)) := ⟨rfl, rfl, rfl, by decide +kernel, rfl, by decide +kernel, by decide +kernel⟩
theorem ok_is_number {f : Addr} {fd : FuncData} (F : Fun K "is_number" "is_number" (topS 1) f fd) (N : Nm mg) : FnG P w K mg base 1 f fd ["thing"] (spD K 0 F_is_number) := by
  unfold F_is_number
  exact okD F sc_is_number (s_is_number K) fun cdv A outer s H hG hr => (pss_one (ps_ret (pe_and (pe_callB call_isi (by rfl) N.isinstance (by decide +kernel) (pa_cons (pv 0) (pa_cons (pe_bltn (v := .ty "int") (by rfl) N.int (by decide +kernel) rfl) pa_nil))) (pe_one (pe_not (pe_callB call_isi (by rfl) N.isinstance (by decide +kernel) (pa_cons (pv 0) (pa_cons (pe_bltn (v := .ty "bool") (by rfl) N.bool (by decide +kernel) rfl) pa_nil))))))))
end
end Kd
namespace Kd
open PySem PySem.Spec PyProof.Rows L2 Xg Dv
section
variable {P : Program} {w : World} {K : PySem.W.Frag} {mg : Str → Option Value} {base : Heap}
theorem sc_is_number_from : FnScope ["thing", "least"] ["thing", "least"] (defScope (topS 2)) := ⟨rfl, rfl, rfl, by decide +kernel, rfl, by decide +kernel, by decide +kernel⟩
theorem ok_is_number_from {f : Addr} {fd : FuncData} (F : Fun K "is_number_from" "is_number_from" (topS 2) f fd) (N : Nm mg) (D_is_number : Df P w K mg base "is_number" ["thing"] 1 (spD K 0 F_is_number)) : FnG P w K mg base 2 f fd ["thing", "least"] (spD K 0 F_is_number_from) := by
  unfold F_is_number_from
  exact okD F sc_is_number_from (s_is_number_from K) fun cdv A outer s H hG hr => (pss_one (ps_ret (pe_and (pe_df D_is_number hG (hr.mono (by decide)) (by rfl) (pa_cons (pv 0) pa_nil)) (pe_one (pe_cmpR op_ge (pv 0) (pv 1) (nomark _))))))
end
end Kd
namespace Kd
open PySem PySem.Spec PyProof.Rows L2 Xg Dv
section
variable {P : Program} {w : World} {K : PySem.W.Frag} {mg : Str → Option Value} {base : Heap}
theorem sc_is_tuple_of : FnScope ["thing", "many"] ["thing", "many"] (defScope (topS 3)) := ⟨rfl, rfl, rfl, by decide +kernel, rfl, by decide +kernel, by decide +kernel⟩
theorem ok_is_tuple_of {f : Addr} {fd : FuncData} (F : Fun K "is_tuple_of" "is_tuple_of" (topS 3) f fd) (N : Nm mg) : FnG P w K mg base 1 f fd ["thing", "many"] (spD K 0 F_is_tuple_of) := by
  unfold F_is_tuple_of
  exact okD F sc_is_tuple_of (s_is_tuple_of K) fun cdv A outer s H hG hr => (pss_one (ps_ret (pe_and (pe_callB call_isi (by rfl) N.isinstance (by decide +kernel) (pa_cons (pv 0) (pa_cons (pe_bltn (v := .ty "tuple") (by rfl) N.tuple (by decide +kernel) rfl) pa_nil))) (pe_one (pe_cmpR (op_eqX hr.units) (pe_callB call_len (by rfl) N.len PySem.boot_len (pa_cons (pv 0) pa_nil)) (pv 1) (nomark _))))))
end
end Kd
namespace Kd
open PySem PySem.Spec PyProof.Rows L2 Xg Dv
section
variable {P : Program} {w : World} {K : PySem.W.Frag} {mg : Str → Option Value} {base : Heap}
theorem sc_is_turn : FnScope ["thing", "way", "many"] ["thing"] (defScope (topS 8)) := ⟨rfl, rfl, rfl, by decide +kernel, rfl, by decide +kernel, by decide +kernel⟩
theorem ok_is_turn {f : Addr} {fd : FuncData} (F : Fun K "is_turn" "is_turn" (topS 8) f fd) (N : Nm mg) (c_BACK : ∃ u, mg "BACK" = some u ∧ L2.RelV (.str "back") u) (c_FORTH : ∃ u, mg "FORTH" = some u ∧ L2.RelV (.str "forth") u) (D_is_number_from : Df P w K mg base "is_number_from" ["thing", "least"] 2 (spD K 0 F_is_number_from)) (D_is_tuple_of : Df P w K mg base "is_tuple_of" ["thing", "many"] 1 (spD K 0 F_is_tuple_of)) : FnG P w K mg base 3 f fd ["thing"] (spD K 0 F_is_turn) := by
  unfold F_is_turn
  exact okD F sc_is_turn (s_is_turn K) fun cdv A outer s H hG hr => (pss_cons (ps_if (pt_not (pt_val (pe_df D_is_tuple_of hG (hr.mono (by decide)) (by rfl) (pa_cons (pv 0) (pa_cons pe_int pa_nil))))) (pss_one (ps_ret pe_bl)) pss_nil) (pss_cons (ps_asg (pv 0) (pg_or (pg_tup rfl (pgs_cons (pg_name (i := 1) sc_is_turn.nd rfl (by first | exact .inl rfl | exact .inr rfl)) (pgs_cons (pg_name (i := 2) sc_is_turn.nd rfl (by first | exact .inl rfl | exact .inr rfl)) pgs_nil))) (pg_lst rfl (pgs_cons (pg_name (i := 1) sc_is_turn.nd rfl (by first | exact .inl rfl | exact .inr rfl)) (pgs_cons (pg_name (i := 2) sc_is_turn.nd rfl (by first | exact .inl rfl | exact .inr rfl)) pgs_nil))))) (pss_one (ps_ret (pe_and (L2.pe_or (pe_cmpR (op_eqX hr.units) (pv 1) (pe_con (v := .str "forth") (by rfl) c_FORTH) (nomark _)) (pe_one (pe_cmpR (op_eqX hr.units) (pv 1) (pe_con (v := .str "back") (by rfl) c_BACK) (nomark _)))) (pe_one (pe_df D_is_number_from hG (hr.mono (by decide)) (by rfl) (pa_cons (pv 2) (pa_cons pe_int pa_nil)))))))))
end
end Kd
namespace Kd
open PySem PySem.Spec PyProof.Rows L2 Xg Dv
section
variable {P : Program} {w : World} {K : PySem.W.Frag} {mg : Str → Option Value} {base : Heap}
theorem sc_is_turns : FnScope ["thing", "one"] ["thing"] (defScope (topS 7)) := ⟨rfl, rfl, rfl, by decide +kernel, rfl, by decide +kernel, by decide +kernel⟩
theorem ok_is_turns {f : Addr} {fd : FuncData} (F : Fun K "is_turns" "is_turns" (topS 7) f fd) (N : Nm mg) (D_is_turn : Df P w K mg base "is_turn" ["thing"] 3 (spD K 0 F_is_turn)) : FnG P w K mg base 4 f fd ["thing"] (spD K 0 F_is_turns) := by
  unfold F_is_turns
  exact okD F sc_is_turns (s_is_turns K) fun cdv A outer s H hG hr => (pss_one (ps_ret (pe_and (pe_callB call_isi (by rfl) N.isinstance (by decide +kernel) (pa_cons (pv 0) (pa_cons (pe_bltn (v := .ty "list") (by rfl) N.list (by decide +kernel) rfl) pa_nil))) (pe_one (pe_callB (cr_all rfl) (by rfl) N.all (by decide +kernel) (pa_cons (pe_lc (own := [("one", 1)]) rfl sc_is_turns.nd (Pw.pi_seq (pv 0)) (blkOk_by (N := ["thing", "one"]) (sc := defScope (topS 7)) (by decide +kernel)) (fun _ _ _ _ _ => (pg_name (i := 1) sc_is_turns.nd rfl (by first | exact .inl rfl | exact .inr rfl))) (fun _ _ _ _ _ => pts_nil) (fun _ _ _ _ _ => (pe_df D_is_turn hG (hr.mono (by decide)) (by rfl) (pa_cons (pv 1) pa_nil)))) pa_nil))))))
end
end Kd
namespace Kd
open PySem PySem.Spec PyProof.Rows L2 Xg Dv
section
variable {P : Program} {w : World} {K : PySem.W.Frag} {mg : Str → Option Value} {base : Heap}
theorem sc_joined : FnScope ["turns", "told", "way", "many"] ["turns"] (defScope (topS 9)) := ⟨rfl, rfl, rfl, by decide +kernel, rfl, by decide +kernel, by decide +kernel⟩
theorem ok_joined {f : Addr} {fd : FuncData} (F : Fun K "joined" "joined" (topS 9) f fd) (N : Nm mg) : FnG P w K mg base 1 f fd ["turns"] (spD K 0 F_joined) := by
  unfold F_joined
  exact okD F sc_joined (s_joined K) fun cdv A outer s H hG hr => (pss_cons (ps_set (i := 1) sc_joined.nd rfl (by first | exact .inl rfl | exact .inr rfl) (pe_lst pa_nil)) (pss_cons (ps_for PassesOwn.never rfl (Pw.pi_seq (pv 0)) (pg_or (pg_tup rfl (pgs_cons (pg_name (i := 2) sc_joined.nd rfl (by first | exact .inl rfl | exact .inr rfl)) (pgs_cons (pg_name (i := 3) sc_joined.nd rfl (by first | exact .inl rfl | exact .inr rfl)) pgs_nil))) (pg_lst rfl (pgs_cons (pg_name (i := 2) sc_joined.nd rfl (by first | exact .inl rfl | exact .inr rfl)) (pgs_cons (pg_name (i := 3) sc_joined.nd rfl (by first | exact .inl rfl | exact .inr rfl)) pgs_nil)))) (pss_one (ps_if (L2.PW.pt (pw_and (pt_truth (pv 1) (by intro _; rfl)) (pw_and1 (pt_cmpR (op_eqX hr.units) (pe_ix ix_seq (pe_ix ix_seq (pv 1) (pe_un un_neg pe_int) (fun _ _ => rfl)) pe_int (fun _ _ => rfl)) (pv 2) (nomark _))))) (pss_one (ps_asg (pe_tup (pa_cons (pv 2) (pa_cons (pe_op op_addX (pe_ix ix_seq (pe_ix ix_seq (pv 1) (pe_un un_neg pe_int) (fun _ _ => rfl)) pe_int (fun _ _ => rfl)) (pv 3)) pa_nil))) (pg_sub (pv 1) (pe_un un_neg pe_int) set_list))) (pss_one (ps_expr (pe_bm PySem.F.plainAttrs_list PySem.F.slot_list_append PySem.F.type_list_append mt_append (pv 1) (pa_cons (pe_tup (pa_cons (pv 2) (pa_cons (pv 3) pa_nil))) pa_nil))))))) (pss_one (ps_ret (pv 1)))))
theorem okL_joined {f : Addr} {fd : FuncData} (F : Fun K "joined" "joined" (topS 9) f fd) (N : Nm mg) : FnG P w K mg base 1 f fd ["turns"] (spL K 0 L_joined) := by
  unfold L_joined
  exact okL F sc_joined (s_joined K) fun cdv A outer s H hG hr => (pss_cons (ps_set (i := 1) sc_joined.nd rfl (by first | exact .inl rfl | exact .inr rfl) (pe_lst pa_nil)) (pss_cons (ps_for PassesOwn.never rfl (Pw.pi_seq (pv 0)) (pg_or (pg_tup rfl (pgs_cons (pg_name (i := 2) sc_joined.nd rfl (by first | exact .inl rfl | exact .inr rfl)) (pgs_cons (pg_name (i := 3) sc_joined.nd rfl (by first | exact .inl rfl | exact .inr rfl)) pgs_nil))) (pg_lst rfl (pgs_cons (pg_name (i := 2) sc_joined.nd rfl (by first | exact .inl rfl | exact .inr rfl)) (pgs_cons (pg_name (i := 3) sc_joined.nd rfl (by first | exact .inl rfl | exact .inr rfl)) pgs_nil)))) (pss_one (ps_if (L2.PW.pt (pw_and (pt_truth (pv 1) (by intro _; rfl)) (pw_and1 (pt_cmpR (op_eqX hr.units) (pe_ix ix_seq (pe_ix ix_seq (pv 1) (pe_un un_neg pe_int) (fun _ _ => rfl)) pe_int (fun _ _ => rfl)) (pv 2) (nomark _))))) (pss_one (ps_asg (pe_tup (pa_cons (pv 2) (pa_cons (pe_op op_addX (pe_ix ix_seq (pe_ix ix_seq (pv 1) (pe_un un_neg pe_int) (fun _ _ => rfl)) pe_int (fun _ _ => rfl)) (pv 3)) pa_nil))) (pg_sub (pv 1) (pe_un un_neg pe_int) set_list))) (pss_one (ps_expr (pe_bm PySem.F.plainAttrs_list PySem.F.slot_list_append PySem.F.type_list_append mt_append (pv 1) (pa_cons (pe_tup (pa_cons (pv 2) (pa_cons (pv 3) pa_nil))) pa_nil))))))) (pss_one (ps_ret (pv 1)))))
end
end Kd
namespace Kd
open PySem PySem.Spec PyProof.Rows L2 Xg Dv
section
variable {P : Program} {w : World} {K : PySem.W.Frag} {mg : Str → Option Value} {base : Heap}
theorem sc_is_between_longer : FnScope ["turns", "at"] ["turns", "at"] (defScope (topS 10)) := ⟨rfl, rfl, rfl, by decide +kernel, rfl, by decide +kernel, by decide +kernel⟩
theorem ok_is_between_longer {f : Addr} {fd : FuncData} (F : Fun K "is_between_longer" "is_between_longer" (topS 10) f fd) (N : Nm mg) : FnG P w K mg base 1 f fd ["turns", "at"] (spD K 0 F_is_between_longer) := by
  unfold F_is_between_longer
  exact okD F sc_is_between_longer (s_is_between_longer K) fun cdv A outer s H hG hr => (pss_one (ps_ret (pe_cmpR op_le (pe_ix ix_seq (pe_ix ix_seq (pv 0) (pv 1) (fun _ _ => rfl)) pe_int (fun _ _ => rfl)) (pe_callB (call_min2 rfl) (by rfl) N.min (by decide +kernel) (pa_cons (pe_ix ix_seq (pe_ix ix_seq (pv 0) (pe_op op_sub (pv 1) pe_int) (fun _ _ => rfl)) pe_int (fun _ _ => rfl)) (pa_cons (pe_ix ix_seq (pe_ix ix_seq (pv 0) (pe_op op_addX (pv 1) pe_int) (fun _ _ => rfl)) pe_int (fun _ _ => rfl)) pa_nil))) (nomark _))))
end
end Kd
namespace Kd
open PySem PySem.Spec PyProof.Rows L2 Xg Dv
section
variable {P : Program} {w : World} {K : PySem.W.Frag} {mg : Str → Option Value} {base : Heap}
theorem sc_made_one : FnScope ["three", "way", "first", "other", "midst", "same", "last"] ["three"] (defScope (topS 12)) := ⟨rfl, rfl, rfl, by decide +kernel, rfl, by decide +kernel, by decide +kernel⟩
theorem ok_made_one {f : Addr} {fd : FuncData} (F : Fun K "made_one" "made_one" (topS 12) f fd) (N : Nm mg) : FnG P w K mg base 1 f fd ["three"] (spD K 0 F_made_one) := by
  unfold F_made_one
  exact okD F sc_made_one (s_made_one K) fun cdv A outer s H hG hr => (pss_cons (ps_asg (pv 0) (pg_or (pg_tup rfl (pgs_cons (pg_or (pg_tup rfl (pgs_cons (pg_name (i := 1) sc_made_one.nd rfl (by first | exact .inl rfl | exact .inr rfl)) (pgs_cons (pg_name (i := 2) sc_made_one.nd rfl (by first | exact .inl rfl | exact .inr rfl)) pgs_nil))) (pg_lst rfl (pgs_cons (pg_name (i := 1) sc_made_one.nd rfl (by first | exact .inl rfl | exact .inr rfl)) (pgs_cons (pg_name (i := 2) sc_made_one.nd rfl (by first | exact .inl rfl | exact .inr rfl)) pgs_nil)))) (pgs_cons (pg_or (pg_tup rfl (pgs_cons (pg_name (i := 3) sc_made_one.nd rfl (by first | exact .inl rfl | exact .inr rfl)) (pgs_cons (pg_name (i := 4) sc_made_one.nd rfl (by first | exact .inl rfl | exact .inr rfl)) pgs_nil))) (pg_lst rfl (pgs_cons (pg_name (i := 3) sc_made_one.nd rfl (by first | exact .inl rfl | exact .inr rfl)) (pgs_cons (pg_name (i := 4) sc_made_one.nd rfl (by first | exact .inl rfl | exact .inr rfl)) pgs_nil)))) (pgs_cons (pg_or (pg_tup rfl (pgs_cons (pg_name (i := 5) sc_made_one.nd rfl (by first | exact .inl rfl | exact .inr rfl)) (pgs_cons (pg_name (i := 6) sc_made_one.nd rfl (by first | exact .inl rfl | exact .inr rfl)) pgs_nil))) (pg_lst rfl (pgs_cons (pg_name (i := 5) sc_made_one.nd rfl (by first | exact .inl rfl | exact .inr rfl)) (pgs_cons (pg_name (i := 6) sc_made_one.nd rfl (by first | exact .inl rfl | exact .inr rfl)) pgs_nil)))) pgs_nil)))) (pg_lst rfl (pgs_cons (pg_or (pg_tup rfl (pgs_cons (pg_name (i := 1) sc_made_one.nd rfl (by first | exact .inl rfl | exact .inr rfl)) (pgs_cons (pg_name (i := 2) sc_made_one.nd rfl (by first | exact .inl rfl | exact .inr rfl)) pgs_nil))) (pg_lst rfl (pgs_cons (pg_name (i := 1) sc_made_one.nd rfl (by first | exact .inl rfl | exact .inr rfl)) (pgs_cons (pg_name (i := 2) sc_made_one.nd rfl (by first | exact .inl rfl | exact .inr rfl)) pgs_nil)))) (pgs_cons (pg_or (pg_tup rfl (pgs_cons (pg_name (i := 3) sc_made_one.nd rfl (by first | exact .inl rfl | exact .inr rfl)) (pgs_cons (pg_name (i := 4) sc_made_one.nd rfl (by first | exact .inl rfl | exact .inr rfl)) pgs_nil))) (pg_lst rfl (pgs_cons (pg_name (i := 3) sc_made_one.nd rfl (by first | exact .inl rfl | exact .inr rfl)) (pgs_cons (pg_name (i := 4) sc_made_one.nd rfl (by first | exact .inl rfl | exact .inr rfl)) pgs_nil)))) (pgs_cons (pg_or (pg_tup rfl (pgs_cons (pg_name (i := 5) sc_made_one.nd rfl (by first | exact .inl rfl | exact .inr rfl)) (pgs_cons (pg_name (i := 6) sc_made_one.nd rfl (by first | exact .inl rfl | exact .inr rfl)) pgs_nil))) (pg_lst rfl (pgs_cons (pg_name (i := 5) sc_made_one.nd rfl (by first | exact .inl rfl | exact .inr rfl)) (pgs_cons (pg_name (i := 6) sc_made_one.nd rfl (by first | exact .inl rfl | exact .inr rfl)) pgs_nil)))) pgs_nil)))))) (pss_one (ps_ret (pe_tup (pa_cons (pv 1) (pa_cons (pe_op op_addX (pe_op op_sub (pv 2) (pv 4)) (pv 6)) pa_nil))))))
end
end Kd
namespace Kd
open PySem PySem.Spec PyProof.Rows L2 Xg Dv
section
variable {P : Program} {w : World} {K : PySem.W.Frag} {mg : Str → Option Value} {base : Heap}
theorem sc_forgotten : FnScope ["turns", "told", "turn"] ["turns"] (defScope (topS 11)) := ⟨rfl, rfl, rfl, by decide +kernel, rfl, by decide +kernel, by decide +kernel⟩
theorem ok_forgotten {f : Addr} {fd : FuncData} (F : Fun K "forgotten" "forgotten" (topS 11) f fd) (N : Nm mg) (D_is_between_longer : Df P w K mg base "is_between_longer" ["turns", "at"] 1 (spD K 0 F_is_between_longer)) (D_joined : Df P w K mg base "joined" ["turns"] 1 (spD K 0 F_joined)) (DL_joined : Df P w K mg base "joined" ["turns"] 1 (spL K 0 L_joined)) (D_made_one : Df P w K mg base "made_one" ["three"] 1 (spD K 0 F_made_one)) : FnG P w K mg base 2 f fd ["turns"] (spD K 0 F_forgotten) := by
  unfold F_forgotten
  exact okD F sc_forgotten (s_forgotten K) fun cdv A outer s H hG hr => (pss_cons (ps_set (i := 1) sc_forgotten.nd rfl (by first | exact .inl rfl | exact .inr rfl) (pe_lst pa_nil)) (pss_cons (ps_for PassesOwn.never rfl (Pw.pi_seq (pe_df D_joined hG (hr.mono (by decide)) (by rfl) (pa_cons (pv 0) pa_nil))) (pg_name (i := 2) sc_forgotten.nd rfl (by first | exact .inl rfl | exact .inr rfl)) (pss_cons (ps_expr (pe_bm PySem.F.plainAttrs_list PySem.F.slot_list_append PySem.F.type_list_append mt_append (pv 1) (pa_cons (pv 2) pa_nil))) (pss_one (ps_while PassesOwn.never (L2.PW.pt (pw_and (pt_cmpR op_ge (pe_callB call_len (by rfl) N.len PySem.boot_len (pa_cons (pv 1) pa_nil)) pe_int (nomark _)) (pw_and1 (pt_val (pe_df D_is_between_longer hG (hr.mono (by decide)) (by rfl) (pa_cons (pv 1) (pa_cons (pe_op op_sub (pe_callB call_len (by rfl) N.len PySem.boot_len (pa_cons (pv 1) pa_nil)) pe_int) pa_nil))))))) (pss_one (ps_asg (pe_lst (pa_cons (pe_df D_made_one hG (hr.mono (by decide)) (by rfl) (pa_cons (pe_slice sl_X (pv 1) (po_some (pe_un un_neg pe_int)) po_none) pa_nil)) pa_nil)) (Sx.pg_cut (pv 1) (po_some (pe_un un_neg pe_int)) po_none))))))) (pss_one (ps_ret (pv 1)))))
theorem okL_forgotten {f : Addr} {fd : FuncData} (F : Fun K "forgotten" "forgotten" (topS 11) f fd) (N : Nm mg) (D_is_between_longer : Df P w K mg base "is_between_longer" ["turns", "at"] 1 (spD K 0 F_is_between_longer)) (D_joined : Df P w K mg base "joined" ["turns"] 1 (spD K 0 F_joined)) (DL_joined : Df P w K mg base "joined" ["turns"] 1 (spL K 0 L_joined)) (D_made_one : Df P w K mg base "made_one" ["three"] 1 (spD K 0 F_made_one)) : FnG P w K mg base 2 f fd ["turns"] (spL K 0 L_forgotten) := by
  unfold L_forgotten
  exact okL F sc_forgotten (s_forgotten K) fun cdv A outer s H hG hr => (pss_cons (ps_set (i := 1) sc_forgotten.nd rfl (by first | exact .inl rfl | exact .inr rfl) (pe_lst pa_nil)) (pss_cons (ps_for PassesOwn.never rfl (Pw.pi_seq (pe_df D_joined hG (hr.mono (by decide)) (by rfl) (pa_cons (pv 0) pa_nil))) (pg_name (i := 2) sc_forgotten.nd rfl (by first | exact .inl rfl | exact .inr rfl)) (pss_cons (ps_expr (pe_bm PySem.F.plainAttrs_list PySem.F.slot_list_append PySem.F.type_list_append mt_append (pv 1) (pa_cons (pv 2) pa_nil))) (pss_one (ps_while PassesOwn.never (L2.PW.pt (pw_and (pt_cmpR op_ge (pe_callB call_len (by rfl) N.len PySem.boot_len (pa_cons (pv 1) pa_nil)) pe_int (nomark _)) (pw_and1 (pt_val (pe_df D_is_between_longer hG (hr.mono (by decide)) (by rfl) (pa_cons (pv 1) (pa_cons (pe_op op_sub (pe_callB call_len (by rfl) N.len PySem.boot_len (pa_cons (pv 1) pa_nil)) pe_int) pa_nil))))))) (pss_one (ps_asg (pe_lst (pa_cons (pe_df D_made_one hG (hr.mono (by decide)) (by rfl) (pa_cons (pe_slice sl_X (pv 1) (po_some (pe_un un_neg pe_int)) po_none) pa_nil)) pa_nil)) (Sx.pg_cut (pv 1) (po_some (pe_un un_neg pe_int)) po_none))))))) (pss_one (ps_ret (pv 1)))))
end
end Kd
namespace Kd
open PySem PySem.Spec PyProof.Rows L2 Xg Dv
section
variable {P : Program} {w : World} {K : PySem.W.Frag} {mg : Str → Option Value} {base : Heap}
theorem sc_is_forgotten : FnScope ["thing"] ["thing"] (defScope (topS 13)) := ⟨rfl, rfl, rfl, by decide +kernel, rfl, by decide +kernel, by decide +kernel⟩
theorem ok_is_forgotten {f : Addr} {fd : FuncData} (F : Fun K "is_forgotten" "is_forgotten" (topS 13) f fd) (N : Nm mg) (D_forgotten : Df P w K mg base "forgotten" ["turns"] 2 (spD K 0 F_forgotten)) (DL_forgotten : Df P w K mg base "forgotten" ["turns"] 2 (spL K 0 L_forgotten)) (D_is_turns : Df P w K mg base "is_turns" ["thing"] 4 (spD K 0 F_is_turns)) : FnG P w K mg base 5 f fd ["thing"] (spD K 0 F_is_forgotten) := by
  unfold F_is_forgotten
  exact okD F sc_is_forgotten (s_is_forgotten K) fun cdv A outer s H hG hr => (pss_one (ps_ret (pe_and (pe_df D_is_turns hG (hr.mono (by decide)) (by rfl) (pa_cons (pv 0) pa_nil)) (pe_one (pe_cmpR (op_eqX hr.units) (pe_df D_forgotten hG (hr.mono (by decide)) (by rfl) (pa_cons (pv 0) pa_nil)) (pv 0) (nomark _))))))
end
end Kd
namespace Kd
open PySem PySem.Spec PyProof.Rows L2 Xg Dv
section
variable {P : Program} {w : World} {K : PySem.W.Frag} {mg : Str → Option Value} {base : Heap}
theorem sc__law_of : FnScope ["_law_box_here", "_law_some"] ["_law_box_here", "_law_some"] (defScope (topS 18)) := ⟨rfl, rfl, rfl, by decide +kernel, rfl, by decide +kernel, by decide +kernel⟩
theorem ok__law_of {f : Addr} {fd : FuncData} (F : Fun K "_law_of" "_law_of" (topS 18) f fd) (N : Nm mg) (D__law_take : Df P w K mg base "_law_take" ["_law_box_here", "_law_bound"] 1 (spD K 1 F_take)) : FnG P w K mg base 2 f fd ["_law_box_here", "_law_some"] (spD K 1 F__law_of) := by
  unfold F__law_of
  exact okD F sc__law_of (s__law_of K) fun cdv A outer s H hG hr => (pss_one (ps_ret (pe_ix ix_seq (pv 1) (pe_df D__law_take hG (hr.mono (by decide)) (by rfl) (pa_cons (pv 0) (pa_cons (pe_callB call_len (by rfl) N.len PySem.boot_len (pa_cons (pv 1) pa_nil)) pa_nil))) (fun _ _ => rfl))))
end
end Kd
namespace Kd
open PySem PySem.Spec PyProof.Rows L2 Xg Dv
section
variable {P : Program} {w : World} {K : PySem.W.Frag} {mg : Str → Option Value} {base : Heap}
theorem sc__law_turns : FnScope ["_law_box_here", "_law_size", "_law_long", "_law_told", "_law_sense", "_law_turn"] ["_law_box_here", "_law_size", "_law_long"] (defScope (topS 19)) := ⟨rfl, rfl, rfl, by decide +kernel, rfl, by decide +kernel, by decide +kernel⟩
theorem ok__law_turns {f : Addr} {fd : FuncData} (F : Fun K "_law_turns" "_law_turns" (topS 19) f fd) (N : Nm mg) (D__law_take : Df P w K mg base "_law_take" ["_law_box_here", "_law_bound"] 1 (spD K 1 F_take)) : FnG P w K mg base 2 f fd ["_law_box_here", "_law_size", "_law_long"] (spD K 202 F__law_turns) := by
  unfold F__law_turns
  exact okD F sc__law_turns (s__law_turns K) fun cdv A outer s H hG hr => (pss_cons (ps_par (i := 3) (j := 4) rfl sc__law_turns.nd rfl rfl (by decide) rfl rfl (pa_cons (pe_lst pa_nil) (pa_cons (pe_ix ix_seq (pe_lst (pa_cons pe_str (pa_cons pe_str pa_nil))) (pe_df D__law_take hG (hr.mono (by decide)) (by rfl) (pa_cons (pv 0) (pa_cons pe_int pa_nil))) (fun _ _ => rfl)) pa_nil)) (by rfl)) (pss_cons (ps_for PassesOwn.never rfl (pi_range1 (by rfl) N.range (pa_cons (pe_df D__law_take hG (hr.mono (by decide)) (by rfl) (pa_cons (pv 0) (pa_cons (pe_op op_addX (pv 1) pe_int) pa_nil))) pa_nil)) (pg_name (i := 5) sc__law_turns.nd rfl (by first | exact .inl rfl | exact .inr rfl)) (pss_cons (ps_expr (pe_bm PySem.F.plainAttrs_list PySem.F.slot_list_append PySem.F.type_list_append mt_append (pv 3) (pa_cons (pe_tup (pa_cons (pv 4) (pa_cons (pe_op op_addX pe_int (pe_df D__law_take hG (hr.mono (by decide)) (by rfl) (pa_cons (pv 0) (pa_cons (pv 2) pa_nil)))) pa_nil))) pa_nil))) (pss_one (ps_set (i := 4) sc__law_turns.nd rfl (by first | exact .inl rfl | exact .inr rfl) (pe_ifExp (pt_cmpR (op_eqX hr.units) (pe_df D__law_take hG (hr.mono (by decide)) (by rfl) (pa_cons (pv 0) (pa_cons pe_int pa_nil))) pe_int (nomark _)) (pv 4) (pe_dget (Nat.lt_of_le_of_lt (Nat.add_le_add_left (by decide : 1 ≤ 64) _) hr.units) (pe_disp (pps_cons pe_str pe_str (pps_cons pe_str pe_str pps_nil)) rfl rfl (by simp) (by decide)) (pv 4) (fun _ _ => rfl))))))) (pss_one (ps_ret (pv 3)))))
theorem okL__law_turns {f : Addr} {fd : FuncData} (F : Fun K "_law_turns" "_law_turns" (topS 19) f fd) (N : Nm mg) (D__law_take : Df P w K mg base "_law_take" ["_law_box_here", "_law_bound"] 1 (spD K 1 F_take)) : FnG P w K mg base 2 f fd ["_law_box_here", "_law_size", "_law_long"] (spL K 202 L__law_turns) := by
  unfold L__law_turns
  exact okL F sc__law_turns (s__law_turns K) fun cdv A outer s H hG hr => (pss_cons (ps_par (i := 3) (j := 4) rfl sc__law_turns.nd rfl rfl (by decide) rfl rfl (pa_cons (pe_lst pa_nil) (pa_cons (pe_ix ix_seq (pe_lst (pa_cons pe_str (pa_cons pe_str pa_nil))) (pe_df D__law_take hG (hr.mono (by decide)) (by rfl) (pa_cons (pv 0) (pa_cons pe_int pa_nil))) (fun _ _ => rfl)) pa_nil)) (by rfl)) (pss_cons (ps_for PassesOwn.never rfl (pi_range1 (by rfl) N.range (pa_cons (pe_df D__law_take hG (hr.mono (by decide)) (by rfl) (pa_cons (pv 0) (pa_cons (pe_op op_addX (pv 1) pe_int) pa_nil))) pa_nil)) (pg_name (i := 5) sc__law_turns.nd rfl (by first | exact .inl rfl | exact .inr rfl)) (pss_cons (ps_expr (pe_bm PySem.F.plainAttrs_list PySem.F.slot_list_append PySem.F.type_list_append mt_append (pv 3) (pa_cons (pe_tup (pa_cons (pv 4) (pa_cons (pe_op op_addX pe_int (pe_df D__law_take hG (hr.mono (by decide)) (by rfl) (pa_cons (pv 0) (pa_cons (pv 2) pa_nil)))) pa_nil))) pa_nil))) (pss_one (ps_set (i := 4) sc__law_turns.nd rfl (by first | exact .inl rfl | exact .inr rfl) (pe_ifExp (pt_cmpR (op_eqX hr.units) (pe_df D__law_take hG (hr.mono (by decide)) (by rfl) (pa_cons (pv 0) (pa_cons pe_int pa_nil))) pe_int (nomark _)) (pv 4) (pe_dget (Nat.lt_of_le_of_lt (Nat.add_le_add_left (by decide : 1 ≤ 64) _) hr.units) (pe_disp (pps_cons pe_str pe_str (pps_cons pe_str pe_str pps_nil)) rfl rfl (by simp) (by decide)) (pv 4) (fun _ _ => rfl))))))) (pss_one (ps_ret (pv 3)))))
end
end Kd
namespace Kd
open PySem PySem.Spec PyProof.Rows L2 Xg Dv
section
variable {P : Program} {w : World} {K : PySem.W.Frag} {mg : Str → Option Value} {base : Heap}
theorem sc__law_joined : FnScope ["_law_some", "_law_told", "_law_sense", "_law_long"] ["_law_some"] (defScope (topS 20)) := ⟨rfl, rfl, rfl, by decide +kernel, rfl, by decide +kernel, by decide +kernel⟩
theorem ok__law_joined {f : Addr} {fd : FuncData} (F : Fun K "_law_joined" "_law_joined" (topS 20) f fd) (N : Nm mg) : FnG P w K mg base 1 f fd ["_law_some"] (spD K 0 F__law_joined) := by
  unfold F__law_joined
  exact okD F sc__law_joined (s__law_joined K) fun cdv A outer s H hG hr => (pss_cons (ps_set (i := 1) sc__law_joined.nd rfl (by first | exact .inl rfl | exact .inr rfl) (pe_lst pa_nil)) (pss_cons (ps_for PassesOwn.never rfl (Pw.pi_seq (pv 0)) (pg_or (pg_tup rfl (pgs_cons (pg_name (i := 2) sc__law_joined.nd rfl (by first | exact .inl rfl | exact .inr rfl)) (pgs_cons (pg_name (i := 3) sc__law_joined.nd rfl (by first | exact .inl rfl | exact .inr rfl)) pgs_nil))) (pg_lst rfl (pgs_cons (pg_name (i := 2) sc__law_joined.nd rfl (by first | exact .inl rfl | exact .inr rfl)) (pgs_cons (pg_name (i := 3) sc__law_joined.nd rfl (by first | exact .inl rfl | exact .inr rfl)) pgs_nil)))) (pss_one (ps_if (L2.PW.pt (pw_and (pt_cmpR (op_neX hr.units) (pv 1) (pe_lst pa_nil) (nomark _)) (pw_and1 (pt_cmpR (op_eqX hr.units) (pe_ix ix_seq (pe_ix ix_seq (pv 1) (pe_un un_neg pe_int) (fun _ _ => rfl)) pe_int (fun _ _ => rfl)) (pv 2) (nomark _))))) (pss_one (ps_asg (pe_tup (pa_cons (pv 2) (pa_cons (pe_op op_addX (pe_ix ix_seq (pe_ix ix_seq (pv 1) (pe_un un_neg pe_int) (fun _ _ => rfl)) pe_int (fun _ _ => rfl)) (pv 3)) pa_nil))) (pg_sub (pv 1) (pe_un un_neg pe_int) set_list))) (pss_one (ps_expr (pe_bm PySem.F.plainAttrs_list PySem.F.slot_list_append PySem.F.type_list_append mt_append (pv 1) (pa_cons (pe_tup (pa_cons (pv 2) (pa_cons (pv 3) pa_nil))) pa_nil))))))) (pss_one (ps_ret (pv 1)))))
theorem okL__law_joined {f : Addr} {fd : FuncData} (F : Fun K "_law_joined" "_law_joined" (topS 20) f fd) (N : Nm mg) : FnG P w K mg base 1 f fd ["_law_some"] (spL K 0 L__law_joined) := by
  unfold L__law_joined
  exact okL F sc__law_joined (s__law_joined K) fun cdv A outer s H hG hr => (pss_cons (ps_set (i := 1) sc__law_joined.nd rfl (by first | exact .inl rfl | exact .inr rfl) (pe_lst pa_nil)) (pss_cons (ps_for PassesOwn.never rfl (Pw.pi_seq (pv 0)) (pg_or (pg_tup rfl (pgs_cons (pg_name (i := 2) sc__law_joined.nd rfl (by first | exact .inl rfl | exact .inr rfl)) (pgs_cons (pg_name (i := 3) sc__law_joined.nd rfl (by first | exact .inl rfl | exact .inr rfl)) pgs_nil))) (pg_lst rfl (pgs_cons (pg_name (i := 2) sc__law_joined.nd rfl (by first | exact .inl rfl | exact .inr rfl)) (pgs_cons (pg_name (i := 3) sc__law_joined.nd rfl (by first | exact .inl rfl | exact .inr rfl)) pgs_nil)))) (pss_one (ps_if (L2.PW.pt (pw_and (pt_cmpR (op_neX hr.units) (pv 1) (pe_lst pa_nil) (nomark _)) (pw_and1 (pt_cmpR (op_eqX hr.units) (pe_ix ix_seq (pe_ix ix_seq (pv 1) (pe_un un_neg pe_int) (fun _ _ => rfl)) pe_int (fun _ _ => rfl)) (pv 2) (nomark _))))) (pss_one (ps_asg (pe_tup (pa_cons (pv 2) (pa_cons (pe_op op_addX (pe_ix ix_seq (pe_ix ix_seq (pv 1) (pe_un un_neg pe_int) (fun _ _ => rfl)) pe_int (fun _ _ => rfl)) (pv 3)) pa_nil))) (pg_sub (pv 1) (pe_un un_neg pe_int) set_list))) (pss_one (ps_expr (pe_bm PySem.F.plainAttrs_list PySem.F.slot_list_append PySem.F.type_list_append mt_append (pv 1) (pa_cons (pe_tup (pa_cons (pv 2) (pa_cons (pv 3) pa_nil))) pa_nil))))))) (pss_one (ps_ret (pv 1)))))
end
end Kd
namespace Kd
open PySem PySem.Spec PyProof.Rows L2 Xg Dv
section
variable {P : Program} {w : World} {K : PySem.W.Frag} {mg : Str → Option Value} {base : Heap}
theorem sc__law_spots : FnScope ["_law_some", "_law_at"] ["_law_some"] (defScope (topS 21)) := ⟨rfl, rfl, rfl, by decide +kernel, rfl, by decide +kernel, by decide +kernel⟩
theorem ok__law_spots {f : Addr} {fd : FuncData} (F : Fun K "_law_spots" "_law_spots" (topS 21) f fd) (N : Nm mg) : FnG P w K mg base 1 f fd ["_law_some"] (spD K 0 F__law_spots) := by
  unfold F__law_spots
  exact okD F sc__law_spots (s__law_spots K) fun cdv A outer s H hG hr => (pss_one (ps_ret (pe_lc (own := [("_law_at", 1)]) rfl sc__law_spots.nd (pi_range2 (by rfl) N.range (pa_cons pe_int (pa_cons (pe_op op_sub (pe_callB call_len (by rfl) N.len PySem.boot_len (pa_cons (pv 0) pa_nil)) pe_int) pa_nil))) (blkOk_by (N := ["_law_some", "_law_at"]) (sc := defScope (topS 21)) (by decide +kernel)) (fun _ _ _ _ _ => (pg_name (i := 1) sc__law_spots.nd rfl (by first | exact .inl rfl | exact .inr rfl))) (fun _ _ _ _ _ => (pts_one (pt_cmpR op_le (pe_ix ix_seq (pe_ix ix_seq (pv 0) (pv 1) (fun _ _ => rfl)) pe_int (fun _ _ => rfl)) (pe_callB (call_min2 rfl) (by rfl) N.min (by decide +kernel) (pa_cons (pe_ix ix_seq (pe_ix ix_seq (pv 0) (pe_op op_sub (pv 1) pe_int) (fun _ _ => rfl)) pe_int (fun _ _ => rfl)) (pa_cons (pe_ix ix_seq (pe_ix ix_seq (pv 0) (pe_op op_addX (pv 1) pe_int) (fun _ _ => rfl)) pe_int (fun _ _ => rfl)) pa_nil))) (nomark _)))) (fun _ _ _ _ _ => (pv 1)))))
theorem okL__law_spots {f : Addr} {fd : FuncData} (F : Fun K "_law_spots" "_law_spots" (topS 21) f fd) (N : Nm mg) : FnG P w K mg base 1 f fd ["_law_some"] (spL K 0 L__law_spots) := by
  unfold L__law_spots
  exact okL F sc__law_spots (s__law_spots K) fun cdv A outer s H hG hr => (pss_one (ps_ret (pe_lc (own := [("_law_at", 1)]) rfl sc__law_spots.nd (pi_range2 (by rfl) N.range (pa_cons pe_int (pa_cons (pe_op op_sub (pe_callB call_len (by rfl) N.len PySem.boot_len (pa_cons (pv 0) pa_nil)) pe_int) pa_nil))) (blkOk_by (N := ["_law_some", "_law_at"]) (sc := defScope (topS 21)) (by decide +kernel)) (fun _ _ _ _ _ => (pg_name (i := 1) sc__law_spots.nd rfl (by first | exact .inl rfl | exact .inr rfl))) (fun _ _ _ _ _ => (pts_one (pt_cmpR op_le (pe_ix ix_seq (pe_ix ix_seq (pv 0) (pv 1) (fun _ _ => rfl)) pe_int (fun _ _ => rfl)) (pe_callB (call_min2 rfl) (by rfl) N.min (by decide +kernel) (pa_cons (pe_ix ix_seq (pe_ix ix_seq (pv 0) (pe_op op_sub (pv 1) pe_int) (fun _ _ => rfl)) pe_int (fun _ _ => rfl)) (pa_cons (pe_ix ix_seq (pe_ix ix_seq (pv 0) (pe_op op_addX (pv 1) pe_int) (fun _ _ => rfl)) pe_int (fun _ _ => rfl)) pa_nil))) (nomark _)))) (fun _ _ _ _ _ => (pv 1)))))
end
end Kd
namespace Kd
open PySem PySem.Spec PyProof.Rows L2 Xg Dv
section
variable {P : Program} {w : World} {K : PySem.W.Frag} {mg : Str → Option Value} {base : Heap}
theorem sc__law_odd : FnScope ["_law_box_here", "_law_some"] ["_law_box_here"] (defScope (topS 22)) := ⟨rfl, rfl, rfl, by decide +kernel, rfl, by decide +kernel, by decide +kernel⟩
theorem ok__law_odd {f : Addr} {fd : FuncData} (F : Fun K "_law_odd" "_law_odd" (topS 22) f fd) (N : Nm mg) (D__law_take : Df P w K mg base "_law_take" ["_law_box_here", "_law_bound"] 1 (spD K 1 F_take)) : FnG P w K mg base 2 f fd ["_law_box_here"] (spD K 1 F__law_odd) := by
  unfold F__law_odd
  exact okD F sc__law_odd (s__law_odd K) fun cdv A outer s H hG hr => (pss_cons (ps_set (i := 1) sc__law_odd.nd rfl (by first | exact .inl rfl | exact .inr rfl) (pe_lst (pa_cons pe_non (pa_cons pe_bl (pa_cons pe_bl (pa_cons (pe_un un_neg pe_int) (pa_cons pe_int (pa_cons pe_int (pa_cons pe_int (pa_cons (pe_op op_pow pe_int pe_int) (pa_cons pe_str (pa_cons pe_str (pa_cons pe_str (pa_cons pe_str (pa_cons (pe_tup pa_nil) (pa_cons (pe_lst pa_nil) (pa_cons (pe_tup (pa_cons pe_int pa_nil)) (pa_cons (pe_lst (pa_cons pe_int pa_nil)) (pa_cons (pe_tup (pa_cons pe_int (pa_cons pe_int pa_nil))) (pa_cons (pe_lst (pa_cons (pe_lst (pa_cons pe_int pa_nil)) pa_nil)) pa_nil)))))))))))))))))))) (pss_one (ps_ret (pe_ix ix_seq (pe_op op_addX (pv 1) (pe_lst (pa_cons (pe_tup (pa_cons (pe_tup (pa_cons pe_int pa_nil)) pa_nil)) (pa_cons (pe_tup (pa_cons pe_str (pa_cons (pe_tup (pa_cons pe_int pa_nil)) pa_nil))) (pa_cons (pe_tup (pa_cons pe_str (pa_cons (pe_tup (pa_cons pe_int (pa_cons pe_int pa_nil))) pa_nil))) (pa_cons (pe_lst (pa_cons pe_str (pa_cons (pe_lst (pa_cons pe_int pa_nil)) pa_nil))) pa_nil)))))) (pe_df D__law_take hG (hr.mono (by decide)) (by rfl) (pa_cons (pv 0) (pa_cons pe_int pa_nil))) (fun _ _ => rfl)))))
end
end Kd
namespace Kd
open PySem PySem.Spec PyProof.Rows L2 Xg Dv
section
variable {P : Program} {w : World} {K : PySem.W.Frag} {mg : Str → Option Value} {base : Heap}
theorem sc__law_otherwise__0 : FnScope ["_law_box_here", "_law_matter", "_law_at", "_law_turn", "_law_some"] ["_law_box_here", "_law_matter"] (defScope (topS 23)) := ⟨rfl, rfl, rfl, by decide +kernel, rfl, by decide +kernel, by decide +kernel⟩
theorem ok__law_otherwise__0 {f : Addr} {fd : FuncData} (F : Fun K "_law_otherwise" "_law_otherwise" (topS 23) f fd) (N : Nm mg) (D__law_odd : Df P w K mg base "_law_odd" ["_law_box_here"] 2 (spD K 1 F__law_odd)) (D__law_otherwise : Df P w K mg base "_law_otherwise" ["_law_box_here", "_law_matter"] 1 (spD K 0 F_none)) (D__law_take : Df P w K mg base "_law_take" ["_law_box_here", "_law_bound"] 1 (spD K 1 F_take)) : FnG P w K mg base 3 f fd ["_law_box_here", "_law_matter"] (spD K 8 F__law_otherwise__0) := by
  unfold F__law_otherwise__0
  exact okD F sc__law_otherwise__0 (s__law_otherwise__0 K) fun cdv A outer s H hG hr => (pss_cons (ps_if (L2.PW.pt (pw_and (pt_val (pe_callB call_isiT (by rfl) N.isinstance (by decide +kernel) (pa_cons (pv 1) (pa_cons (pe_tup (pa_cons (pe_bltn (v := .ty "list") (by rfl) N.list (by decide +kernel) rfl) (pa_cons (pe_bltn (v := .ty "tuple") (by rfl) N.tuple (by decide +kernel) rfl) pa_nil))) pa_nil)))) (pw_and (pt_cmpR op_gt (pe_callB call_len (by rfl) N.len PySem.boot_len (pa_cons (pv 1) pa_nil)) pe_int (nomark _)) (pw_and1 (pt_cmpR op_gt (pe_df D__law_take hG (hr.mono (by decide)) (by rfl) (pa_cons (pv 0) (pa_cons pe_int pa_nil))) pe_int (nomark _)))))) (pss_cons (ps_par3 (i := 2) (j := 3) (l := 4) rfl sc__law_otherwise__0.nd rfl rfl rfl (by decide) (by decide) (by decide) rfl rfl rfl (pa_cons (pe_df D__law_take hG (hr.mono (by decide)) (by rfl) (pa_cons (pv 0) (pa_cons (pe_callB call_len (by rfl) N.len PySem.boot_len (pa_cons (pv 1) pa_nil)) pa_nil))) (pa_cons (pe_df D__law_take hG (hr.mono (by decide)) (by rfl) (pa_cons (pv 0) (pa_cons pe_int pa_nil))) (pa_cons (pe_callTy call_list_of (by rfl) N.list (by decide +kernel) (pa_cons (pv 1) pa_nil)) pa_nil))) (by rfl)) (pss_cons (ps_if (pt_cmpR op_lt (pv 3) pe_int (nomark _)) (pss_one (ps_asg (pe_df D__law_otherwise hG (hr.mono (by decide)) (by rfl) (pa_cons (pv 0) (pa_cons (pe_ix ix_seq (pv 1) (pv 2) (fun _ _ => rfl)) pa_nil))) (pg_sub (pv 4) (pv 2) set_list))) (pss_one (ps_if (pt_cmpR (op_eqX hr.units) (pv 3) pe_int (nomark _)) (pss_one (ps_expr (pe_bm PySem.F.plainAttrs_list PySem.F.slot_list_pop PySem.F.type_list_pop mt_popAt (pv 4) (pa_cons (pv 2) pa_nil)))) (pss_one (ps_if (pt_cmpR (op_eqX hr.units) (pv 3) pe_int (nomark _)) (pss_one (ps_expr (pe_bm PySem.F.plainAttrs_list PySem.F.slot_list_insert PySem.F.type_list_insert mt_insert (pv 4) (pa_cons (pv 2) (pa_cons (pe_ix ix_seq (pv 1) (pv 2) (fun _ _ => rfl)) pa_nil))))) (pss_one (ps_if (pt_cmpR (op_eqX hr.units) (pv 3) pe_int (nomark _)) (pss_one (ps_expr (pe_bm0 PySem.F.plainAttrs_list PySem.F.slot_list_reverse PySem.F.type_list_reverse mt_reverse (pv 4)))) (pss_one (ps_ret (pe_ifExp (pt_val (pe_callB call_isi (by rfl) N.isinstance (by decide +kernel) (pa_cons (pv 1) (pa_cons (pe_bltn (v := .ty "tuple") (by rfl) N.tuple (by decide +kernel) rfl) pa_nil)))) (pv 4) (pe_tupleOf (by rfl) N.tuple (pv 4)))))))))))) (pss_one (ps_ret (pe_ifExp (pt_val (pe_callB call_isi (by rfl) N.isinstance (by decide +kernel) (pa_cons (pv 1) (pa_cons (pe_bltn (v := .ty "list") (by rfl) N.list (by decide +kernel) rfl) pa_nil)))) (pv 4) (pe_tupleOf (by rfl) N.tuple (pv 4))))))) pss_nil) (pss_cons (ps_if (L2.PW.pt (pw_and (pt_val (pe_callB call_isi (by rfl) N.isinstance (by decide +kernel) (pa_cons (pv 1) (pa_cons (pe_bltn (v := .ty "int") (by rfl) N.int (by decide +kernel) rfl) pa_nil)))) (pw_and (pt_not (pt_val (pe_callB call_isi (by rfl) N.isinstance (by decide +kernel) (pa_cons (pv 1) (pa_cons (pe_bltn (v := .ty "bool") (by rfl) N.bool (by decide +kernel) rfl) pa_nil))))) (pw_and1 (pt_cmpR op_gt (pe_df D__law_take hG (hr.mono (by decide)) (by rfl) (pa_cons (pv 0) (pa_cons pe_int pa_nil))) pe_int (nomark _)))))) (pss_one (ps_ret (pe_ix ix_seq (pe_lst (pa_cons (pe_op op_addX (pv 1) pe_int) (pa_cons (pe_op op_sub (pv 1) pe_int) (pa_cons pe_int (pa_cons (pe_un un_neg (pv 1)) (pa_cons (pe_cmpR (op_eqX hr.units) (pv 1) pe_int (nomark _)) (pa_cons (pe_callTy call_str_int (by rfl) N.str (by decide +kernel) (pa_cons (pv 1) pa_nil)) (pa_cons pe_non pa_nil)))))))) (pe_df D__law_take hG (hr.mono (by decide)) (by rfl) (pa_cons (pv 0) (pa_cons pe_int pa_nil))) (fun _ _ => rfl)))) pss_nil) (pss_cons (ps_if (L2.PW.pt (pw_and (pt_val (pe_callB call_isi (by rfl) N.isinstance (by decide +kernel) (pa_cons (pv 1) (pa_cons (pe_bltn (v := .ty "str") (by rfl) N.str (by decide +kernel) rfl) pa_nil)))) (pw_and1 (pt_cmpR op_gt (pe_df D__law_take hG (hr.mono (by decide)) (by rfl) (pa_cons (pv 0) (pa_cons pe_int pa_nil))) pe_int (nomark _))))) (pss_one (ps_ret (pe_ix ix_seq (pe_lst (pa_cons (pe_op op_addS (pv 1) pe_str) (pa_cons (pe_slice sl_str (pv 1) (po_some pe_int) po_none) (pa_cons (pe_upper (pv 1)) (pa_cons (pe_op op_addS (pv 1) pe_str) (pa_cons (pe_tup (pa_cons (pv 1) pa_nil)) (pa_cons (pe_revS (pv 1)) pa_nil))))))) (pe_df D__law_take hG (hr.mono (by decide)) (by rfl) (pa_cons (pv 0) (pa_cons pe_int pa_nil))) (fun _ _ => rfl)))) pss_nil) (pss_one (ps_ret (pe_df D__law_odd hG (hr.mono (by decide)) (by rfl) (pa_cons (pv 0) pa_nil)))))))
end
end Kd
namespace Kd
open PySem PySem.Spec PyProof.Rows L2 Xg Dv
section
variable {P : Program} {w : World} {K : PySem.W.Frag} {mg : Str → Option Value} {base : Heap}
theorem sc__law_otherwise__1 : FnScope ["_law_box_here", "_law_matter", "_law_at", "_law_turn", "_law_some"] ["_law_box_here", "_law_matter"] (defScope (topS 23)) := ⟨rfl, rfl, rfl, by decide +kernel, rfl, by decide +kernel, by decide +kernel⟩
theorem ok__law_otherwise__1 {f : Addr} {fd : FuncData} (F : Fun K "_law_otherwise" "_law_otherwise" (topS 23) f fd) (N : Nm mg) (D__law_odd : Df P w K mg base "_law_odd" ["_law_box_here"] 2 (spD K 1 F__law_odd)) (D__law_otherwise__0 : Df P w K mg base "_law_otherwise" ["_law_box_here", "_law_matter"] 3 (spD K 8 F__law_otherwise__0)) (D__law_take : Df P w K mg base "_law_take" ["_law_box_here", "_law_bound"] 1 (spD K 1 F_take)) : FnG P w K mg base 4 f fd ["_law_box_here", "_law_matter"] (spD K 16 F__law_otherwise__1) := by
  unfold F__law_otherwise__1
  exact okD F sc__law_otherwise__1 (s__law_otherwise__1 K) fun cdv A outer s H hG hr => (pss_cons (ps_if (L2.PW.pt (pw_and (pt_val (pe_callB call_isiT (by rfl) N.isinstance (by decide +kernel) (pa_cons (pv 1) (pa_cons (pe_tup (pa_cons (pe_bltn (v := .ty "list") (by rfl) N.list (by decide +kernel) rfl) (pa_cons (pe_bltn (v := .ty "tuple") (by rfl) N.tuple (by decide +kernel) rfl) pa_nil))) pa_nil)))) (pw_and (pt_cmpR op_gt (pe_callB call_len (by rfl) N.len PySem.boot_len (pa_cons (pv 1) pa_nil)) pe_int (nomark _)) (pw_and1 (pt_cmpR op_gt (pe_df D__law_take hG (hr.mono (by decide)) (by rfl) (pa_cons (pv 0) (pa_cons pe_int pa_nil))) pe_int (nomark _)))))) (pss_cons (ps_par3 (i := 2) (j := 3) (l := 4) rfl sc__law_otherwise__1.nd rfl rfl rfl (by decide) (by decide) (by decide) rfl rfl rfl (pa_cons (pe_df D__law_take hG (hr.mono (by decide)) (by rfl) (pa_cons (pv 0) (pa_cons (pe_callB call_len (by rfl) N.len PySem.boot_len (pa_cons (pv 1) pa_nil)) pa_nil))) (pa_cons (pe_df D__law_take hG (hr.mono (by decide)) (by rfl) (pa_cons (pv 0) (pa_cons pe_int pa_nil))) (pa_cons (pe_callTy call_list_of (by rfl) N.list (by decide +kernel) (pa_cons (pv 1) pa_nil)) pa_nil))) (by rfl)) (pss_cons (ps_if (pt_cmpR op_lt (pv 3) pe_int (nomark _)) (pss_one (ps_asg (pe_df D__law_otherwise__0 hG (hr.mono (by decide)) (by rfl) (pa_cons (pv 0) (pa_cons (pe_ix ix_seq (pv 1) (pv 2) (fun _ _ => rfl)) pa_nil))) (pg_sub (pv 4) (pv 2) set_list))) (pss_one (ps_if (pt_cmpR (op_eqX hr.units) (pv 3) pe_int (nomark _)) (pss_one (ps_expr (pe_bm PySem.F.plainAttrs_list PySem.F.slot_list_pop PySem.F.type_list_pop mt_popAt (pv 4) (pa_cons (pv 2) pa_nil)))) (pss_one (ps_if (pt_cmpR (op_eqX hr.units) (pv 3) pe_int (nomark _)) (pss_one (ps_expr (pe_bm PySem.F.plainAttrs_list PySem.F.slot_list_insert PySem.F.type_list_insert mt_insert (pv 4) (pa_cons (pv 2) (pa_cons (pe_ix ix_seq (pv 1) (pv 2) (fun _ _ => rfl)) pa_nil))))) (pss_one (ps_if (pt_cmpR (op_eqX hr.units) (pv 3) pe_int (nomark _)) (pss_one (ps_expr (pe_bm0 PySem.F.plainAttrs_list PySem.F.slot_list_reverse PySem.F.type_list_reverse mt_reverse (pv 4)))) (pss_one (ps_ret (pe_ifExp (pt_val (pe_callB call_isi (by rfl) N.isinstance (by decide +kernel) (pa_cons (pv 1) (pa_cons (pe_bltn (v := .ty "tuple") (by rfl) N.tuple (by decide +kernel) rfl) pa_nil)))) (pv 4) (pe_tupleOf (by rfl) N.tuple (pv 4)))))))))))) (pss_one (ps_ret (pe_ifExp (pt_val (pe_callB call_isi (by rfl) N.isinstance (by decide +kernel) (pa_cons (pv 1) (pa_cons (pe_bltn (v := .ty "list") (by rfl) N.list (by decide +kernel) rfl) pa_nil)))) (pv 4) (pe_tupleOf (by rfl) N.tuple (pv 4))))))) pss_nil) (pss_cons (ps_if (L2.PW.pt (pw_and (pt_val (pe_callB call_isi (by rfl) N.isinstance (by decide +kernel) (pa_cons (pv 1) (pa_cons (pe_bltn (v := .ty "int") (by rfl) N.int (by decide +kernel) rfl) pa_nil)))) (pw_and (pt_not (pt_val (pe_callB call_isi (by rfl) N.isinstance (by decide +kernel) (pa_cons (pv 1) (pa_cons (pe_bltn (v := .ty "bool") (by rfl) N.bool (by decide +kernel) rfl) pa_nil))))) (pw_and1 (pt_cmpR op_gt (pe_df D__law_take hG (hr.mono (by decide)) (by rfl) (pa_cons (pv 0) (pa_cons pe_int pa_nil))) pe_int (nomark _)))))) (pss_one (ps_ret (pe_ix ix_seq (pe_lst (pa_cons (pe_op op_addX (pv 1) pe_int) (pa_cons (pe_op op_sub (pv 1) pe_int) (pa_cons pe_int (pa_cons (pe_un un_neg (pv 1)) (pa_cons (pe_cmpR (op_eqX hr.units) (pv 1) pe_int (nomark _)) (pa_cons (pe_callTy call_str_int (by rfl) N.str (by decide +kernel) (pa_cons (pv 1) pa_nil)) (pa_cons pe_non pa_nil)))))))) (pe_df D__law_take hG (hr.mono (by decide)) (by rfl) (pa_cons (pv 0) (pa_cons pe_int pa_nil))) (fun _ _ => rfl)))) pss_nil) (pss_cons (ps_if (L2.PW.pt (pw_and (pt_val (pe_callB call_isi (by rfl) N.isinstance (by decide +kernel) (pa_cons (pv 1) (pa_cons (pe_bltn (v := .ty "str") (by rfl) N.str (by decide +kernel) rfl) pa_nil)))) (pw_and1 (pt_cmpR op_gt (pe_df D__law_take hG (hr.mono (by decide)) (by rfl) (pa_cons (pv 0) (pa_cons pe_int pa_nil))) pe_int (nomark _))))) (pss_one (ps_ret (pe_ix ix_seq (pe_lst (pa_cons (pe_op op_addS (pv 1) pe_str) (pa_cons (pe_slice sl_str (pv 1) (po_some pe_int) po_none) (pa_cons (pe_upper (pv 1)) (pa_cons (pe_op op_addS (pv 1) pe_str) (pa_cons (pe_tup (pa_cons (pv 1) pa_nil)) (pa_cons (pe_revS (pv 1)) pa_nil))))))) (pe_df D__law_take hG (hr.mono (by decide)) (by rfl) (pa_cons (pv 0) (pa_cons pe_int pa_nil))) (fun _ _ => rfl)))) pss_nil) (pss_one (ps_ret (pe_df D__law_odd hG (hr.mono (by decide)) (by rfl) (pa_cons (pv 0) pa_nil)))))))
end
end Kd
namespace Kd
open PySem PySem.Spec PyProof.Rows L2 Xg Dv
section
variable {P : Program} {w : World} {K : PySem.W.Frag} {mg : Str → Option Value} {base : Heap}
theorem sc__law_otherwise__2 : FnScope ["_law_box_here", "_law_matter", "_law_at", "_law_turn", "_law_some"] ["_law_box_here", "_law_matter"] (defScope (topS 23)) := ⟨rfl, rfl, rfl, by decide +kernel, rfl, by decide +kernel, by decide +kernel⟩
theorem ok__law_otherwise__2 {f : Addr} {fd : FuncData} (F : Fun K "_law_otherwise" "_law_otherwise" (topS 23) f fd) (N : Nm mg) (D__law_odd : Df P w K mg base "_law_odd" ["_law_box_here"] 2 (spD K 1 F__law_odd)) (D__law_otherwise__1 : Df P w K mg base "_law_otherwise" ["_law_box_here", "_law_matter"] 4 (spD K 16 F__law_otherwise__1)) (D__law_take : Df P w K mg base "_law_take" ["_law_box_here", "_law_bound"] 1 (spD K 1 F_take)) : FnG P w K mg base 5 f fd ["_law_box_here", "_law_matter"] (spD K 24 F__law_otherwise__2) := by
  unfold F__law_otherwise__2
  exact okD F sc__law_otherwise__2 (s__law_otherwise__2 K) fun cdv A outer s H hG hr => (pss_cons (ps_if (L2.PW.pt (pw_and (pt_val (pe_callB call_isiT (by rfl) N.isinstance (by decide +kernel) (pa_cons (pv 1) (pa_cons (pe_tup (pa_cons (pe_bltn (v := .ty "list") (by rfl) N.list (by decide +kernel) rfl) (pa_cons (pe_bltn (v := .ty "tuple") (by rfl) N.tuple (by decide +kernel) rfl) pa_nil))) pa_nil)))) (pw_and (pt_cmpR op_gt (pe_callB call_len (by rfl) N.len PySem.boot_len (pa_cons (pv 1) pa_nil)) pe_int (nomark _)) (pw_and1 (pt_cmpR op_gt (pe_df D__law_take hG (hr.mono (by decide)) (by rfl) (pa_cons (pv 0) (pa_cons pe_int pa_nil))) pe_int (nomark _)))))) (pss_cons (ps_par3 (i := 2) (j := 3) (l := 4) rfl sc__law_otherwise__2.nd rfl rfl rfl (by decide) (by decide) (by decide) rfl rfl rfl (pa_cons (pe_df D__law_take hG (hr.mono (by decide)) (by rfl) (pa_cons (pv 0) (pa_cons (pe_callB call_len (by rfl) N.len PySem.boot_len (pa_cons (pv 1) pa_nil)) pa_nil))) (pa_cons (pe_df D__law_take hG (hr.mono (by decide)) (by rfl) (pa_cons (pv 0) (pa_cons pe_int pa_nil))) (pa_cons (pe_callTy call_list_of (by rfl) N.list (by decide +kernel) (pa_cons (pv 1) pa_nil)) pa_nil))) (by rfl)) (pss_cons (ps_if (pt_cmpR op_lt (pv 3) pe_int (nomark _)) (pss_one (ps_asg (pe_df D__law_otherwise__1 hG (hr.mono (by decide)) (by rfl) (pa_cons (pv 0) (pa_cons (pe_ix ix_seq (pv 1) (pv 2) (fun _ _ => rfl)) pa_nil))) (pg_sub (pv 4) (pv 2) set_list))) (pss_one (ps_if (pt_cmpR (op_eqX hr.units) (pv 3) pe_int (nomark _)) (pss_one (ps_expr (pe_bm PySem.F.plainAttrs_list PySem.F.slot_list_pop PySem.F.type_list_pop mt_popAt (pv 4) (pa_cons (pv 2) pa_nil)))) (pss_one (ps_if (pt_cmpR (op_eqX hr.units) (pv 3) pe_int (nomark _)) (pss_one (ps_expr (pe_bm PySem.F.plainAttrs_list PySem.F.slot_list_insert PySem.F.type_list_insert mt_insert (pv 4) (pa_cons (pv 2) (pa_cons (pe_ix ix_seq (pv 1) (pv 2) (fun _ _ => rfl)) pa_nil))))) (pss_one (ps_if (pt_cmpR (op_eqX hr.units) (pv 3) pe_int (nomark _)) (pss_one (ps_expr (pe_bm0 PySem.F.plainAttrs_list PySem.F.slot_list_reverse PySem.F.type_list_reverse mt_reverse (pv 4)))) (pss_one (ps_ret (pe_ifExp (pt_val (pe_callB call_isi (by rfl) N.isinstance (by decide +kernel) (pa_cons (pv 1) (pa_cons (pe_bltn (v := .ty "tuple") (by rfl) N.tuple (by decide +kernel) rfl) pa_nil)))) (pv 4) (pe_tupleOf (by rfl) N.tuple (pv 4)))))))))))) (pss_one (ps_ret (pe_ifExp (pt_val (pe_callB call_isi (by rfl) N.isinstance (by decide +kernel) (pa_cons (pv 1) (pa_cons (pe_bltn (v := .ty "list") (by rfl) N.list (by decide +kernel) rfl) pa_nil)))) (pv 4) (pe_tupleOf (by rfl) N.tuple (pv 4))))))) pss_nil) (pss_cons (ps_if (L2.PW.pt (pw_and (pt_val (pe_callB call_isi (by rfl) N.isinstance (by decide +kernel) (pa_cons (pv 1) (pa_cons (pe_bltn (v := .ty "int") (by rfl) N.int (by decide +kernel) rfl) pa_nil)))) (pw_and (pt_not (pt_val (pe_callB call_isi (by rfl) N.isinstance (by decide +kernel) (pa_cons (pv 1) (pa_cons (pe_bltn (v := .ty "bool") (by rfl) N.bool (by decide +kernel) rfl) pa_nil))))) (pw_and1 (pt_cmpR op_gt (pe_df D__law_take hG (hr.mono (by decide)) (by rfl) (pa_cons (pv 0) (pa_cons pe_int pa_nil))) pe_int (nomark _)))))) (pss_one (ps_ret (pe_ix ix_seq (pe_lst (pa_cons (pe_op op_addX (pv 1) pe_int) (pa_cons (pe_op op_sub (pv 1) pe_int) (pa_cons pe_int (pa_cons (pe_un un_neg (pv 1)) (pa_cons (pe_cmpR (op_eqX hr.units) (pv 1) pe_int (nomark _)) (pa_cons (pe_callTy call_str_int (by rfl) N.str (by decide +kernel) (pa_cons (pv 1) pa_nil)) (pa_cons pe_non pa_nil)))))))) (pe_df D__law_take hG (hr.mono (by decide)) (by rfl) (pa_cons (pv 0) (pa_cons pe_int pa_nil))) (fun _ _ => rfl)))) pss_nil) (pss_cons (ps_if (L2.PW.pt (pw_and (pt_val (pe_callB call_isi (by rfl) N.isinstance (by decide +kernel) (pa_cons (pv 1) (pa_cons (pe_bltn (v := .ty "str") (by rfl) N.str (by decide +kernel) rfl) pa_nil)))) (pw_and1 (pt_cmpR op_gt (pe_df D__law_take hG (hr.mono (by decide)) (by rfl) (pa_cons (pv 0) (pa_cons pe_int pa_nil))) pe_int (nomark _))))) (pss_one (ps_ret (pe_ix ix_seq (pe_lst (pa_cons (pe_op op_addS (pv 1) pe_str) (pa_cons (pe_slice sl_str (pv 1) (po_some pe_int) po_none) (pa_cons (pe_upper (pv 1)) (pa_cons (pe_op op_addS (pv 1) pe_str) (pa_cons (pe_tup (pa_cons (pv 1) pa_nil)) (pa_cons (pe_revS (pv 1)) pa_nil))))))) (pe_df D__law_take hG (hr.mono (by decide)) (by rfl) (pa_cons (pv 0) (pa_cons pe_int pa_nil))) (fun _ _ => rfl)))) pss_nil) (pss_one (ps_ret (pe_df D__law_odd hG (hr.mono (by decide)) (by rfl) (pa_cons (pv 0) pa_nil)))))))
end
end Kd
namespace Kd
open PySem PySem.Spec PyProof.Rows L2 Xg Dv
section
variable {P : Program} {w : World} {K : PySem.W.Frag} {mg : Str → Option Value} {base : Heap}
theorem sc__law_otherwise__3 : FnScope ["_law_box_here", "_law_matter", "_law_at", "_law_turn", "_law_some"] ["_law_box_here", "_law_matter"] (defScope (topS 23)) := ⟨rfl, rfl, rfl, by decide +kernel, rfl, by decide +kernel, by decide +kernel⟩
theorem ok__law_otherwise__3 {f : Addr} {fd : FuncData} (F : Fun K "_law_otherwise" "_law_otherwise" (topS 23) f fd) (N : Nm mg) (D__law_odd : Df P w K mg base "_law_odd" ["_law_box_here"] 2 (spD K 1 F__law_odd)) (D__law_otherwise__2 : Df P w K mg base "_law_otherwise" ["_law_box_here", "_law_matter"] 5 (spD K 24 F__law_otherwise__2)) (D__law_take : Df P w K mg base "_law_take" ["_law_box_here", "_law_bound"] 1 (spD K 1 F_take)) : FnG P w K mg base 6 f fd ["_law_box_here", "_law_matter"] (spD K 32 F__law_otherwise__3) := by
  unfold F__law_otherwise__3
  exact okD F sc__law_otherwise__3 (s__law_otherwise__3 K) fun cdv A outer s H hG hr => (pss_cons (ps_if (L2.PW.pt (pw_and (pt_val (pe_callB call_isiT (by rfl) N.isinstance (by decide +kernel) (pa_cons (pv 1) (pa_cons (pe_tup (pa_cons (pe_bltn (v := .ty "list") (by rfl) N.list (by decide +kernel) rfl) (pa_cons (pe_bltn (v := .ty "tuple") (by rfl) N.tuple (by decide +kernel) rfl) pa_nil))) pa_nil)))) (pw_and (pt_cmpR op_gt (pe_callB call_len (by rfl) N.len PySem.boot_len (pa_cons (pv 1) pa_nil)) pe_int (nomark _)) (pw_and1 (pt_cmpR op_gt (pe_df D__law_take hG (hr.mono (by decide)) (by rfl) (pa_cons (pv 0) (pa_cons pe_int pa_nil))) pe_int (nomark _)))))) (pss_cons (ps_par3 (i := 2) (j := 3) (l := 4) rfl sc__law_otherwise__3.nd rfl rfl rfl (by decide) (by decide) (by decide) rfl rfl rfl (pa_cons (pe_df D__law_take hG (hr.mono (by decide)) (by rfl) (pa_cons (pv 0) (pa_cons (pe_callB call_len (by rfl) N.len PySem.boot_len (pa_cons (pv 1) pa_nil)) pa_nil))) (pa_cons (pe_df D__law_take hG (hr.mono (by decide)) (by rfl) (pa_cons (pv 0) (pa_cons pe_int pa_nil))) (pa_cons (pe_callTy call_list_of (by rfl) N.list (by decide +kernel) (pa_cons (pv 1) pa_nil)) pa_nil))) (by rfl)) (pss_cons (ps_if (pt_cmpR op_lt (pv 3) pe_int (nomark _)) (pss_one (ps_asg (pe_df D__law_otherwise__2 hG (hr.mono (by decide)) (by rfl) (pa_cons (pv 0) (pa_cons (pe_ix ix_seq (pv 1) (pv 2) (fun _ _ => rfl)) pa_nil))) (pg_sub (pv 4) (pv 2) set_list))) (pss_one (ps_if (pt_cmpR (op_eqX hr.units) (pv 3) pe_int (nomark _)) (pss_one (ps_expr (pe_bm PySem.F.plainAttrs_list PySem.F.slot_list_pop PySem.F.type_list_pop mt_popAt (pv 4) (pa_cons (pv 2) pa_nil)))) (pss_one (ps_if (pt_cmpR (op_eqX hr.units) (pv 3) pe_int (nomark _)) (pss_one (ps_expr (pe_bm PySem.F.plainAttrs_list PySem.F.slot_list_insert PySem.F.type_list_insert mt_insert (pv 4) (pa_cons (pv 2) (pa_cons (pe_ix ix_seq (pv 1) (pv 2) (fun _ _ => rfl)) pa_nil))))) (pss_one (ps_if (pt_cmpR (op_eqX hr.units) (pv 3) pe_int (nomark _)) (pss_one (ps_expr (pe_bm0 PySem.F.plainAttrs_list PySem.F.slot_list_reverse PySem.F.type_list_reverse mt_reverse (pv 4)))) (pss_one (ps_ret (pe_ifExp (pt_val (pe_callB call_isi (by rfl) N.isinstance (by decide +kernel) (pa_cons (pv 1) (pa_cons (pe_bltn (v := .ty "tuple") (by rfl) N.tuple (by decide +kernel) rfl) pa_nil)))) (pv 4) (pe_tupleOf (by rfl) N.tuple (pv 4)))))))))))) (pss_one (ps_ret (pe_ifExp (pt_val (pe_callB call_isi (by rfl) N.isinstance (by decide +kernel) (pa_cons (pv 1) (pa_cons (pe_bltn (v := .ty "list") (by rfl) N.list (by decide +kernel) rfl) pa_nil)))) (pv 4) (pe_tupleOf (by rfl) N.tuple (pv 4))))))) pss_nil) (pss_cons (ps_if (L2.PW.pt (pw_and (pt_val (pe_callB call_isi (by rfl) N.isinstance (by decide +kernel) (pa_cons (pv 1) (pa_cons (pe_bltn (v := .ty "int") (by rfl) N.int (by decide +kernel) rfl) pa_nil)))) (pw_and (pt_not (pt_val (pe_callB call_isi (by rfl) N.isinstance (by decide +kernel) (pa_cons (pv 1) (pa_cons (pe_bltn (v := .ty "bool") (by rfl) N.bool (by decide +kernel) rfl) pa_nil))))) (pw_and1 (pt_cmpR op_gt (pe_df D__law_take hG (hr.mono (by decide)) (by rfl) (pa_cons (pv 0) (pa_cons pe_int pa_nil))) pe_int (nomark _)))))) (pss_one (ps_ret (pe_ix ix_seq (pe_lst (pa_cons (pe_op op_addX (pv 1) pe_int) (pa_cons (pe_op op_sub (pv 1) pe_int) (pa_cons pe_int (pa_cons (pe_un un_neg (pv 1)) (pa_cons (pe_cmpR (op_eqX hr.units) (pv 1) pe_int (nomark _)) (pa_cons (pe_callTy call_str_int (by rfl) N.str (by decide +kernel) (pa_cons (pv 1) pa_nil)) (pa_cons pe_non pa_nil)))))))) (pe_df D__law_take hG (hr.mono (by decide)) (by rfl) (pa_cons (pv 0) (pa_cons pe_int pa_nil))) (fun _ _ => rfl)))) pss_nil) (pss_cons (ps_if (L2.PW.pt (pw_and (pt_val (pe_callB call_isi (by rfl) N.isinstance (by decide +kernel) (pa_cons (pv 1) (pa_cons (pe_bltn (v := .ty "str") (by rfl) N.str (by decide +kernel) rfl) pa_nil)))) (pw_and1 (pt_cmpR op_gt (pe_df D__law_take hG (hr.mono (by decide)) (by rfl) (pa_cons (pv 0) (pa_cons pe_int pa_nil))) pe_int (nomark _))))) (pss_one (ps_ret (pe_ix ix_seq (pe_lst (pa_cons (pe_op op_addS (pv 1) pe_str) (pa_cons (pe_slice sl_str (pv 1) (po_some pe_int) po_none) (pa_cons (pe_upper (pv 1)) (pa_cons (pe_op op_addS (pv 1) pe_str) (pa_cons (pe_tup (pa_cons (pv 1) pa_nil)) (pa_cons (pe_revS (pv 1)) pa_nil))))))) (pe_df D__law_take hG (hr.mono (by decide)) (by rfl) (pa_cons (pv 0) (pa_cons pe_int pa_nil))) (fun _ _ => rfl)))) pss_nil) (pss_one (ps_ret (pe_df D__law_odd hG (hr.mono (by decide)) (by rfl) (pa_cons (pv 0) pa_nil)))))))
end
end Kd
namespace Kd
open PySem PySem.Spec PyProof.Rows L2 Xg Dv
section
variable {P : Program} {w : World} {K : PySem.W.Frag} {mg : Str → Option Value} {base : Heap}
theorem sc__law_otherwise__4 : FnScope ["_law_box_here", "_law_matter", "_law_at", "_law_turn", "_law_some"] ["_law_box_here", "_law_matter"] (defScope (topS 23)) := ⟨rfl, rfl, rfl, by decide +kernel, rfl, by decide +kernel, by decide +kernel⟩
theorem ok__law_otherwise__4 {f : Addr} {fd : FuncData} (F : Fun K "_law_otherwise" "_law_otherwise" (topS 23) f fd) (N : Nm mg) (D__law_odd : Df P w K mg base "_law_odd" ["_law_box_here"] 2 (spD K 1 F__law_odd)) (D__law_otherwise__3 : Df P w K mg base "_law_otherwise" ["_law_box_here", "_law_matter"] 6 (spD K 32 F__law_otherwise__3)) (D__law_take : Df P w K mg base "_law_take" ["_law_box_here", "_law_bound"] 1 (spD K 1 F_take)) : FnG P w K mg base 7 f fd ["_law_box_here", "_law_matter"] (spD K 40 F__law_otherwise__4) := by
  unfold F__law_otherwise__4
  exact okD F sc__law_otherwise__4 (s__law_otherwise__4 K) fun cdv A outer s H hG hr => (pss_cons (ps_if (L2.PW.pt (pw_and (pt_val (pe_callB call_isiT (by rfl) N.isinstance (by decide +kernel) (pa_cons (pv 1) (pa_cons (pe_tup (pa_cons (pe_bltn (v := .ty "list") (by rfl) N.list (by decide +kernel) rfl) (pa_cons (pe_bltn (v := .ty "tuple") (by rfl) N.tuple (by decide +kernel) rfl) pa_nil))) pa_nil)))) (pw_and (pt_cmpR op_gt (pe_callB call_len (by rfl) N.len PySem.boot_len (pa_cons (pv 1) pa_nil)) pe_int (nomark _)) (pw_and1 (pt_cmpR op_gt (pe_df D__law_take hG (hr.mono (by decide)) (by rfl) (pa_cons (pv 0) (pa_cons pe_int pa_nil))) pe_int (nomark _)))))) (pss_cons (ps_par3 (i := 2) (j := 3) (l := 4) rfl sc__law_otherwise__4.nd rfl rfl rfl (by decide) (by decide) (by decide) rfl rfl rfl (pa_cons (pe_df D__law_take hG (hr.mono (by decide)) (by rfl) (pa_cons (pv 0) (pa_cons (pe_callB call_len (by rfl) N.len PySem.boot_len (pa_cons (pv 1) pa_nil)) pa_nil))) (pa_cons (pe_df D__law_take hG (hr.mono (by decide)) (by rfl) (pa_cons (pv 0) (pa_cons pe_int pa_nil))) (pa_cons (pe_callTy call_list_of (by rfl) N.list (by decide +kernel) (pa_cons (pv 1) pa_nil)) pa_nil))) (by rfl)) (pss_cons (ps_if (pt_cmpR op_lt (pv 3) pe_int (nomark _)) (pss_one (ps_asg (pe_df D__law_otherwise__3 hG (hr.mono (by decide)) (by rfl) (pa_cons (pv 0) (pa_cons (pe_ix ix_seq (pv 1) (pv 2) (fun _ _ => rfl)) pa_nil))) (pg_sub (pv 4) (pv 2) set_list))) (pss_one (ps_if (pt_cmpR (op_eqX hr.units) (pv 3) pe_int (nomark _)) (pss_one (ps_expr (pe_bm PySem.F.plainAttrs_list PySem.F.slot_list_pop PySem.F.type_list_pop mt_popAt (pv 4) (pa_cons (pv 2) pa_nil)))) (pss_one (ps_if (pt_cmpR (op_eqX hr.units) (pv 3) pe_int (nomark _)) (pss_one (ps_expr (pe_bm PySem.F.plainAttrs_list PySem.F.slot_list_insert PySem.F.type_list_insert mt_insert (pv 4) (pa_cons (pv 2) (pa_cons (pe_ix ix_seq (pv 1) (pv 2) (fun _ _ => rfl)) pa_nil))))) (pss_one (ps_if (pt_cmpR (op_eqX hr.units) (pv 3) pe_int (nomark _)) (pss_one (ps_expr (pe_bm0 PySem.F.plainAttrs_list PySem.F.slot_list_reverse PySem.F.type_list_reverse mt_reverse (pv 4)))) (pss_one (ps_ret (pe_ifExp (pt_val (pe_callB call_isi (by rfl) N.isinstance (by decide +kernel) (pa_cons (pv 1) (pa_cons (pe_bltn (v := .ty "tuple") (by rfl) N.tuple (by decide +kernel) rfl) pa_nil)))) (pv 4) (pe_tupleOf (by rfl) N.tuple (pv 4)))))))))))) (pss_one (ps_ret (pe_ifExp (pt_val (pe_callB call_isi (by rfl) N.isinstance (by decide +kernel) (pa_cons (pv 1) (pa_cons (pe_bltn (v := .ty "list") (by rfl) N.list (by decide +kernel) rfl) pa_nil)))) (pv 4) (pe_tupleOf (by rfl) N.tuple (pv 4))))))) pss_nil) (pss_cons (ps_if (L2.PW.pt (pw_and (pt_val (pe_callB call_isi (by rfl) N.isinstance (by decide +kernel) (pa_cons (pv 1) (pa_cons (pe_bltn (v := .ty "int") (by rfl) N.int (by decide +kernel) rfl) pa_nil)))) (pw_and (pt_not (pt_val (pe_callB call_isi (by rfl) N.isinstance (by decide +kernel) (pa_cons (pv 1) (pa_cons (pe_bltn (v := .ty "bool") (by rfl) N.bool (by decide +kernel) rfl) pa_nil))))) (pw_and1 (pt_cmpR op_gt (pe_df D__law_take hG (hr.mono (by decide)) (by rfl) (pa_cons (pv 0) (pa_cons pe_int pa_nil))) pe_int (nomark _)))))) (pss_one (ps_ret (pe_ix ix_seq (pe_lst (pa_cons (pe_op op_addX (pv 1) pe_int) (pa_cons (pe_op op_sub (pv 1) pe_int) (pa_cons pe_int (pa_cons (pe_un un_neg (pv 1)) (pa_cons (pe_cmpR (op_eqX hr.units) (pv 1) pe_int (nomark _)) (pa_cons (pe_callTy call_str_int (by rfl) N.str (by decide +kernel) (pa_cons (pv 1) pa_nil)) (pa_cons pe_non pa_nil)))))))) (pe_df D__law_take hG (hr.mono (by decide)) (by rfl) (pa_cons (pv 0) (pa_cons pe_int pa_nil))) (fun _ _ => rfl)))) pss_nil) (pss_cons (ps_if (L2.PW.pt (pw_and (pt_val (pe_callB call_isi (by rfl) N.isinstance (by decide +kernel) (pa_cons (pv 1) (pa_cons (pe_bltn (v := .ty "str") (by rfl) N.str (by decide +kernel) rfl) pa_nil)))) (pw_and1 (pt_cmpR op_gt (pe_df D__law_take hG (hr.mono (by decide)) (by rfl) (pa_cons (pv 0) (pa_cons pe_int pa_nil))) pe_int (nomark _))))) (pss_one (ps_ret (pe_ix ix_seq (pe_lst (pa_cons (pe_op op_addS (pv 1) pe_str) (pa_cons (pe_slice sl_str (pv 1) (po_some pe_int) po_none) (pa_cons (pe_upper (pv 1)) (pa_cons (pe_op op_addS (pv 1) pe_str) (pa_cons (pe_tup (pa_cons (pv 1) pa_nil)) (pa_cons (pe_revS (pv 1)) pa_nil))))))) (pe_df D__law_take hG (hr.mono (by decide)) (by rfl) (pa_cons (pv 0) (pa_cons pe_int pa_nil))) (fun _ _ => rfl)))) pss_nil) (pss_one (ps_ret (pe_df D__law_odd hG (hr.mono (by decide)) (by rfl) (pa_cons (pv 0) pa_nil)))))))
end
end Kd
namespace Kd
open PySem PySem.Spec PyProof.Rows L2 Xg Dv
section
variable {P : Program} {w : World} {K : PySem.W.Frag} {mg : Str → Option Value} {base : Heap}
theorem sc__law_are_turns : FnScope ["_law_matter", "_law_part"] ["_law_matter"] (defScope (topS 24)) := ⟨rfl, rfl, rfl, by decide +kernel, rfl, by decide +kernel, by decide +kernel⟩
theorem ok__law_are_turns {f : Addr} {fd : FuncData} (F : Fun K "_law_are_turns" "_law_are_turns" (topS 24) f fd) (N : Nm mg) : FnG P w K mg base 1 f fd ["_law_matter"] (spD K 0 F__law_are_turns) := by
  unfold F__law_are_turns
  exact okD F sc__law_are_turns (s__law_are_turns K) fun cdv A outer s H hG hr => (pss_cons (ps_if (pt_not (pt_val (pe_callB call_isi (by rfl) N.isinstance (by decide +kernel) (pa_cons (pv 0) (pa_cons (pe_bltn (v := .ty "list") (by rfl) N.list (by decide +kernel) rfl) pa_nil))))) (pss_one (ps_ret pe_bl)) pss_nil) (pss_cons (ps_for PassesOwn.never rfl (Pw.pi_seq (pv 0)) (pg_name (i := 1) sc__law_are_turns.nd rfl (by first | exact .inl rfl | exact .inr rfl)) (pss_cons (ps_if (L2.PW.pt (pw_or (pt_not (pt_val (pe_callB call_isi (by rfl) N.isinstance (by decide +kernel) (pa_cons (pv 1) (pa_cons (pe_bltn (v := .ty "tuple") (by rfl) N.tuple (by decide +kernel) rfl) pa_nil))))) (pw_or (pt_cmpR (op_neX hr.units) (pe_callB call_len (by rfl) N.len PySem.boot_len (pa_cons (pv 1) pa_nil)) pe_int (nomark _)) (pw_or1 (pt_not (pt_val (pe_callB call_isi (by rfl) N.isinstance (by decide +kernel) (pa_cons (pe_ix ix_seq (pv 1) pe_int (fun _ _ => rfl)) (pa_cons (pe_bltn (v := .ty "str") (by rfl) N.str (by decide +kernel) rfl) pa_nil))))))))) (pss_one (ps_ret pe_bl)) pss_nil) (pss_one (ps_if (L2.PW.pt (pw_or (pt_cmpR op_notIn_seq (pe_ix ix_seq (pv 1) pe_int (fun _ _ => rfl)) (pe_tup (pa_cons pe_str (pa_cons pe_str pa_nil))) (by rfl)) (pw_or (pt_not (pt_val (pe_callB call_isi (by rfl) N.isinstance (by decide +kernel) (pa_cons (pe_ix ix_seq (pv 1) pe_int (fun _ _ => rfl)) (pa_cons (pe_bltn (v := .ty "int") (by rfl) N.int (by decide +kernel) rfl) pa_nil))))) (pw_or (pt_val (pe_callB call_isi (by rfl) N.isinstance (by decide +kernel) (pa_cons (pe_ix ix_seq (pv 1) pe_int (fun _ _ => rfl)) (pa_cons (pe_bltn (v := .ty "bool") (by rfl) N.bool (by decide +kernel) rfl) pa_nil)))) (pw_or1 (pt_cmpR op_lt (pe_ix ix_seq (pv 1) pe_int (fun _ _ => rfl)) pe_int (nomark _))))))) (pss_one (ps_ret pe_bl)) pss_nil)))) (pss_one (ps_ret pe_bl))))
end
end Kd
namespace Kd
open PySem PySem.Spec PyProof.Rows L2 Xg Dv
section
variable {P : Program} {w : World} {K : PySem.W.Frag} {mg : Str → Option Value} {base : Heap}
theorem sc__law_hill : FnScope ["_law_box_here", "_law_longs", "_law_more", "_law_turn", "_law_at", "_law_told", "_law_long"] ["_law_box_here"] (defScope (topS 25)) := ⟨rfl, rfl, rfl, by decide +kernel, rfl, by decide +kernel, by decide +kernel⟩
theorem ok__law_hill {f : Addr} {fd : FuncData} (F : Fun K "_law_hill" "_law_hill" (topS 25) f fd) (N : Nm mg) (D__law_take : Df P w K mg base "_law_take" ["_law_box_here", "_law_bound"] 1 (spD K 1 F_take)) : FnG P w K mg base 2 f fd ["_law_box_here"] (spD K 108 F__law_hill) := by
  unfold F__law_hill
  exact okD F sc__law_hill (s__law_hill K) fun cdv A outer s H hG hr => (pss_cons (ps_par (i := 1) (j := 2) rfl sc__law_hill.nd rfl rfl (by decide) rfl rfl (pa_cons (pe_lst pa_nil) (pa_cons (pe_lst pa_nil) pa_nil)) (by rfl)) (pss_cons (ps_for PassesOwn.never rfl (pi_range1 (by rfl) N.range (pa_cons (pe_op op_addX pe_int (pe_df D__law_take hG (hr.mono (by decide)) (by rfl) (pa_cons (pv 0) (pa_cons pe_int pa_nil)))) pa_nil)) (pg_name (i := 3) sc__law_hill.nd rfl (by first | exact .inl rfl | exact .inr rfl)) (pss_one (ps_expr (pe_bm PySem.F.plainAttrs_list PySem.F.slot_list_append PySem.F.type_list_append mt_append (pv 1) (pa_cons (pe_op op_addX (pe_op op_addX (pe_ifExp (pt_cmpR (op_neX hr.units) (pv 1) (pe_lst pa_nil) (nomark _)) (pe_ix ix_seq (pv 1) (pe_un un_neg pe_int) (fun _ _ => rfl)) pe_int) pe_int) (pe_df D__law_take hG (hr.mono (by decide)) (by rfl) (pa_cons (pv 0) (pa_cons pe_int pa_nil)))) pa_nil))))) (pss_cons (ps_for PassesOwn.never rfl (pi_range1 (by rfl) N.range (pa_cons (pe_df D__law_take hG (hr.mono (by decide)) (by rfl) (pa_cons (pv 0) (pa_cons pe_int pa_nil))) pa_nil)) (pg_name (i := 3) sc__law_hill.nd rfl (by first | exact .inl rfl | exact .inr rfl)) (pss_one (ps_expr (pe_bm PySem.F.plainAttrs_list PySem.F.slot_list_append PySem.F.type_list_append mt_append (pv 2) (pa_cons (pe_op op_addX (pe_op op_addX (pe_ifExp (pt_cmpR (op_neX hr.units) (pv 2) (pe_lst pa_nil) (nomark _)) (pe_ix ix_seq (pv 2) (pe_un un_neg pe_int) (fun _ _ => rfl)) pe_int) pe_int) (pe_df D__law_take hG (hr.mono (by decide)) (by rfl) (pa_cons (pv 0) (pa_cons pe_int pa_nil)))) pa_nil))))) (pss_cons (ps_par (i := 4) (j := 5) rfl sc__law_hill.nd rfl rfl (by decide) rfl rfl (pa_cons (pe_df D__law_take hG (hr.mono (by decide)) (by rfl) (pa_cons (pv 0) (pa_cons pe_int pa_nil))) (pa_cons (pe_lst pa_nil) pa_nil)) (by rfl)) (pss_cons (ps_for PassesOwn.never rfl (Pw.pi_seq (pe_op op_addX (pv 1) (pe_revL (pv 2)))) (pg_name (i := 6) sc__law_hill.nd rfl (by first | exact .inl rfl | exact .inr rfl)) (pss_cons (ps_expr (pe_bm PySem.F.plainAttrs_list PySem.F.slot_list_append PySem.F.type_list_append mt_append (pv 5) (pa_cons (pe_tup (pa_cons (pe_ix ix_seq (pe_lst (pa_cons pe_str (pa_cons pe_str pa_nil))) (pv 4) (fun _ _ => rfl)) (pa_cons (pv 6) pa_nil))) pa_nil))) (pss_one (ps_set (i := 4) sc__law_hill.nd rfl (by first | exact .inl rfl | exact .inr rfl) (pe_op op_sub pe_int (pv 4)))))) (pss_one (ps_ret (pv 5))))))))
theorem okL__law_hill {f : Addr} {fd : FuncData} (F : Fun K "_law_hill" "_law_hill" (topS 25) f fd) (N : Nm mg) (D__law_take : Df P w K mg base "_law_take" ["_law_box_here", "_law_bound"] 1 (spD K 1 F_take)) : FnG P w K mg base 2 f fd ["_law_box_here"] (spL K 108 L__law_hill) := by
  unfold L__law_hill
  exact okL F sc__law_hill (s__law_hill K) fun cdv A outer s H hG hr => (pss_cons (ps_par (i := 1) (j := 2) rfl sc__law_hill.nd rfl rfl (by decide) rfl rfl (pa_cons (pe_lst pa_nil) (pa_cons (pe_lst pa_nil) pa_nil)) (by rfl)) (pss_cons (ps_for PassesOwn.never rfl (pi_range1 (by rfl) N.range (pa_cons (pe_op op_addX pe_int (pe_df D__law_take hG (hr.mono (by decide)) (by rfl) (pa_cons (pv 0) (pa_cons pe_int pa_nil)))) pa_nil)) (pg_name (i := 3) sc__law_hill.nd rfl (by first | exact .inl rfl | exact .inr rfl)) (pss_one (ps_expr (pe_bm PySem.F.plainAttrs_list PySem.F.slot_list_append PySem.F.type_list_append mt_append (pv 1) (pa_cons (pe_op op_addX (pe_op op_addX (pe_ifExp (pt_cmpR (op_neX hr.units) (pv 1) (pe_lst pa_nil) (nomark _)) (pe_ix ix_seq (pv 1) (pe_un un_neg pe_int) (fun _ _ => rfl)) pe_int) pe_int) (pe_df D__law_take hG (hr.mono (by decide)) (by rfl) (pa_cons (pv 0) (pa_cons pe_int pa_nil)))) pa_nil))))) (pss_cons (ps_for PassesOwn.never rfl (pi_range1 (by rfl) N.range (pa_cons (pe_df D__law_take hG (hr.mono (by decide)) (by rfl) (pa_cons (pv 0) (pa_cons pe_int pa_nil))) pa_nil)) (pg_name (i := 3) sc__law_hill.nd rfl (by first | exact .inl rfl | exact .inr rfl)) (pss_one (ps_expr (pe_bm PySem.F.plainAttrs_list PySem.F.slot_list_append PySem.F.type_list_append mt_append (pv 2) (pa_cons (pe_op op_addX (pe_op op_addX (pe_ifExp (pt_cmpR (op_neX hr.units) (pv 2) (pe_lst pa_nil) (nomark _)) (pe_ix ix_seq (pv 2) (pe_un un_neg pe_int) (fun _ _ => rfl)) pe_int) pe_int) (pe_df D__law_take hG (hr.mono (by decide)) (by rfl) (pa_cons (pv 0) (pa_cons pe_int pa_nil)))) pa_nil))))) (pss_cons (ps_par (i := 4) (j := 5) rfl sc__law_hill.nd rfl rfl (by decide) rfl rfl (pa_cons (pe_df D__law_take hG (hr.mono (by decide)) (by rfl) (pa_cons (pv 0) (pa_cons pe_int pa_nil))) (pa_cons (pe_lst pa_nil) pa_nil)) (by rfl)) (pss_cons (ps_for PassesOwn.never rfl (Pw.pi_seq (pe_op op_addX (pv 1) (pe_revL (pv 2)))) (pg_name (i := 6) sc__law_hill.nd rfl (by first | exact .inl rfl | exact .inr rfl)) (pss_cons (ps_expr (pe_bm PySem.F.plainAttrs_list PySem.F.slot_list_append PySem.F.type_list_append mt_append (pv 5) (pa_cons (pe_tup (pa_cons (pe_ix ix_seq (pe_lst (pa_cons pe_str (pa_cons pe_str pa_nil))) (pv 4) (fun _ _ => rfl)) (pa_cons (pv 6) pa_nil))) pa_nil))) (pss_one (ps_set (i := 4) sc__law_hill.nd rfl (by first | exact .inl rfl | exact .inr rfl) (pe_op op_sub pe_int (pv 4)))))) (pss_one (ps_ret (pv 5))))))))
end
end Kd
namespace Kd
open PySem PySem.Spec PyProof.Rows L2 Xg Dv
section
variable {P : Program} {w : World} {K : PySem.W.Frag} {mg : Str → Option Value} {base : Heap}
theorem sc__law_right : FnScope ["_law_box_here", "_law_own", "_law_starts", "_law_again", "_law_odd_here", "_law_item", "_law_kept", "_law_fine", "_law_due", "_law_found"] ["_law_box_here"] (defScope (topS 26)) := ⟨rfl, rfl, rfl, by decide +kernel, rfl, by decide +kernel, by decide +kernel⟩
theorem ok__law_right {f : Addr} {fd : FuncData} (F : Fun K "_law_right" "_law_right" (topS 26) f fd) (N : Nm mg) (D__law_are_turns : Df P w K mg base "_law_are_turns" ["_law_matter"] 1 (spD K 0 F__law_are_turns)) (D__law_hill : Df P w K mg base "_law_hill" ["_law_box_here"] 2 (spD K 108 F__law_hill)) (DL__law_hill : Df P w K mg base "_law_hill" ["_law_box_here"] 2 (spL K 108 L__law_hill)) (D__law_joined : Df P w K mg base "_law_joined" ["_law_some"] 1 (spD K 0 F__law_joined)) (DL__law_joined : Df P w K mg base "_law_joined" ["_law_some"] 1 (spL K 0 L__law_joined)) (D__law_of : Df P w K mg base "_law_of" ["_law_box_here", "_law_some"] 2 (spD K 1 F__law_of)) (D__law_otherwise__4 : Df P w K mg base "_law_otherwise" ["_law_box_here", "_law_matter"] 7 (spD K 40 F__law_otherwise__4)) (D__law_same : Df P w K mg base "_law_same" ["_law_found", "_law_due"] 6 (spD K 0 F_same)) (D__law_spots : Df P w K mg base "_law_spots" ["_law_some"] 1 (spD K 0 F__law_spots)) (DL__law_spots : Df P w K mg base "_law_spots" ["_law_some"] 1 (spL K 0 L__law_spots)) (D__law_take : Df P w K mg base "_law_take" ["_law_box_here", "_law_bound"] 1 (spD K 1 F_take)) (D__law_turns : Df P w K mg base "_law_turns" ["_law_box_here", "_law_size", "_law_long"] 2 (spD K 202 F__law_turns)) (DL__law_turns : Df P w K mg base "_law_turns" ["_law_box_here", "_law_size", "_law_long"] 2 (spL K 202 L__law_turns)) (D_forgotten : Df P w K mg base "forgotten" ["turns"] 2 (spD K 0 F_forgotten)) (DL_forgotten : Df P w K mg base "forgotten" ["turns"] 2 (spL K 0 L_forgotten)) (D_is_forgotten : Df P w K mg base "is_forgotten" ["thing"] 5 (spD K 0 F_is_forgotten)) (D_is_turns : Df P w K mg base "is_turns" ["thing"] 4 (spD K 0 F_is_turns)) (DR_is_forgotten : DfR P w K mg base "is_forgotten" ["thing"] 5 (spD K 0 F_is_forgotten)) (DR_is_turns : DfR P w K mg base "is_turns" ["thing"] 4 (spD K 0 F_is_turns)) : FnG P w K mg base 8 f fd ["_law_box_here"] (spD K 1049 F__law_right) := by
  unfold F__law_right
  exact okD F sc__law_right (s__law_right K) fun cdv A outer s H hG hr => (pss_cons (ps_set (i := 1) sc__law_right.nd rfl (by first | exact .inl rfl | exact .inr rfl) (pe_df D__law_turns hG (hr.mono (by decide)) (by rfl) (pa_cons (pv 0) (pa_cons pe_int (pa_cons (pe_df D__law_of hG (hr.mono (by decide)) (by rfl) (pa_cons (pv 0) (pa_cons (pe_lst (pa_cons pe_int (pa_cons pe_int (pa_cons pe_int pa_nil)))) pa_nil))) pa_nil))))) (pss_cons (ps_set (i := 2) sc__law_right.nd rfl (by first | exact .inl rfl | exact .inr rfl) (pe_lst (pa_cons (pv 1) (pa_cons (pe_df D_forgotten hG (hr.mono (by decide)) (by rfl) (pa_cons (pv 1) pa_nil)) (pa_cons (pe_df D__law_hill hG (hr.mono (by decide)) (by rfl) (pa_cons (pv 0) pa_nil)) pa_nil))))) (pss_cons (ps_for PassesOwn.never rfl (pi_range1 (by rfl) N.range (pa_cons pe_int pa_nil)) (pg_name (i := 3) sc__law_right.nd rfl (by first | exact .inl rfl | exact .inr rfl)) (pss_cons (ps_set (i := 5) sc__law_right.nd rfl (by first | exact .inl rfl | exact .inr rfl) (pe_ifExp (pt_cmpR op_lt (pv 3) pe_int (nomark _)) (pe_ix ix_seq (pv 2) (pv 3) (fun _ _ => rfl)) (pe_df D__law_otherwise__4 hG (hr.mono (by decide)) (by rfl) (pa_cons (pv 0) (pa_cons (pe_ix ix_seq (pv 2) (pe_df D__law_take hG (hr.mono (by decide)) (by rfl) (pa_cons (pv 0) (pa_cons pe_int pa_nil))) (fun _ _ => rfl)) pa_nil))))) (pss_cons (ps_if (L2.PW.pt (pw_and (pt_cmpR op_gt (pv 3) pe_int (nomark _)) (pw_and1 (pt_cmpR (op_eqX hr.units) (pe_df D__law_take hG (hr.mono (by decide)) (by rfl) (pa_cons (pv 0) (pa_cons pe_int pa_nil))) pe_int (nomark _))))) (pss_one (ps_set (i := 5) sc__law_right.nd rfl (by first | exact .inl rfl | exact .inr rfl) (pe_df D__law_otherwise__4 hG (hr.mono (by decide)) (by rfl) (pa_cons (pv 0) (pa_cons (pv 5) pa_nil))))) pss_nil) (pss_cons (ps_par (i := 6) (j := 7) rfl sc__law_right.nd rfl rfl (by decide) rfl rfl (pa_cons (pe_callB (call_reprA hG hr.units) (by rfl) N.repr bt_repr (pa_cons (pv 5) pa_nil)) (pa_cons (pe_df D__law_are_turns hG (hr.mono (by decide)) (by rfl) (pa_cons (pv 5) pa_nil)) pa_nil)) (by rfl)) (pss_cons (ps_set (i := 8) sc__law_right.nd rfl (by first | exact .inl rfl | exact .inr rfl) (pe_and (pv 7) (pe_and (pe_cmpR (op_eqX hr.units) (pe_df D__law_joined hG (hr.mono (by decide)) (by rfl) (pa_cons (pv 5) pa_nil)) (pv 5) (nomark _)) (pe_one (pe_cmpR (op_eqX hr.units) (pe_df D__law_spots hG (hr.mono (by decide)) (by rfl) (pa_cons (pv 5) pa_nil)) (pe_lst pa_nil) (nomark _)))))) (pss_cons (ps_set (i := 9) sc__law_right.nd rfl (by first | exact .inl rfl | exact .inr rfl) (pe_lst (pa_cons (pe_df D_is_turns hG (hr.mono (by decide)) (by rfl) (pa_cons (pv 5) pa_nil)) (pa_cons (pe_dfr DR_is_turns hG (hr.mono (by decide)) (by rfl) (pk_cons (pv 5) pk_nil)) (pa_cons (pe_df D_is_forgotten hG (hr.mono (by decide)) (by rfl) (pa_cons (pv 5) pa_nil)) (pa_cons (pe_dfr DR_is_forgotten hG (hr.mono (by decide)) (by rfl) (pk_cons (pv 5) pk_nil)) pa_nil)))))) (pss_one (ps_if (L2.PW.pt (pw_or (pt_not (pt_val (pe_df D__law_same hG (hr.mono (by decide)) (by rfl) (pa_cons (pv 9) (pa_cons (pe_lst (pa_cons (pv 7) (pa_cons (pv 7) (pa_cons (pv 8) (pa_cons (pv 8) pa_nil))))) pa_nil))))) (pw_or1 (pt_cmpR (op_neX hr.units) (pe_callB (call_reprA hG hr.units) (by rfl) N.repr bt_repr (pa_cons (pv 5) pa_nil)) (pv 6) (nomark _))))) (pss_one (ps_ret pe_bl)) pss_nil)))))))) (pss_cons (ps_set (i := 4) sc__law_right.nd rfl (by first | exact .inl rfl | exact .inr rfl) (pe_lst (pa_cons pe_non (pa_cons (pe_tup pa_nil) (pa_cons (pe_tup (pa_cons pe_str (pa_cons pe_int pa_nil))) (pa_cons (pe_lst (pa_cons (pe_tup (pa_cons pe_str (pa_cons pe_int pa_nil))) pa_nil)) (pa_cons (pe_lst (pa_cons (pe_tup (pa_cons pe_str (pa_cons pe_bl pa_nil))) pa_nil)) (pa_cons (pe_lst (pa_cons (pe_lst (pa_cons pe_str (pa_cons pe_int pa_nil))) pa_nil)) (pa_cons (pe_lst (pa_cons (pe_tup (pa_cons pe_str pa_nil)) pa_nil)) (pa_cons (pe_lst (pa_cons (pe_tup (pa_cons pe_str (pa_cons pe_int pa_nil))) pa_nil)) pa_nil)))))))))) (pss_one (ps_ret (pe_and (pe_cmpR (op_eqX hr.units) (pe_lc (own := [("_law_item", 5)]) rfl sc__law_right.nd (Pw.pi_seq (pv 4)) (blkOk_by (N := ["_law_box_here", "_law_own", "_law_starts", "_law_again", "_law_odd_here", "_law_item", "_law_kept", "_law_fine", "_law_due", "_law_found"]) (sc := defScope (topS 26)) (by decide +kernel)) (fun _ _ _ _ _ => (pg_name (i := 5) sc__law_right.nd rfl (by first | exact .inl rfl | exact .inr rfl))) (fun _ _ _ _ _ => pts_nil) (fun _ _ _ _ _ => (pe_df D_is_forgotten hG (hr.mono (by decide)) (by rfl) (pa_cons (pv 5) pa_nil)))) (pe_op op_mulX (pe_lst (pa_cons pe_bl pa_nil)) (pe_callB call_len (by rfl) N.len PySem.boot_len (pa_cons (pv 4) pa_nil))) (nomark _)) (pe_one (pe_cmpR op_is_bl (pe_df D_is_forgotten hG (hr.mono (by decide)) (by rfl) (pa_cons (pe_lst pa_nil) pa_nil)) pe_bl (nomark _))))))))))
end
end Kd
namespace Kd
open PySem PySem.Spec PyProof.Rows L2 Xg Dv
section
variable {P : Program} {w : World} {K : PySem.W.Frag} {mg : Str → Option Value} {base : Heap}
theorem sc_law : FnScope ["_law_script", "_law_k", "_law_box_here", "_law_turn"] ["_law_script"] (defScope (topS 27)) := ⟨rfl, rfl, rfl, by decide +kernel, rfl, by decide +kernel, by decide +kernel⟩
theorem ok_law {f : Addr} {fd : FuncData} (F : Fun K "law" "law" (topS 27) f fd) (N : Nm mg) (D__law_box : Df P w K mg base "_law_box" ["_law_script", "_law_k"] 1 (spBx K)) (D__law_right : Df P w K mg base "_law_right" ["_law_box_here"] 8 (spD K 1049 F__law_right)) : FnG P w K mg base 9 f fd ["_law_script"] (spD K 419600 F_law) := by
  unfold F_law
  exact okD F sc_law (s_law K) fun cdv A outer s H hG hr => (pss_cons (ps_for PassesOwn.never rfl (pi_range1 (by rfl) N.range (pa_cons (pe_callB (call_max2 rfl) (by rfl) N.max (by decide +kernel) (pa_cons pe_int (pa_cons (pe_callB (call_min2 rfl) (by rfl) N.min (by decide +kernel) (pa_cons pe_int (pa_cons (pe_callB call_len (by rfl) N.len PySem.boot_len (pa_cons (pv 0) pa_nil)) pa_nil))) pa_nil))) pa_nil)) (pg_name (i := 1) sc_law.nd rfl (by first | exact .inl rfl | exact .inr rfl)) (pss_cons (ps_set (i := 2) sc_law.nd rfl (by first | exact .inl rfl | exact .inr rfl) (pe_df D__law_box hG (hr.mono (by decide)) (by rfl) (pa_cons (pv 0) (pa_cons (pv 1) pa_nil)))) (pss_one (ps_if (pt_not (pt_val (pe_callB (cr_all rfl) (by rfl) N.all (by decide +kernel) (pa_cons (pe_lc (own := [("_law_turn", 3)]) rfl sc_law.nd (pi_range1 (by rfl) N.range (pa_cons pe_int pa_nil)) (blkOk_by (N := ["_law_script", "_law_k", "_law_box_here", "_law_turn"]) (sc := defScope (topS 27)) (by decide +kernel)) (fun _ _ _ _ _ => (pg_name (i := 3) sc_law.nd rfl (by first | exact .inl rfl | exact .inr rfl))) (fun _ _ _ _ _ => pts_nil) (fun _ _ _ _ _ => (pe_df D__law_right hG (hr.mono (by decide)) (by rfl) (pa_cons (pv 2) pa_nil)))) pa_nil)))) (pss_one (ps_ret pe_bl)) pss_nil)))) (pss_one (ps_ret pe_bl)))
end
end Kd
namespace Kd
open PySem PySem.Spec PyProof.Rows L2 Xg Dv
theorem take_of {n : Int} {Q : PyData → Prop} (h0 : 0 < n) (h1 : n < 1073741824) (q : ∀ r, 0 ≤ r → r < n → Q (.int r)) : F_take [.box, .dt (.int n)] Q := ⟨⟨h0, h1⟩, q⟩
structure Tx (n : Nat) (x : Str) : Prop where
  asc : ∀ c ∈ x.cps.toList, c < 128
  len : x.cps.size ≤ n
theorem Tx.mono {n k : Nat} {x : Str} (h : Tx n x) (l : n ≤ k) : Tx k x := ⟨h.asc, Nat.le_trans h.len l⟩
theorem tx_cat {n k : Nat} {x y : Str} (h : Tx n x) (g : Tx k y) : Tx (n + k) (x ++ y) := by
  refine ⟨fun c m => ?_, ?_⟩
  · have e : (x ++ y).cps.toList = x.cps.toList ++ y.cps.toList := Array.toList_append
    rw [e] at m
    exact (List.mem_append.mp m).elim (h.asc c) (g.asc c)
  · have e : (x ++ y).cps.size = x.cps.size + y.cps.size := Array.size_append
    rw [e]
    exact Nat.add_le_add h.len g.len
theorem tx_cut {n : Nat} {x : Str} (h : Tx n x) (lo hi : Option Int) : Tx n (cutS x lo hi) := by
  refine ⟨fun c m => h.asc c ?_, ?_⟩
  · have m1 : c ∈ (x.cps.toList.drop (HT.sIx x.length 0 lo)).take (HT.sIx x.length x.length hi - HT.sIx x.length 0 lo) := m
    exact List.mem_of_mem_drop (List.mem_of_mem_take m1)
  · exact Nat.le_trans (cutS_length x lo hi) h.len
theorem up1_asc : ∀ c, c < 128 → up1 c < 128 := by decide +kernel
theorem tx_up {n : Nat} {x : Str} (h : Tx n x) : Tx (3 * n) (Txt.upper x) := by
  refine ⟨fun c m => ?_, ?_⟩
  · have m1 : c ∈ (placed x fun _ c => Unicode.upperOf c) := Array.mem_toList_iff.mp m
    unfold placed at m1
    obtain ⟨l, hl, hc⟩ := Array.mem_flatten.mp m1
    obtain ⟨i, hi, e⟩ := Array.mem_mapIdx.mp hl
    have a1 := h.asc _ (Array.mem_toList_iff.mpr (Array.getElem_mem hi))
    rw [← e] at hc
    dsimp only at hc
    rw [upperOf_ascii _ a1] at hc
    have e2 : c = up1 x.cps[i] := by simpa using hc
    rw [e2]
    exact up1_asc _ a1
  · exact Nat.le_trans (len_upper x) (Nat.mul_le_mul_left 3 h.len)
theorem tx_int {i : Int} {k : Nat} (hk : 0 < k) (h : i.natAbs < 10 ^ k) : Tx (k + 1) (Str.ofString (toString i)) := by
  have e0 : Str.ofString (toString i) = Str.ofStringByList (toString i) := by rw [Str.ofString_eq_byList]
  have dig : ∀ (m : Nat) (c : Char), c ∈ (Nat.repr m).toList → c.toNat < 128 := fun m c hc => by
    have hd : c ∈ Nat.toDigits 10 m := by
      unfold Nat.repr at hc
      simpa using hc
    have := Nat.isDigit_of_mem_toDigits (b := 10) (by decide) (by decide) hd
    rw [Char.isDigit] at this
    simp at this
    have h2 := this.2
    have : c.toNat ≤ 57 := h2
    omega
  refine ⟨fun c m => ?_, ?_⟩
  · rw [e0] at m
    have m1 : c ∈ (toString i).toList.map Char.toNat := by simpa [Str.ofStringByList] using m
    obtain ⟨ch, hm, rfl⟩ := List.mem_map.mp m1
    cases i with
    | ofNat k => exact dig k ch hm
    | negSucc k =>
      have hs : (toString (Int.negSucc k)).toList = '-' :: (Nat.repr (k + 1)).toList := by
        show ("-" ++ Nat.repr (k + 1)).toList = _
        rw [String.toList_append]
        rfl
      rw [hs] at hm
      cases hm with
      | head => decide
      | tail _ hm => exact dig _ ch hm
  · have := int_text_length_le10 hk h
    show (Str.ofString (toString i)).length ≤ k + 1
    rw [PySem.ofString_length]
    exact this
theorem tx_rev {n : Nat} {x : Str} (h : Tx n x) : Tx n (revS x) := by
  refine ⟨fun c m => h.asc c ?_, ?_⟩
  · simpa [revS] using m
  · simpa [revS] using h.len
def mkD (T : Bool) (ds : List PyData) : PyData := bif T then .tuple ds else .list ds
section
open PyData
theorem w_app : ∀ ds es : List PyData, weightAll (ds ++ es) = weightAll ds + weightAll es
  | [], es => by simp [weightAll]
  | d :: ds, es => by
    rw [List.cons_append, weightAll, weightAll, w_app ds es]
    omega
theorem w_set : ∀ (ds : List PyData) (i : Nat) (d1 d' : PyData), ds[i]? = some d1 → weightAll (ds.set i d') + weight d1 = weightAll ds + weight d'
  | [], _, _, _, h => by simp at h
  | d :: ds, 0, d1, d', h => by
    simp at h
    subst h
    rw [List.set_cons_zero, weightAll, weightAll]
    omega
  | d :: ds, i + 1, d1, d', h => by
    have := w_set ds i d1 d' (by simpa using h)
    rw [List.set_cons_succ, weightAll, weightAll]
    omega
theorem w_erase : ∀ (ds : List PyData) (i : Nat), weightAll (ds.eraseIdx i) ≤ weightAll ds
  | [], _ => by simp
  | d :: ds, 0 => by
    rw [List.eraseIdx_cons_zero, weightAll]
    omega
  | d :: ds, i + 1 => by
    have := w_erase ds i
    rw [List.eraseIdx_cons_succ, weightAll, weightAll]
    omega
theorem w_rev : ∀ ds : List PyData, weightAll ds.reverse = weightAll ds
  | [] => rfl
  | d :: ds => by
    rw [List.reverse_cons, w_app, w_rev ds, weightAll, weightAll, weightAll]
    omega
theorem w_mem : ∀ (ds : List PyData) (i : Nat) (d1 : PyData), ds[i]? = some d1 → weight d1 + 1 ≤ weightAll ds
  | [], _, _, h => by simp at h
  | d :: ds, 0, d1, h => by
    simp at h
    subst h
    rw [weightAll]
    omega
  | d :: ds, i + 1, d1, h => by
    have := w_mem ds i d1 (by simpa using h)
    rw [weightAll]
    omega
theorem w_cut (ds : List PyData) (i : Nat) : weightAll (ds.take i) + weightAll (ds.drop i) = weightAll ds := by
  rw [← w_app, List.take_append_drop]
end
theorem x0 {n : Nat} : ∀ d ∈ ([] : List PyData), d.weight ≤ n := fun _ h => nomatch h
theorem x1 {n : Nat} {a : PyData} {l : List PyData} (h : a.weight ≤ n) (g : ∀ d ∈ l, d.weight ≤ n) : ∀ d ∈ a :: l, d.weight ≤ n := fun d m => by
  cases m with
  | head => exact h
  | tail _ m => exact g d m
theorem w_str {n k : Nat} {x : Str} (h : Tx n x) (l : n ≤ k) : (PyData.str x).weight ≤ k := by
  rw [PyData.weight]
  exact Nat.le_trans h.len l
theorem w_int {i : Int} (h : i.natAbs ≤ 10 ^ 30 + 9) : (PyData.int i).weight ≤ 9999 := by
  have lim : (10 : Nat) ^ 30 = 1000000000000000000000000000000 := by decide
  have lim2 : (2 : Nat) ^ 110 = 1298074214633706907132624082305024 := by decide
  rw [PyData.weight]
  by_cases z : i.natAbs = 0
  · have : i = 0 := by omega
    rw [this]
    decide
  · have := (Nat.log2_lt (k := 110) z).mpr (by omega)
    split <;> omega
structure Sh (n : Nat) (d : PyData) : Prop where
  sh : d.showable = true
  di : d.hasDict = false
  dp : d.depth ≤ n
  cl : d.canLay0 = true
  lv : d.leavesShort 40 = true
structure ShA (n : Nat) (ds : List PyData) : Prop where
  sh : PyData.showableAll ds = true
  di : PyData.hasDictAll ds = false
  dp : PyData.depthAll ds ≤ n
  cl : PyData.canLayAll0 ds = true
  lv : PyData.leavesShortAll 40 ds = true
theorem sh_all {n : Nat} : ∀ ds : List PyData, (∀ d ∈ ds, Sh n d) → ShA n ds
  | [], _ => ⟨by simp [PyData.showableAll], by simp [PyData.hasDictAll], by simp [PyData.depthAll], by simp [PyData.canLayAll0], by simp [PyData.leavesShortAll]⟩
  | a :: l, h => by
    obtain ⟨g1, g2, g3, g4, g5⟩ := sh_all l fun x hx => h x (List.mem_cons_of_mem _ hx)
    obtain ⟨f1, f2, f3, f4, f5⟩ := h a List.mem_cons_self
    refine ⟨?_, ?_, ?_, ?_, ?_⟩
    · rw [PyData.showableAll, f1, g1]
      rfl
    · rw [PyData.hasDictAll, f2, g2]
      rfl
    · rw [PyData.depthAll]
      exact Nat.max_le.mpr ⟨f3, g3⟩
    · rw [PyData.canLayAll0, f4, g4]
      rfl
    · rw [PyData.leavesShortAll, f5, g5]
      rfl
theorem sh_tup {n : Nat} {ds : List PyData} (h : ∀ d ∈ ds, Sh n d) : Sh (n + 1) (.tuple ds) := by
  obtain ⟨g1, g2, g3, g4, g5⟩ := sh_all ds h
  exact ⟨by rw [PyData.showable]; exact g1, by rw [PyData.hasDict]; exact g2, by rw [PyData.depth]; omega, by rw [PyData.canLay0]; exact g4, by rw [PyData.leavesShort]; exact g5⟩
theorem sh_lst {n : Nat} {ds : List PyData} (h : ∀ d ∈ ds, Sh n d) : Sh (n + 1) (.list ds) := by
  obtain ⟨g1, g2, g3, g4, g5⟩ := sh_all ds h
  exact ⟨by rw [PyData.showable]; exact g1, by rw [PyData.hasDict]; exact g2, by rw [PyData.depth]; omega, by rw [PyData.canLay0]; exact g4, by rw [PyData.leavesShort]; exact g5⟩
theorem sh_int {n : Nat} {i : Int} (h : i.natAbs ≤ 10 ^ 30 + 9) : Sh n (.int i) := by
  have lim : (10 : Nat) ^ 30 = 1000000000000000000000000000000 := by decide
  have lim1 : (10 : Nat) ^ 31 = 10000000000000000000000000000000 := by decide
  have lim2 : (2 : Nat) ^ 110 = 1298074214633706907132624082305024 := by decide
  refine ⟨?_, by simp [PyData.hasDict], by simp [PyData.depth], by simp [PyData.canLay0], ?_⟩
  · rw [PyData.showable]
    by_cases z : i.natAbs = 0
    · rw [z]
      decide
    · exact decide_eq_true (Nat.lt_trans ((Nat.log2_lt (k := 110) z).mpr (by omega)) (by decide))
  · rw [PyData.leavesShort]
    have e := int_text_length_le10 (a := i) (k := 31) (by decide) (by omega)
    refine decide_eq_true ?_
    show (Str.ofString (toString i)).length ≤ 40
    rw [PySem.ofString_length]
    omega
theorem sh_str {n k : Nat} {x : Str} (h : Tx k x) : Sh n (.str x) := by
  refine ⟨by simp [PyData.showable], by simp [PyData.hasDict], by simp [PyData.depth], ?_, ?_⟩
  · rw [PyData.canLay0]
    unfold PyData.strOk
    refine Array.all_eq_true_iff_forall_mem.mpr fun c m => decide_eq_true ?_
    have := h.asc c (Array.mem_toList_iff.mpr m)
    omega
  · rw [PyData.leavesShort]
    refine List.all_eq_true.mpr fun c m => decide_eq_true ?_
    have := h.asc c m
    have e : (16 : Nat) ^ 8 = 4294967296 := by decide
    omega
theorem sh_non {n : Nat} : Sh n .none := ⟨by simp [PyData.showable], by simp [PyData.hasDict], by simp [PyData.depth], by simp [PyData.canLay0], by simp [PyData.leavesShort]⟩
theorem sh_bl {n : Nat} {b : Bool} : Sh n (.bool b) := ⟨by simp [PyData.showable], by simp [PyData.hasDict], by simp [PyData.depth], by simp [PyData.canLay0], by simp [PyData.leavesShort]⟩
def okT (m b s : Nat) : Nat → PyData → Prop
  | _, .none => True
  | _, .bool _ => True
  | _, .int i => i.natAbs ≤ b
  | _, .str x => Tx s x
  | n + 1, .list ds => ds.length ≤ m ∧ ∀ d ∈ ds, okT m b s n d
  | n + 1, .tuple ds => ds.length ≤ m ∧ ∀ d ∈ ds, okT m b s n d
  | _, _ => False
theorem okT_up {m m' b b' s s' : Nat} (hm : m ≤ m') (hb : b ≤ b') (hs : s ≤ s') : ∀ {n n' : Nat} {d : PyData}, n ≤ n' → okT m b s n d → okT m' b' s' n' d
  | n, n', .none, _, _ => by cases n' <;> exact trivial
  | n, n', .bool _, _, _ => by cases n' <;> exact trivial
  | n, n', .int i, _, h => by
    have h1 : i.natAbs ≤ b := by cases n <;> exact h
    have h2 : i.natAbs ≤ b' := by omega
    cases n' <;> exact h2
  | n, n', .str x, _, h => by
    have h1 : Tx s x := by cases n <;> exact h
    have h2 : Tx s' x := h1.mono hs
    cases n' <;> exact h2
  | 0, _, .list _, _, h => h.elim
  | 0, _, .tuple _, _, h => h.elim
  | 0, _, .dict _, _, h => h.elim
  | n + 1, 0, .list _, l, h => absurd l (by omega)
  | n + 1, 0, .tuple _, l, h => absurd l (by omega)
  | n + 1, n' + 1, .list ds, l, h => ⟨Nat.le_trans h.1 hm, fun d hd => okT_up hm hb hs (by omega) (h.2 d hd)⟩
  | n + 1, n' + 1, .tuple ds, l, h => ⟨Nat.le_trans h.1 hm, fun d hd => okT_up hm hb hs (by omega) (h.2 d hd)⟩
  | n + 1, _, .dict _, _, h => h.elim
theorem ok_i {m b s n : Nat} {i : Int} (h : i.natAbs ≤ b) : okT m b s n (.int i) := by cases n <;> exact h
theorem ok_int {m b s n : Nat} {i : Int} (h : okT m b s n (.int i)) : i.natAbs ≤ b := by cases n <;> exact h
theorem ok_bl {m b s n : Nat} {x : Bool} : okT m b s n (.bool x) := by cases n <;> exact trivial
theorem ok_non {m b s n : Nat} : okT m b s n .none := by cases n <;> exact trivial
theorem ok_s {m b s n : Nat} {x : Str} (h : Tx s x) : okT m b s n (.str x) := by cases n <;> exact h
theorem ok_str {m b s n : Nat} {x : Str} (h : okT m b s n (.str x)) : Tx s x := by cases n <;> exact h
theorem ok_seq {m b s n : Nat} {T : Bool} {ds : List PyData} (h : okT m b s n (mkD T ds)) : ∃ n', n = n' + 1 ∧ ds.length ≤ m ∧ ∀ d ∈ ds, okT m b s n' d := by
  cases n with
  | zero => cases T <;> exact h.elim
  | succ n => cases T <;> exact ⟨n, rfl, h.1, h.2⟩
theorem okT_sh {m b s : Nat} (hb : b ≤ 10 ^ 30 + 9) : ∀ {n : Nat} {d : PyData}, okT m b s n d → Sh n d
  | _, .none, _ => sh_non
  | _, .bool _, _ => sh_bl
  | _, .int i, h => sh_int (by have := ok_int h; omega)
  | _, .str x, h => sh_str (ok_str h)
  | 0, .list _, h => h.elim
  | 0, .tuple _, h => h.elim
  | 0, .dict _, h => h.elim
  | n + 1, .list ds, h => sh_lst fun d hd => okT_sh hb (h.2 d hd)
  | n + 1, .tuple ds, h => sh_tup fun d hd => okT_sh hb (h.2 d hd)
  | n + 1, .dict _, h => h.elim
theorem m0 {m b s n : Nat} : ∀ d ∈ ([] : List PyData), okT m b s n d := fun _ h => nomatch h
theorem m1 {m b s n : Nat} {a : PyData} {l : List PyData} (h : okT m b s n a) (g : ∀ d ∈ l, okT m b s n d) : ∀ d ∈ a :: l, okT m b s n d := fun d z => by
  cases z with
  | head => exact h
  | tail _ z => exact g d z
theorem tx_lit {x : Str} (h : (x.cps.toList.all (· < 128) && decide (x.cps.size ≤ 40)) = true) : Tx 40 x := by
  obtain ⟨h1, h2⟩ := Bool.and_eq_true_iff.mp h
  exact ⟨fun c m => of_decide_eq_true (List.all_eq_true.mp h1 c m), of_decide_eq_true h2⟩
def odds : List PyData := [.none, .bool true, .bool false, .int (-1), .int 0, .int 1, .int 2, .int (10 ^ (30 : Int).toNat), .str "", .str "row", .str "ring", .str "forth", .tuple [], .list [], .tuple [.int 0], .list [.int 1], .tuple [.int 1, .int 1], .list [.list [.int 1]], .tuple [.tuple [.int 1]], .tuple [.str "row", .tuple [.int 1]], .tuple [.str "ring", .tuple [.int 1, .int 1]], .list [.str "row", .list [.int 1]]]
theorem odd_w : ∀ d ∈ odds, d.weight ≤ 200 := by decide +kernel
theorem odd_ok : ∀ d ∈ odds, okT 10 (10 ^ 30) 40 2 d := by
  have i : ∀ {n : Nat} {k : Int}, k.natAbs ≤ 10 ^ 30 → okT 10 (10 ^ 30) 40 n (.int k) := fun h => ok_i h
  have tup : ∀ {n : Nat} {ds : List PyData}, ds.length ≤ 10 → (∀ d ∈ ds, okT 10 (10 ^ 30) 40 n d) → okT 10 (10 ^ 30) 40 (n + 1) (.tuple ds) := fun h g => ⟨h, g⟩
  have lst : ∀ {n : Nat} {ds : List PyData}, ds.length ≤ 10 → (∀ d ∈ ds, okT 10 (10 ^ 30) 40 n d) → okT 10 (10 ^ 30) 40 (n + 1) (.list ds) := fun h g => ⟨h, g⟩
  unfold odds
  refine m1 ok_non (m1 ok_bl (m1 ok_bl (m1 (i (by decide)) (m1 (i (by decide)) (m1 (i (by decide)) (m1 (i (by decide)) (m1 (i (by decide)) ?_)))))))
  refine m1 (ok_s (tx_lit (by decide +kernel))) (m1 (ok_s (tx_lit (by decide +kernel))) (m1 (ok_s (tx_lit (by decide +kernel))) (m1 (ok_s (tx_lit (by decide +kernel))) ?_)))
  have o1 : ∀ {n : Nat}, okT 10 (10 ^ 30) 40 n (.int 1) := fun {n} => i (by decide)
  have o0 : ∀ {n : Nat}, okT 10 (10 ^ 30) 40 n (.int 0) := fun {n} => i (by decide)
  refine m1 (tup (by decide) m0) (m1 (lst (by decide) m0) (m1 (tup (by decide) (m1 o0 m0)) (m1 (lst (by decide) (m1 o1 m0)) (m1 (tup (by decide) (m1 o1 (m1 o1 m0))) (m1 (lst (by decide) (m1 (lst (by decide) (m1 o1 m0)) m0)) ?_)))))
  have row : okT 10 (10 ^ 30) 40 1 (.str "row") := ok_s (tx_lit (by decide +kernel))
  have ring : okT 10 (10 ^ 30) 40 1 (.str "ring") := ok_s (tx_lit (by decide +kernel))
  exact m1 (tup (by decide) (m1 (tup (by decide) (m1 o1 m0)) m0)) (m1 (tup (by decide) (m1 row (m1 (tup (by decide) (m1 o1 m0)) m0))) (m1 (tup (by decide) (m1 ring (m1 (tup (by decide) (m1 o1 (m1 o1 m0))) m0))) (m1 (lst (by decide) (m1 row (m1 (lst (by decide) (m1 o1 m0)) m0))) m0)))
theorem odd_of {Q : PyData → Prop} (q : ∀ d ∈ odds, Q d) : F__law_odd [.box] Q := by
  unfold F__law_odd
  refine ⟨rfl, ?_⟩
  refine (show CPow 10 30 ∧ _ from ⟨⟨by decide, by decide, by decide⟩, ?_⟩)
  show f__law_odd_0 [.box, .dt (.list (odds.take 18))] _
  unfold f__law_odd_0
  refine (show 18 + 4 ≤ 1000000 ∧ _ from ⟨by decide, ?_⟩)
  refine ⟨⟨by decide, by decide⟩, fun r r0 r1 => ?_⟩
  show atQ (L2.atI odds r) Q
  obtain ⟨i, rfl⟩ : ∃ i : Nat, r = (i : Int) := ⟨r.toNat, by omega⟩
  have hi : i < odds.length := by show i < 22; omega
  rw [L2.atI_nat (List.getElem?_eq_getElem hi)]
  exact q _ (List.getElem_mem hi)
abbrev Bent (F : FF) (k : Nat) : Prop := ∀ {m b s n : Nat} {d : PyData} {Q : PyData → Prop}, 10 ≤ m → m ≤ 1000 → 10 ^ 30 ≤ b → b ≤ 10 ^ 30 + 8 → 40 ≤ s → s ≤ 3000 → okT m b s n d → n ≤ k → (∀ d', okT (m + 1) (b + 1) (3 * s + 40) (n + 2) d' → d'.weight ≤ 2 * d.weight + 10000 → Q d') → F [.box, .dt d] Q
end Kd
namespace Kd
open PySem PySem.Spec PyProof.Rows L2 Xg Dv
abbrev enN (N : List Sl → Prop) (Q : PyData → Prop) : DEnds := { nx := N, rt := Q, rl := fun ds => Q (.list ds) }
theorem log_i {i : Int} (h : i.natAbs ≤ 10 ^ 30 + 9) : i.natAbs.log2 < 1920 := by
  have lim : (10 : Nat) ^ 30 = 1000000000000000000000000000000 := by decide
  have lim2 : (2 : Nat) ^ 110 = 1298074214633706907132624082305024 := by decide
  by_cases z : i.natAbs = 0
  · rw [z]
    decide
  · exact Nat.lt_trans ((Nat.log2_lt (k := 110) z).mpr (by omega)) (by decide)
theorem tx_s : Tx 1 (Str.ofString "s") := ⟨by decide +kernel, by decide +kernel⟩
theorem tx_sp : Tx 1 (Str.ofString " ") := ⟨by decide +kernel, by decide +kernel⟩
theorem w_bool9 {b : Bool} : (PyData.bool b).weight ≤ 9999 := by
  rw [PyData.weight]
  omega
theorem w_none9 : PyData.none.weight ≤ 9999 := by
  rw [PyData.weight]
  omega
theorem int_of {m b s n : Nat} {i : Int} {Q : PyData → Prop} (hb : b ≤ 10 ^ 30 + 8) (hs : 40 ≤ s) (h : i.natAbs ≤ b) (q : ∀ d', okT (m + 1) (b + 1) (3 * s + 40) (n + 2) d' → d'.weight ≤ 9999 → Q d') : ∀ r : Int, 0 ≤ r → r < 7 → atQ (L2.atI [.int (i + 1), .int (i - 1), .int 0, .int (-i), .bool (decide (i = 1)), .str (Str.ofString (toString i)), .none] r) Q := fun r r0 r1 => by
  have lim : (10 : Nat) ^ 30 = 1000000000000000000000000000000 := by decide
  have lim1 : (10 : Nat) ^ 31 = 10000000000000000000000000000000 := by decide
  have c : r = 0 ∨ r = 1 ∨ r = 2 ∨ r = 3 ∨ r = 4 ∨ r = 5 ∨ r = 6 := by omega
  have tx : Tx 32 (Str.ofString (toString i)) := tx_int (k := 31) (by decide) (by omega)
  rcases c with rfl | rfl | rfl | rfl | rfl | rfl | rfl
  · exact q _ (ok_i (by omega)) (w_int (by omega))
  · exact q _ (ok_i (by omega)) (w_int (by omega))
  · exact q _ (ok_i (by omega)) (w_int (by omega))
  · exact q _ (ok_i (by omega)) (w_int (by omega))
  · exact q _ ok_bl w_bool9
  · exact q _ (ok_s (tx.mono (by omega))) (w_str tx (by omega))
  · exact q _ ok_non w_none9
theorem str_of {m b s n : Nat} {x : Str} {Q : PyData → Prop} (hm : 1 ≤ m) (hs : s ≤ 3000) (h : Tx s x) (q : ∀ d', okT (m + 1) (b + 1) (3 * s + 40) (n + 2) d' → d'.weight ≤ 9999 → Q d') : ∀ r : Int, 0 ≤ r → r < 6 → atQ (L2.atI [.str (x ++ Str.ofString "s"), .str (cutS x (some 1) none), .str (Txt.upper x), .str (x ++ Str.ofString " "), .tuple [.str x], .str (revS x)] r) Q := fun r r0 r1 => by
  have c : r = 0 ∨ r = 1 ∨ r = 2 ∨ r = 3 ∨ r = 4 ∨ r = 5 := by omega
  have go : ∀ {k : Nat} {y : Str}, Tx k y → k ≤ 3 * s + 40 → Q (.str y) := fun t l => q _ (ok_s (t.mono l)) (w_str t (by omega))
  rcases c with rfl | rfl | rfl | rfl | rfl | rfl
  · exact go (tx_cat h tx_s) (by omega)
  · exact go (tx_cut h _ _) (by omega)
  · exact go (tx_up h) (by omega)
  · exact go (tx_cat h tx_sp) (by omega)
  · refine q (.tuple [.str x]) ⟨by show 1 ≤ m + 1; omega, fun d hd => ?_⟩ ?_
    · rw [List.mem_singleton.mp hd]
      exact ok_s (h.mono (by omega))
    · have := w_str h (k := 4000) (by omega)
      simp only [PyData.weight, PyData.weightAll] at this ⊢
      omega
  · exact go (tx_rev h) (by omega)
theorem gix {T : Bool} {ds : List PyData} {i : Nat} (h : i < ds.length) {P : PyData → Prop} (p : P ds[i]) : gIx (mkD T ds) (.int (i : Nat)) P := by
  cases T with
  | true =>
    show atQ (L2.atI ds ((i : Nat) : Int)) P
    rw [L2.atI_nat (List.getElem?_eq_getElem h)]
    exact p
  | false =>
    show atQ (L2.atI ds ((i : Nat) : Int)) P
    rw [L2.atI_nat (List.getElem?_eq_getElem h)]
    exact p
section
variable {m b s n : Nat} {Q : PyData → Prop}
theorem of0_of {N : List Sl → Prop} {T : Bool} {ds es : List PyData} {s0 s2 s3 : Sl} (q : ∀ d', okT (m + 1) (b + 1) (3 * s + 40) (n + 3) d' → d'.weight ≤ 2 * PyData.weightAll ds + 10000 → Q d') (l : es.length ≤ m + 1) (hw : PyData.weightAll es ≤ 2 * PyData.weightAll ds + 10000) (h : ∀ y ∈ es, okT (m + 1) (b + 1) (3 * s + 40) (n + 2) y) : f__law_otherwise__0_0 [s0, .dt (mkD T ds), s2, s3, .own es] (enN N Q) := by
  unfold f__law_otherwise__0_0
  cases T with
  | true => exact q (.tuple es) ⟨l, h⟩ (by rw [PyData.weight]; exact hw)
  | false => exact q (.list es) ⟨l, h⟩ (by rw [PyData.weight]; exact hw)
theorem os0_of {N : List Sl → Prop} {T : Bool} {ds : List PyData} {way : Int} {at_ : Nat} (hm : 10 ≤ m) (mz : m ≤ 1000) (hb : 10 ^ 30 ≤ b) (bz : b ≤ 10 ^ 30 + 8) (hs : 40 ≤ s) (sz : s ≤ 3000) (ha : at_ < ds.length) (l : ds.length ≤ m) (h : ∀ y ∈ ds, okT m b s n y) (hk : n + 1 ≤ 0) (q : ∀ d', okT (m + 1) (b + 1) (3 * s + 40) (n + 3) d' → d'.weight ≤ 2 * PyData.weightAll ds + 10000 → Q d') :
    f__law_otherwise__0_1 [.box, .dt (mkD T ds), .dt (.int (at_ : Nat)), .dt (.int way), .own ds] (enN N Q) := by
  have up : ∀ y ∈ ds, okT (m + 1) (b + 1) (3 * s + 40) (n + 2) y := fun y hy => okT_up (by omega) (by omega) (by omega) (by omega) (h y hy)
  have gi := List.getElem?_eq_getElem ha
  unfold f__law_otherwise__0_1
  show if decide (way < 6) = true then _ else _
  by_cases c1 : way < 6
  · rw [if_pos (decide_eq_true c1)]
    omega
  rw [if_neg (by rw [decide_eq_true_eq]; exact c1)]
  show if decide (way = 6) = true then _ else _
  by_cases c2 : way = 6
  · rw [if_pos (decide_eq_true c2)]
    refine ⟨at_, rfl, ha, by omega, ?_⟩
    exact of0_of q (by have := List.length_eraseIdx_le ds at_; omega) (by have := w_erase ds at_; omega) fun y hy => up y (List.mem_of_mem_eraseIdx hy)
  rw [if_neg (by rw [decide_eq_true_eq]; exact c2)]
  show if decide (way = 7) = true then _ else _
  by_cases c3 : way = 7
  · rw [if_pos (decide_eq_true c3)]
    refine (show gIx (mkD T ds) (.int (at_ : Nat)) _ from gix ha ?_)
    refine ⟨at_, rfl, by omega, by omega, ?_⟩
    refine of0_of q (by simp only [List.length_append, List.length_take, List.length_drop, List.length_cons, List.length_nil]; omega) (by rw [w_app, w_app, PyData.weightAll, PyData.weightAll]; have w1 := w_cut ds at_; have w2 := w_mem ds at_ ds[at_] gi; omega) fun y hy => ?_
    rcases List.mem_append.mp hy with z | z
    · rcases List.mem_append.mp z with z | z
      · exact up y (List.mem_of_mem_take z)
      · rw [List.mem_singleton.mp z]
        exact up _ (List.getElem_mem ha)
    · exact up y (List.mem_of_mem_drop z)
  rw [if_neg (by rw [decide_eq_true_eq]; exact c3)]
  show if decide (way = 8) = true then _ else _
  by_cases c4 : way = 8
  · rw [if_pos (decide_eq_true c4)]
    exact of0_of q (by rw [List.length_reverse]; omega) (by rw [w_rev]; omega) fun y hy => up y (List.mem_reverse.mp hy)
  rw [if_neg (by rw [decide_eq_true_eq]; exact c4)]
  cases T with
  | true => exact q (.list ds) ⟨by omega, up⟩ (by rw [PyData.weight]; omega)
  | false => exact q (.tuple ds) ⟨by omega, up⟩ (by rw [PyData.weight]; omega)
theorem bent0_of : Bent F__law_otherwise__0 0 := fun {m b s n d Q} hm mz hb bz hs sz ok hk q => by
  have lim : (10 : Nat) ^ 30 = 1000000000000000000000000000000 := by decide
  have end2 : f__law_otherwise__0_2 [.box, .dt d, .no, .no, .no] (en Q) := by
    unfold f__law_otherwise__0_2
    exact odd_of fun d' hd' => q d' (okT_up (by omega) (by omega) (by omega) (by omega) (odd_ok d' hd')) (by have := odd_w d' hd'; omega)
  have end3 : f__law_otherwise__0_3 [.box, .dt d, .no, .no, .no] (en Q) := by
    unfold f__law_otherwise__0_3
    cases d with
    | str x =>
      have hx := ok_str ok
      have hl : x.length ≤ 3000 := Nat.le_trans hx.len sz
      show if isD .str (.str x) = true then _ else _
      rw [if_pos (by rfl)]
      refine take_of (n := 4) (by decide) (by decide) fun r r0 r1 => ?_
      show if decide (0 < r) = true then _ else _
      by_cases c : 0 < r
      · rw [if_pos (decide_eq_true c)]
        refine (show x.length + (Str.ofString "s").length ≤ 1000000 ∧ _ from ⟨by have : (Str.ofString "s").length ≤ 1 := tx_s.len; omega, ?_⟩)
        refine (show x.length ≤ 1000000 ∧ _ from ⟨by omega, ?_⟩)
        refine (show x.length ≤ 1000000 ∧ _ from ⟨by omega, ?_⟩)
        refine (show x.length + (Str.ofString " ").length ≤ 1000000 ∧ _ from ⟨by have : (Str.ofString " ").length ≤ 1 := tx_sp.len; omega, ?_⟩)
        refine (show x.length ≤ 1000000 ∧ _ from ⟨by omega, ?_⟩)
        refine take_of (n := 6) (by decide) (by decide) fun r r0 r1 => ?_
        exact str_of (by omega) sz hx (fun d' o w => q d' o (by omega)) r r0 r1
      · rw [if_neg (by rw [decide_eq_true_eq]; exact c)]
        exact end2
    | none => exact end2
    | bool _ => exact end2
    | int _ => exact end2
    | list _ => exact end2
    | tuple _ => exact end2
    | dict _ => exact end2
  have end4 : f__law_otherwise__0_4 [.box, .dt d, .no, .no, .no] (en Q) := by
    unfold f__law_otherwise__0_4
    cases d with
    | int i =>
      have hi := ok_int ok
      show if isD .int (.int i) = true then (if (!isD .bool (.int i)) = true then _ else _) else _
      rw [if_pos (by rfl), if_pos (by rfl)]
      refine take_of (n := 4) (by decide) (by decide) fun r r0 r1 => ?_
      show if decide (0 < r) = true then _ else _
      by_cases c : 0 < r
      · rw [if_pos (decide_eq_true c)]
        refine (show i.natAbs.log2 < 1920 ∧ _ from ⟨log_i (by omega), ?_⟩)
        refine take_of (n := 7) (by decide) (by decide) fun r r0 r1 => ?_
        exact int_of bz hs hi (fun d' o w => q d' o (by omega)) r r0 r1
      · rw [if_neg (by rw [decide_eq_true_eq]; exact c)]
        exact end3
    | none => exact end3
    | bool _ => exact end3
    | str _ => exact end3
    | list _ => exact end3
    | tuple _ => exact end3
    | dict _ => exact end3
  unfold F__law_otherwise__0
  refine ⟨rfl, ?_⟩
  cases d with
  | none => exact end4
  | bool _ => exact end4
  | int _ => exact end4
  | str _ => exact end4
  | dict _ => exact end4
  | list ds =>
    show if decide ((0 : Int) < ((ds.length : Nat) : Int)) = true then F_take [.box, .dt (.int 6)] _ else _
    split
    · rename_i c
      refine take_of (n := 6) (by decide) (by decide) fun r r0 r1 => ?_
      show if decide (0 < r) = true then _ else _
      split
      · have c := of_decide_eq_true c
        obtain ⟨n', rfl, l, h⟩ := ok_seq (T := false) ok
        refine take_of (n := ((ds.length : Nat) : Int)) (by omega) (by omega) fun a a0 a1 => ?_
        obtain ⟨a, rfl⟩ : ∃ j : Nat, a = (j : Nat) := ⟨a.toNat, by omega⟩
        refine take_of (n := 10) (by decide) (by decide) fun way w0 w1 => ?_
        exact os0_of (T := false) hm mz hb bz hs sz (by omega) l h (by omega) fun d' o w => q d' o (by first | exact (by rw [PyData.weight]; exact w))
      · exact end4
    · exact end4
  | tuple ds =>
    show if decide ((0 : Int) < ((ds.length : Nat) : Int)) = true then F_take [.box, .dt (.int 6)] _ else _
    split
    · rename_i c
      refine take_of (n := 6) (by decide) (by decide) fun r r0 r1 => ?_
      show if decide (0 < r) = true then _ else _
      split
      · have c := of_decide_eq_true c
        obtain ⟨n', rfl, l, h⟩ := ok_seq (T := true) ok
        refine take_of (n := ((ds.length : Nat) : Int)) (by omega) (by omega) fun a a0 a1 => ?_
        obtain ⟨a, rfl⟩ : ∃ j : Nat, a = (j : Nat) := ⟨a.toNat, by omega⟩
        refine take_of (n := 10) (by decide) (by decide) fun way w0 w1 => ?_
        exact os0_of (T := true) hm mz hb bz hs sz (by omega) l h (by omega) fun d' o w => q d' o (by first | exact (by rw [PyData.weight]; exact w))
      · exact end4
    · exact end4
end
section
variable {m b s n : Nat} {Q : PyData → Prop}
theorem of1_of {N : List Sl → Prop} {T : Bool} {ds es : List PyData} {s0 s2 s3 : Sl} (q : ∀ d', okT (m + 1) (b + 1) (3 * s + 40) (n + 3) d' → d'.weight ≤ 2 * PyData.weightAll ds + 10000 → Q d') (l : es.length ≤ m + 1) (hw : PyData.weightAll es ≤ 2 * PyData.weightAll ds + 10000) (h : ∀ y ∈ es, okT (m + 1) (b + 1) (3 * s + 40) (n + 2) y) : f__law_otherwise__1_0 [s0, .dt (mkD T ds), s2, s3, .own es] (enN N Q) := by
  unfold f__law_otherwise__1_0
  cases T with
  | true => exact q (.tuple es) ⟨l, h⟩ (by rw [PyData.weight]; exact hw)
  | false => exact q (.list es) ⟨l, h⟩ (by rw [PyData.weight]; exact hw)
theorem os1_of {N : List Sl → Prop} {T : Bool} {ds : List PyData} {way : Int} {at_ : Nat} (hm : 10 ≤ m) (mz : m ≤ 1000) (hb : 10 ^ 30 ≤ b) (bz : b ≤ 10 ^ 30 + 8) (hs : 40 ≤ s) (sz : s ≤ 3000) (ha : at_ < ds.length) (l : ds.length ≤ m) (h : ∀ y ∈ ds, okT m b s n y) (hk : n + 1 ≤ 1) (q : ∀ d', okT (m + 1) (b + 1) (3 * s + 40) (n + 3) d' → d'.weight ≤ 2 * PyData.weightAll ds + 10000 → Q d') :
    f__law_otherwise__1_1 [.box, .dt (mkD T ds), .dt (.int (at_ : Nat)), .dt (.int way), .own ds] (enN N Q) := by
  have up : ∀ y ∈ ds, okT (m + 1) (b + 1) (3 * s + 40) (n + 2) y := fun y hy => okT_up (by omega) (by omega) (by omega) (by omega) (h y hy)
  have gi := List.getElem?_eq_getElem ha
  unfold f__law_otherwise__1_1
  show if decide (way < 6) = true then _ else _
  by_cases c1 : way < 6
  · rw [if_pos (decide_eq_true c1)]
    refine (show gIx (mkD T ds) (.int (at_ : Nat)) _ from gix ha ?_)
    refine bent0_of hm mz hb bz hs sz (h _ (List.getElem_mem ha)) (by omega) fun d' ok' wt => ?_
    refine ⟨at_, Evl.ixN_nat ha, ?_⟩
    refine of1_of q (by rw [List.length_set]; omega) (by have w1 := w_set ds at_ ds[at_] d' gi; have w2 := w_mem ds at_ ds[at_] gi; omega) fun y hy => ?_
    rcases List.mem_or_eq_of_mem_set hy with z | z
    · exact up y z
    · rw [z]
      exact ok'
  rw [if_neg (by rw [decide_eq_true_eq]; exact c1)]
  show if decide (way = 6) = true then _ else _
  by_cases c2 : way = 6
  · rw [if_pos (decide_eq_true c2)]
    refine ⟨at_, rfl, ha, by omega, ?_⟩
    exact of1_of q (by have := List.length_eraseIdx_le ds at_; omega) (by have := w_erase ds at_; omega) fun y hy => up y (List.mem_of_mem_eraseIdx hy)
  rw [if_neg (by rw [decide_eq_true_eq]; exact c2)]
  show if decide (way = 7) = true then _ else _
  by_cases c3 : way = 7
  · rw [if_pos (decide_eq_true c3)]
    refine (show gIx (mkD T ds) (.int (at_ : Nat)) _ from gix ha ?_)
    refine ⟨at_, rfl, by omega, by omega, ?_⟩
    refine of1_of q (by simp only [List.length_append, List.length_take, List.length_drop, List.length_cons, List.length_nil]; omega) (by rw [w_app, w_app, PyData.weightAll, PyData.weightAll]; have w1 := w_cut ds at_; have w2 := w_mem ds at_ ds[at_] gi; omega) fun y hy => ?_
    rcases List.mem_append.mp hy with z | z
    · rcases List.mem_append.mp z with z | z
      · exact up y (List.mem_of_mem_take z)
      · rw [List.mem_singleton.mp z]
        exact up _ (List.getElem_mem ha)
    · exact up y (List.mem_of_mem_drop z)
  rw [if_neg (by rw [decide_eq_true_eq]; exact c3)]
  show if decide (way = 8) = true then _ else _
  by_cases c4 : way = 8
  · rw [if_pos (decide_eq_true c4)]
    exact of1_of q (by rw [List.length_reverse]; omega) (by rw [w_rev]; omega) fun y hy => up y (List.mem_reverse.mp hy)
  rw [if_neg (by rw [decide_eq_true_eq]; exact c4)]
  cases T with
  | true => exact q (.list ds) ⟨by omega, up⟩ (by rw [PyData.weight]; omega)
  | false => exact q (.tuple ds) ⟨by omega, up⟩ (by rw [PyData.weight]; omega)
theorem bent1_of : Bent F__law_otherwise__1 1 := fun {m b s n d Q} hm mz hb bz hs sz ok hk q => by
  have lim : (10 : Nat) ^ 30 = 1000000000000000000000000000000 := by decide
  have end2 : f__law_otherwise__1_2 [.box, .dt d, .no, .no, .no] (en Q) := by
    unfold f__law_otherwise__1_2
    exact odd_of fun d' hd' => q d' (okT_up (by omega) (by omega) (by omega) (by omega) (odd_ok d' hd')) (by have := odd_w d' hd'; omega)
  have end3 : f__law_otherwise__1_3 [.box, .dt d, .no, .no, .no] (en Q) := by
    unfold f__law_otherwise__1_3
    cases d with
    | str x =>
      have hx := ok_str ok
      have hl : x.length ≤ 3000 := Nat.le_trans hx.len sz
      show if isD .str (.str x) = true then _ else _
      rw [if_pos (by rfl)]
      refine take_of (n := 4) (by decide) (by decide) fun r r0 r1 => ?_
      show if decide (0 < r) = true then _ else _
      by_cases c : 0 < r
      · rw [if_pos (decide_eq_true c)]
        refine (show x.length + (Str.ofString "s").length ≤ 1000000 ∧ _ from ⟨by have : (Str.ofString "s").length ≤ 1 := tx_s.len; omega, ?_⟩)
        refine (show x.length ≤ 1000000 ∧ _ from ⟨by omega, ?_⟩)
        refine (show x.length ≤ 1000000 ∧ _ from ⟨by omega, ?_⟩)
        refine (show x.length + (Str.ofString " ").length ≤ 1000000 ∧ _ from ⟨by have : (Str.ofString " ").length ≤ 1 := tx_sp.len; omega, ?_⟩)
        refine (show x.length ≤ 1000000 ∧ _ from ⟨by omega, ?_⟩)
        refine take_of (n := 6) (by decide) (by decide) fun r r0 r1 => ?_
        exact str_of (by omega) sz hx (fun d' o w => q d' o (by omega)) r r0 r1
      · rw [if_neg (by rw [decide_eq_true_eq]; exact c)]
        exact end2
    | none => exact end2
    | bool _ => exact end2
    | int _ => exact end2
    | list _ => exact end2
    | tuple _ => exact end2
    | dict _ => exact end2
  have end4 : f__law_otherwise__1_4 [.box, .dt d, .no, .no, .no] (en Q) := by
    unfold f__law_otherwise__1_4
    cases d with
    | int i =>
      have hi := ok_int ok
      show if isD .int (.int i) = true then (if (!isD .bool (.int i)) = true then _ else _) else _
      rw [if_pos (by rfl), if_pos (by rfl)]
      refine take_of (n := 4) (by decide) (by decide) fun r r0 r1 => ?_
      show if decide (0 < r) = true then _ else _
      by_cases c : 0 < r
      · rw [if_pos (decide_eq_true c)]
        refine (show i.natAbs.log2 < 1920 ∧ _ from ⟨log_i (by omega), ?_⟩)
        refine take_of (n := 7) (by decide) (by decide) fun r r0 r1 => ?_
        exact int_of bz hs hi (fun d' o w => q d' o (by omega)) r r0 r1
      · rw [if_neg (by rw [decide_eq_true_eq]; exact c)]
        exact end3
    | none => exact end3
    | bool _ => exact end3
    | str _ => exact end3
    | list _ => exact end3
    | tuple _ => exact end3
    | dict _ => exact end3
  unfold F__law_otherwise__1
  refine ⟨rfl, ?_⟩
  cases d with
  | none => exact end4
  | bool _ => exact end4
  | int _ => exact end4
  | str _ => exact end4
  | dict _ => exact end4
  | list ds =>
    show if decide ((0 : Int) < ((ds.length : Nat) : Int)) = true then F_take [.box, .dt (.int 6)] _ else _
    split
    · rename_i c
      refine take_of (n := 6) (by decide) (by decide) fun r r0 r1 => ?_
      show if decide (0 < r) = true then _ else _
      split
      · have c := of_decide_eq_true c
        obtain ⟨n', rfl, l, h⟩ := ok_seq (T := false) ok
        refine take_of (n := ((ds.length : Nat) : Int)) (by omega) (by omega) fun a a0 a1 => ?_
        obtain ⟨a, rfl⟩ : ∃ j : Nat, a = (j : Nat) := ⟨a.toNat, by omega⟩
        refine take_of (n := 10) (by decide) (by decide) fun way w0 w1 => ?_
        exact os1_of (T := false) hm mz hb bz hs sz (by omega) l h (by omega) fun d' o w => q d' o (by first | exact (by rw [PyData.weight]; exact w))
      · exact end4
    · exact end4
  | tuple ds =>
    show if decide ((0 : Int) < ((ds.length : Nat) : Int)) = true then F_take [.box, .dt (.int 6)] _ else _
    split
    · rename_i c
      refine take_of (n := 6) (by decide) (by decide) fun r r0 r1 => ?_
      show if decide (0 < r) = true then _ else _
      split
      · have c := of_decide_eq_true c
        obtain ⟨n', rfl, l, h⟩ := ok_seq (T := true) ok
        refine take_of (n := ((ds.length : Nat) : Int)) (by omega) (by omega) fun a a0 a1 => ?_
        obtain ⟨a, rfl⟩ : ∃ j : Nat, a = (j : Nat) := ⟨a.toNat, by omega⟩
        refine take_of (n := 10) (by decide) (by decide) fun way w0 w1 => ?_
        exact os1_of (T := true) hm mz hb bz hs sz (by omega) l h (by omega) fun d' o w => q d' o (by first | exact (by rw [PyData.weight]; exact w))
      · exact end4
    · exact end4
end
section
variable {m b s n : Nat} {Q : PyData → Prop}
theorem of2_of {N : List Sl → Prop} {T : Bool} {ds es : List PyData} {s0 s2 s3 : Sl} (q : ∀ d', okT (m + 1) (b + 1) (3 * s + 40) (n + 3) d' → d'.weight ≤ 2 * PyData.weightAll ds + 10000 → Q d') (l : es.length ≤ m + 1) (hw : PyData.weightAll es ≤ 2 * PyData.weightAll ds + 10000) (h : ∀ y ∈ es, okT (m + 1) (b + 1) (3 * s + 40) (n + 2) y) : f__law_otherwise__2_0 [s0, .dt (mkD T ds), s2, s3, .own es] (enN N Q) := by
  unfold f__law_otherwise__2_0
  cases T with
  | true => exact q (.tuple es) ⟨l, h⟩ (by rw [PyData.weight]; exact hw)
  | false => exact q (.list es) ⟨l, h⟩ (by rw [PyData.weight]; exact hw)
theorem os2_of {N : List Sl → Prop} {T : Bool} {ds : List PyData} {way : Int} {at_ : Nat} (hm : 10 ≤ m) (mz : m ≤ 1000) (hb : 10 ^ 30 ≤ b) (bz : b ≤ 10 ^ 30 + 8) (hs : 40 ≤ s) (sz : s ≤ 3000) (ha : at_ < ds.length) (l : ds.length ≤ m) (h : ∀ y ∈ ds, okT m b s n y) (hk : n + 1 ≤ 2) (q : ∀ d', okT (m + 1) (b + 1) (3 * s + 40) (n + 3) d' → d'.weight ≤ 2 * PyData.weightAll ds + 10000 → Q d') :
    f__law_otherwise__2_1 [.box, .dt (mkD T ds), .dt (.int (at_ : Nat)), .dt (.int way), .own ds] (enN N Q) := by
  have up : ∀ y ∈ ds, okT (m + 1) (b + 1) (3 * s + 40) (n + 2) y := fun y hy => okT_up (by omega) (by omega) (by omega) (by omega) (h y hy)
  have gi := List.getElem?_eq_getElem ha
  unfold f__law_otherwise__2_1
  show if decide (way < 6) = true then _ else _
  by_cases c1 : way < 6
  · rw [if_pos (decide_eq_true c1)]
    refine (show gIx (mkD T ds) (.int (at_ : Nat)) _ from gix ha ?_)
    refine bent1_of hm mz hb bz hs sz (h _ (List.getElem_mem ha)) (by omega) fun d' ok' wt => ?_
    refine ⟨at_, Evl.ixN_nat ha, ?_⟩
    refine of2_of q (by rw [List.length_set]; omega) (by have w1 := w_set ds at_ ds[at_] d' gi; have w2 := w_mem ds at_ ds[at_] gi; omega) fun y hy => ?_
    rcases List.mem_or_eq_of_mem_set hy with z | z
    · exact up y z
    · rw [z]
      exact ok'
  rw [if_neg (by rw [decide_eq_true_eq]; exact c1)]
  show if decide (way = 6) = true then _ else _
  by_cases c2 : way = 6
  · rw [if_pos (decide_eq_true c2)]
    refine ⟨at_, rfl, ha, by omega, ?_⟩
    exact of2_of q (by have := List.length_eraseIdx_le ds at_; omega) (by have := w_erase ds at_; omega) fun y hy => up y (List.mem_of_mem_eraseIdx hy)
  rw [if_neg (by rw [decide_eq_true_eq]; exact c2)]
  show if decide (way = 7) = true then _ else _
  by_cases c3 : way = 7
  · rw [if_pos (decide_eq_true c3)]
    refine (show gIx (mkD T ds) (.int (at_ : Nat)) _ from gix ha ?_)
    refine ⟨at_, rfl, by omega, by omega, ?_⟩
    refine of2_of q (by simp only [List.length_append, List.length_take, List.length_drop, List.length_cons, List.length_nil]; omega) (by rw [w_app, w_app, PyData.weightAll, PyData.weightAll]; have w1 := w_cut ds at_; have w2 := w_mem ds at_ ds[at_] gi; omega) fun y hy => ?_
    rcases List.mem_append.mp hy with z | z
    · rcases List.mem_append.mp z with z | z
      · exact up y (List.mem_of_mem_take z)
      · rw [List.mem_singleton.mp z]
        exact up _ (List.getElem_mem ha)
    · exact up y (List.mem_of_mem_drop z)
  rw [if_neg (by rw [decide_eq_true_eq]; exact c3)]
  show if decide (way = 8) = true then _ else _
  by_cases c4 : way = 8
  · rw [if_pos (decide_eq_true c4)]
    exact of2_of q (by rw [List.length_reverse]; omega) (by rw [w_rev]; omega) fun y hy => up y (List.mem_reverse.mp hy)
  rw [if_neg (by rw [decide_eq_true_eq]; exact c4)]
  cases T with
  | true => exact q (.list ds) ⟨by omega, up⟩ (by rw [PyData.weight]; omega)
  | false => exact q (.tuple ds) ⟨by omega, up⟩ (by rw [PyData.weight]; omega)
theorem bent2_of : Bent F__law_otherwise__2 2 := fun {m b s n d Q} hm mz hb bz hs sz ok hk q => by
  have lim : (10 : Nat) ^ 30 = 1000000000000000000000000000000 := by decide
  have end2 : f__law_otherwise__2_2 [.box, .dt d, .no, .no, .no] (en Q) := by
    unfold f__law_otherwise__2_2
    exact odd_of fun d' hd' => q d' (okT_up (by omega) (by omega) (by omega) (by omega) (odd_ok d' hd')) (by have := odd_w d' hd'; omega)
  have end3 : f__law_otherwise__2_3 [.box, .dt d, .no, .no, .no] (en Q) := by
    unfold f__law_otherwise__2_3
    cases d with
    | str x =>
      have hx := ok_str ok
      have hl : x.length ≤ 3000 := Nat.le_trans hx.len sz
      show if isD .str (.str x) = true then _ else _
      rw [if_pos (by rfl)]
      refine take_of (n := 4) (by decide) (by decide) fun r r0 r1 => ?_
      show if decide (0 < r) = true then _ else _
      by_cases c : 0 < r
      · rw [if_pos (decide_eq_true c)]
        refine (show x.length + (Str.ofString "s").length ≤ 1000000 ∧ _ from ⟨by have : (Str.ofString "s").length ≤ 1 := tx_s.len; omega, ?_⟩)
        refine (show x.length ≤ 1000000 ∧ _ from ⟨by omega, ?_⟩)
        refine (show x.length ≤ 1000000 ∧ _ from ⟨by omega, ?_⟩)
        refine (show x.length + (Str.ofString " ").length ≤ 1000000 ∧ _ from ⟨by have : (Str.ofString " ").length ≤ 1 := tx_sp.len; omega, ?_⟩)
        refine (show x.length ≤ 1000000 ∧ _ from ⟨by omega, ?_⟩)
        refine take_of (n := 6) (by decide) (by decide) fun r r0 r1 => ?_
        exact str_of (by omega) sz hx (fun d' o w => q d' o (by omega)) r r0 r1
      · rw [if_neg (by rw [decide_eq_true_eq]; exact c)]
        exact end2
    | none => exact end2
    | bool _ => exact end2
    | int _ => exact end2
    | list _ => exact end2
    | tuple _ => exact end2
    | dict _ => exact end2
  have end4 : f__law_otherwise__2_4 [.box, .dt d, .no, .no, .no] (en Q) := by
    unfold f__law_otherwise__2_4
    cases d with
    | int i =>
      have hi := ok_int ok
      show if isD .int (.int i) = true then (if (!isD .bool (.int i)) = true then _ else _) else _
      rw [if_pos (by rfl), if_pos (by rfl)]
      refine take_of (n := 4) (by decide) (by decide) fun r r0 r1 => ?_
      show if decide (0 < r) = true then _ else _
      by_cases c : 0 < r
      · rw [if_pos (decide_eq_true c)]
        refine (show i.natAbs.log2 < 1920 ∧ _ from ⟨log_i (by omega), ?_⟩)
        refine take_of (n := 7) (by decide) (by decide) fun r r0 r1 => ?_
        exact int_of bz hs hi (fun d' o w => q d' o (by omega)) r r0 r1
      · rw [if_neg (by rw [decide_eq_true_eq]; exact c)]
        exact end3
    | none => exact end3
    | bool _ => exact end3
    | str _ => exact end3
    | list _ => exact end3
    | tuple _ => exact end3
    | dict _ => exact end3
  unfold F__law_otherwise__2
  refine ⟨rfl, ?_⟩
  cases d with
  | none => exact end4
  | bool _ => exact end4
  | int _ => exact end4
  | str _ => exact end4
  | dict _ => exact end4
  | list ds =>
    show if decide ((0 : Int) < ((ds.length : Nat) : Int)) = true then F_take [.box, .dt (.int 6)] _ else _
    split
    · rename_i c
      refine take_of (n := 6) (by decide) (by decide) fun r r0 r1 => ?_
      show if decide (0 < r) = true then _ else _
      split
      · have c := of_decide_eq_true c
        obtain ⟨n', rfl, l, h⟩ := ok_seq (T := false) ok
        refine take_of (n := ((ds.length : Nat) : Int)) (by omega) (by omega) fun a a0 a1 => ?_
        obtain ⟨a, rfl⟩ : ∃ j : Nat, a = (j : Nat) := ⟨a.toNat, by omega⟩
        refine take_of (n := 10) (by decide) (by decide) fun way w0 w1 => ?_
        exact os2_of (T := false) hm mz hb bz hs sz (by omega) l h (by omega) fun d' o w => q d' o (by first | exact (by rw [PyData.weight]; exact w))
      · exact end4
    · exact end4
  | tuple ds =>
    show if decide ((0 : Int) < ((ds.length : Nat) : Int)) = true then F_take [.box, .dt (.int 6)] _ else _
    split
    · rename_i c
      refine take_of (n := 6) (by decide) (by decide) fun r r0 r1 => ?_
      show if decide (0 < r) = true then _ else _
      split
      · have c := of_decide_eq_true c
        obtain ⟨n', rfl, l, h⟩ := ok_seq (T := true) ok
        refine take_of (n := ((ds.length : Nat) : Int)) (by omega) (by omega) fun a a0 a1 => ?_
        obtain ⟨a, rfl⟩ : ∃ j : Nat, a = (j : Nat) := ⟨a.toNat, by omega⟩
        refine take_of (n := 10) (by decide) (by decide) fun way w0 w1 => ?_
        exact os2_of (T := true) hm mz hb bz hs sz (by omega) l h (by omega) fun d' o w => q d' o (by first | exact (by rw [PyData.weight]; exact w))
      · exact end4
    · exact end4
end
section
variable {m b s n : Nat} {Q : PyData → Prop}
theorem of3_of {N : List Sl → Prop} {T : Bool} {ds es : List PyData} {s0 s2 s3 : Sl} (q : ∀ d', okT (m + 1) (b + 1) (3 * s + 40) (n + 3) d' → d'.weight ≤ 2 * PyData.weightAll ds + 10000 → Q d') (l : es.length ≤ m + 1) (hw : PyData.weightAll es ≤ 2 * PyData.weightAll ds + 10000) (h : ∀ y ∈ es, okT (m + 1) (b + 1) (3 * s + 40) (n + 2) y) : f__law_otherwise__3_0 [s0, .dt (mkD T ds), s2, s3, .own es] (enN N Q) := by
  unfold f__law_otherwise__3_0
  cases T with
  | true => exact q (.tuple es) ⟨l, h⟩ (by rw [PyData.weight]; exact hw)
  | false => exact q (.list es) ⟨l, h⟩ (by rw [PyData.weight]; exact hw)
theorem os3_of {N : List Sl → Prop} {T : Bool} {ds : List PyData} {way : Int} {at_ : Nat} (hm : 10 ≤ m) (mz : m ≤ 1000) (hb : 10 ^ 30 ≤ b) (bz : b ≤ 10 ^ 30 + 8) (hs : 40 ≤ s) (sz : s ≤ 3000) (ha : at_ < ds.length) (l : ds.length ≤ m) (h : ∀ y ∈ ds, okT m b s n y) (hk : n + 1 ≤ 3) (q : ∀ d', okT (m + 1) (b + 1) (3 * s + 40) (n + 3) d' → d'.weight ≤ 2 * PyData.weightAll ds + 10000 → Q d') :
    f__law_otherwise__3_1 [.box, .dt (mkD T ds), .dt (.int (at_ : Nat)), .dt (.int way), .own ds] (enN N Q) := by
  have up : ∀ y ∈ ds, okT (m + 1) (b + 1) (3 * s + 40) (n + 2) y := fun y hy => okT_up (by omega) (by omega) (by omega) (by omega) (h y hy)
  have gi := List.getElem?_eq_getElem ha
  unfold f__law_otherwise__3_1
  show if decide (way < 6) = true then _ else _
  by_cases c1 : way < 6
  · rw [if_pos (decide_eq_true c1)]
    refine (show gIx (mkD T ds) (.int (at_ : Nat)) _ from gix ha ?_)
    refine bent2_of hm mz hb bz hs sz (h _ (List.getElem_mem ha)) (by omega) fun d' ok' wt => ?_
    refine ⟨at_, Evl.ixN_nat ha, ?_⟩
    refine of3_of q (by rw [List.length_set]; omega) (by have w1 := w_set ds at_ ds[at_] d' gi; have w2 := w_mem ds at_ ds[at_] gi; omega) fun y hy => ?_
    rcases List.mem_or_eq_of_mem_set hy with z | z
    · exact up y z
    · rw [z]
      exact ok'
  rw [if_neg (by rw [decide_eq_true_eq]; exact c1)]
  show if decide (way = 6) = true then _ else _
  by_cases c2 : way = 6
  · rw [if_pos (decide_eq_true c2)]
    refine ⟨at_, rfl, ha, by omega, ?_⟩
    exact of3_of q (by have := List.length_eraseIdx_le ds at_; omega) (by have := w_erase ds at_; omega) fun y hy => up y (List.mem_of_mem_eraseIdx hy)
  rw [if_neg (by rw [decide_eq_true_eq]; exact c2)]
  show if decide (way = 7) = true then _ else _
  by_cases c3 : way = 7
  · rw [if_pos (decide_eq_true c3)]
    refine (show gIx (mkD T ds) (.int (at_ : Nat)) _ from gix ha ?_)
    refine ⟨at_, rfl, by omega, by omega, ?_⟩
    refine of3_of q (by simp only [List.length_append, List.length_take, List.length_drop, List.length_cons, List.length_nil]; omega) (by rw [w_app, w_app, PyData.weightAll, PyData.weightAll]; have w1 := w_cut ds at_; have w2 := w_mem ds at_ ds[at_] gi; omega) fun y hy => ?_
    rcases List.mem_append.mp hy with z | z
    · rcases List.mem_append.mp z with z | z
      · exact up y (List.mem_of_mem_take z)
      · rw [List.mem_singleton.mp z]
        exact up _ (List.getElem_mem ha)
    · exact up y (List.mem_of_mem_drop z)
  rw [if_neg (by rw [decide_eq_true_eq]; exact c3)]
  show if decide (way = 8) = true then _ else _
  by_cases c4 : way = 8
  · rw [if_pos (decide_eq_true c4)]
    exact of3_of q (by rw [List.length_reverse]; omega) (by rw [w_rev]; omega) fun y hy => up y (List.mem_reverse.mp hy)
  rw [if_neg (by rw [decide_eq_true_eq]; exact c4)]
  cases T with
  | true => exact q (.list ds) ⟨by omega, up⟩ (by rw [PyData.weight]; omega)
  | false => exact q (.tuple ds) ⟨by omega, up⟩ (by rw [PyData.weight]; omega)
theorem bent3_of : Bent F__law_otherwise__3 3 := fun {m b s n d Q} hm mz hb bz hs sz ok hk q => by
  have lim : (10 : Nat) ^ 30 = 1000000000000000000000000000000 := by decide
  have end2 : f__law_otherwise__3_2 [.box, .dt d, .no, .no, .no] (en Q) := by
    unfold f__law_otherwise__3_2
    exact odd_of fun d' hd' => q d' (okT_up (by omega) (by omega) (by omega) (by omega) (odd_ok d' hd')) (by have := odd_w d' hd'; omega)
  have end3 : f__law_otherwise__3_3 [.box, .dt d, .no, .no, .no] (en Q) := by
    unfold f__law_otherwise__3_3
    cases d with
    | str x =>
      have hx := ok_str ok
      have hl : x.length ≤ 3000 := Nat.le_trans hx.len sz
      show if isD .str (.str x) = true then _ else _
      rw [if_pos (by rfl)]
      refine take_of (n := 4) (by decide) (by decide) fun r r0 r1 => ?_
      show if decide (0 < r) = true then _ else _
      by_cases c : 0 < r
      · rw [if_pos (decide_eq_true c)]
        refine (show x.length + (Str.ofString "s").length ≤ 1000000 ∧ _ from ⟨by have : (Str.ofString "s").length ≤ 1 := tx_s.len; omega, ?_⟩)
        refine (show x.length ≤ 1000000 ∧ _ from ⟨by omega, ?_⟩)
        refine (show x.length ≤ 1000000 ∧ _ from ⟨by omega, ?_⟩)
        refine (show x.length + (Str.ofString " ").length ≤ 1000000 ∧ _ from ⟨by have : (Str.ofString " ").length ≤ 1 := tx_sp.len; omega, ?_⟩)
        refine (show x.length ≤ 1000000 ∧ _ from ⟨by omega, ?_⟩)
        refine take_of (n := 6) (by decide) (by decide) fun r r0 r1 => ?_
        exact str_of (by omega) sz hx (fun d' o w => q d' o (by omega)) r r0 r1
      · rw [if_neg (by rw [decide_eq_true_eq]; exact c)]
        exact end2
    | none => exact end2
    | bool _ => exact end2
    | int _ => exact end2
    | list _ => exact end2
    | tuple _ => exact end2
    | dict _ => exact end2
  have end4 : f__law_otherwise__3_4 [.box, .dt d, .no, .no, .no] (en Q) := by
    unfold f__law_otherwise__3_4
    cases d with
    | int i =>
      have hi := ok_int ok
      show if isD .int (.int i) = true then (if (!isD .bool (.int i)) = true then _ else _) else _
      rw [if_pos (by rfl), if_pos (by rfl)]
      refine take_of (n := 4) (by decide) (by decide) fun r r0 r1 => ?_
      show if decide (0 < r) = true then _ else _
      by_cases c : 0 < r
      · rw [if_pos (decide_eq_true c)]
        refine (show i.natAbs.log2 < 1920 ∧ _ from ⟨log_i (by omega), ?_⟩)
        refine take_of (n := 7) (by decide) (by decide) fun r r0 r1 => ?_
        exact int_of bz hs hi (fun d' o w => q d' o (by omega)) r r0 r1
      · rw [if_neg (by rw [decide_eq_true_eq]; exact c)]
        exact end3
    | none => exact end3
    | bool _ => exact end3
    | str _ => exact end3
    | list _ => exact end3
    | tuple _ => exact end3
    | dict _ => exact end3
  unfold F__law_otherwise__3
  refine ⟨rfl, ?_⟩
  cases d with
  | none => exact end4
  | bool _ => exact end4
  | int _ => exact end4
  | str _ => exact end4
  | dict _ => exact end4
  | list ds =>
    show if decide ((0 : Int) < ((ds.length : Nat) : Int)) = true then F_take [.box, .dt (.int 6)] _ else _
    split
    · rename_i c
      refine take_of (n := 6) (by decide) (by decide) fun r r0 r1 => ?_
      show if decide (0 < r) = true then _ else _
      split
      · have c := of_decide_eq_true c
        obtain ⟨n', rfl, l, h⟩ := ok_seq (T := false) ok
        refine take_of (n := ((ds.length : Nat) : Int)) (by omega) (by omega) fun a a0 a1 => ?_
        obtain ⟨a, rfl⟩ : ∃ j : Nat, a = (j : Nat) := ⟨a.toNat, by omega⟩
        refine take_of (n := 10) (by decide) (by decide) fun way w0 w1 => ?_
        exact os3_of (T := false) hm mz hb bz hs sz (by omega) l h (by omega) fun d' o w => q d' o (by first | exact (by rw [PyData.weight]; exact w))
      · exact end4
    · exact end4
  | tuple ds =>
    show if decide ((0 : Int) < ((ds.length : Nat) : Int)) = true then F_take [.box, .dt (.int 6)] _ else _
    split
    · rename_i c
      refine take_of (n := 6) (by decide) (by decide) fun r r0 r1 => ?_
      show if decide (0 < r) = true then _ else _
      split
      · have c := of_decide_eq_true c
        obtain ⟨n', rfl, l, h⟩ := ok_seq (T := true) ok
        refine take_of (n := ((ds.length : Nat) : Int)) (by omega) (by omega) fun a a0 a1 => ?_
        obtain ⟨a, rfl⟩ : ∃ j : Nat, a = (j : Nat) := ⟨a.toNat, by omega⟩
        refine take_of (n := 10) (by decide) (by decide) fun way w0 w1 => ?_
        exact os3_of (T := true) hm mz hb bz hs sz (by omega) l h (by omega) fun d' o w => q d' o (by first | exact (by rw [PyData.weight]; exact w))
      · exact end4
    · exact end4
end
section
variable {m b s n : Nat} {Q : PyData → Prop}
theorem of4_of {N : List Sl → Prop} {T : Bool} {ds es : List PyData} {s0 s2 s3 : Sl} (q : ∀ d', okT (m + 1) (b + 1) (3 * s + 40) (n + 3) d' → d'.weight ≤ 2 * PyData.weightAll ds + 10000 → Q d') (l : es.length ≤ m + 1) (hw : PyData.weightAll es ≤ 2 * PyData.weightAll ds + 10000) (h : ∀ y ∈ es, okT (m + 1) (b + 1) (3 * s + 40) (n + 2) y) : f__law_otherwise__4_0 [s0, .dt (mkD T ds), s2, s3, .own es] (enN N Q) := by
  unfold f__law_otherwise__4_0
  cases T with
  | true => exact q (.tuple es) ⟨l, h⟩ (by rw [PyData.weight]; exact hw)
  | false => exact q (.list es) ⟨l, h⟩ (by rw [PyData.weight]; exact hw)
theorem os4_of {N : List Sl → Prop} {T : Bool} {ds : List PyData} {way : Int} {at_ : Nat} (hm : 10 ≤ m) (mz : m ≤ 1000) (hb : 10 ^ 30 ≤ b) (bz : b ≤ 10 ^ 30 + 8) (hs : 40 ≤ s) (sz : s ≤ 3000) (ha : at_ < ds.length) (l : ds.length ≤ m) (h : ∀ y ∈ ds, okT m b s n y) (hk : n + 1 ≤ 4) (q : ∀ d', okT (m + 1) (b + 1) (3 * s + 40) (n + 3) d' → d'.weight ≤ 2 * PyData.weightAll ds + 10000 → Q d') :
    f__law_otherwise__4_1 [.box, .dt (mkD T ds), .dt (.int (at_ : Nat)), .dt (.int way), .own ds] (enN N Q) := by
  have up : ∀ y ∈ ds, okT (m + 1) (b + 1) (3 * s + 40) (n + 2) y := fun y hy => okT_up (by omega) (by omega) (by omega) (by omega) (h y hy)
  have gi := List.getElem?_eq_getElem ha
  unfold f__law_otherwise__4_1
  show if decide (way < 6) = true then _ else _
  by_cases c1 : way < 6
  · rw [if_pos (decide_eq_true c1)]
    refine (show gIx (mkD T ds) (.int (at_ : Nat)) _ from gix ha ?_)
    refine bent3_of hm mz hb bz hs sz (h _ (List.getElem_mem ha)) (by omega) fun d' ok' wt => ?_
    refine ⟨at_, Evl.ixN_nat ha, ?_⟩
    refine of4_of q (by rw [List.length_set]; omega) (by have w1 := w_set ds at_ ds[at_] d' gi; have w2 := w_mem ds at_ ds[at_] gi; omega) fun y hy => ?_
    rcases List.mem_or_eq_of_mem_set hy with z | z
    · exact up y z
    · rw [z]
      exact ok'
  rw [if_neg (by rw [decide_eq_true_eq]; exact c1)]
  show if decide (way = 6) = true then _ else _
  by_cases c2 : way = 6
  · rw [if_pos (decide_eq_true c2)]
    refine ⟨at_, rfl, ha, by omega, ?_⟩
    exact of4_of q (by have := List.length_eraseIdx_le ds at_; omega) (by have := w_erase ds at_; omega) fun y hy => up y (List.mem_of_mem_eraseIdx hy)
  rw [if_neg (by rw [decide_eq_true_eq]; exact c2)]
  show if decide (way = 7) = true then _ else _
  by_cases c3 : way = 7
  · rw [if_pos (decide_eq_true c3)]
    refine (show gIx (mkD T ds) (.int (at_ : Nat)) _ from gix ha ?_)
    refine ⟨at_, rfl, by omega, by omega, ?_⟩
    refine of4_of q (by simp only [List.length_append, List.length_take, List.length_drop, List.length_cons, List.length_nil]; omega) (by rw [w_app, w_app, PyData.weightAll, PyData.weightAll]; have w1 := w_cut ds at_; have w2 := w_mem ds at_ ds[at_] gi; omega) fun y hy => ?_
    rcases List.mem_append.mp hy with z | z
    · rcases List.mem_append.mp z with z | z
      · exact up y (List.mem_of_mem_take z)
      · rw [List.mem_singleton.mp z]
        exact up _ (List.getElem_mem ha)
    · exact up y (List.mem_of_mem_drop z)
  rw [if_neg (by rw [decide_eq_true_eq]; exact c3)]
  show if decide (way = 8) = true then _ else _
  by_cases c4 : way = 8
  · rw [if_pos (decide_eq_true c4)]
    exact of4_of q (by rw [List.length_reverse]; omega) (by rw [w_rev]; omega) fun y hy => up y (List.mem_reverse.mp hy)
  rw [if_neg (by rw [decide_eq_true_eq]; exact c4)]
  cases T with
  | true => exact q (.list ds) ⟨by omega, up⟩ (by rw [PyData.weight]; omega)
  | false => exact q (.tuple ds) ⟨by omega, up⟩ (by rw [PyData.weight]; omega)
theorem bent4_of : Bent F__law_otherwise__4 4 := fun {m b s n d Q} hm mz hb bz hs sz ok hk q => by
  have lim : (10 : Nat) ^ 30 = 1000000000000000000000000000000 := by decide
  have end2 : f__law_otherwise__4_2 [.box, .dt d, .no, .no, .no] (en Q) := by
    unfold f__law_otherwise__4_2
    exact odd_of fun d' hd' => q d' (okT_up (by omega) (by omega) (by omega) (by omega) (odd_ok d' hd')) (by have := odd_w d' hd'; omega)
  have end3 : f__law_otherwise__4_3 [.box, .dt d, .no, .no, .no] (en Q) := by
    unfold f__law_otherwise__4_3
    cases d with
    | str x =>
      have hx := ok_str ok
      have hl : x.length ≤ 3000 := Nat.le_trans hx.len sz
      show if isD .str (.str x) = true then _ else _
      rw [if_pos (by rfl)]
      refine take_of (n := 4) (by decide) (by decide) fun r r0 r1 => ?_
      show if decide (0 < r) = true then _ else _
      by_cases c : 0 < r
      · rw [if_pos (decide_eq_true c)]
        refine (show x.length + (Str.ofString "s").length ≤ 1000000 ∧ _ from ⟨by have : (Str.ofString "s").length ≤ 1 := tx_s.len; omega, ?_⟩)
        refine (show x.length ≤ 1000000 ∧ _ from ⟨by omega, ?_⟩)
        refine (show x.length ≤ 1000000 ∧ _ from ⟨by omega, ?_⟩)
        refine (show x.length + (Str.ofString " ").length ≤ 1000000 ∧ _ from ⟨by have : (Str.ofString " ").length ≤ 1 := tx_sp.len; omega, ?_⟩)
        refine (show x.length ≤ 1000000 ∧ _ from ⟨by omega, ?_⟩)
        refine take_of (n := 6) (by decide) (by decide) fun r r0 r1 => ?_
        exact str_of (by omega) sz hx (fun d' o w => q d' o (by omega)) r r0 r1
      · rw [if_neg (by rw [decide_eq_true_eq]; exact c)]
        exact end2
    | none => exact end2
    | bool _ => exact end2
    | int _ => exact end2
    | list _ => exact end2
    | tuple _ => exact end2
    | dict _ => exact end2
  have end4 : f__law_otherwise__4_4 [.box, .dt d, .no, .no, .no] (en Q) := by
    unfold f__law_otherwise__4_4
    cases d with
    | int i =>
      have hi := ok_int ok
      show if isD .int (.int i) = true then (if (!isD .bool (.int i)) = true then _ else _) else _
      rw [if_pos (by rfl), if_pos (by rfl)]
      refine take_of (n := 4) (by decide) (by decide) fun r r0 r1 => ?_
      show if decide (0 < r) = true then _ else _
      by_cases c : 0 < r
      · rw [if_pos (decide_eq_true c)]
        refine (show i.natAbs.log2 < 1920 ∧ _ from ⟨log_i (by omega), ?_⟩)
        refine take_of (n := 7) (by decide) (by decide) fun r r0 r1 => ?_
        exact int_of bz hs hi (fun d' o w => q d' o (by omega)) r r0 r1
      · rw [if_neg (by rw [decide_eq_true_eq]; exact c)]
        exact end3
    | none => exact end3
    | bool _ => exact end3
    | str _ => exact end3
    | list _ => exact end3
    | tuple _ => exact end3
    | dict _ => exact end3
  unfold F__law_otherwise__4
  refine ⟨rfl, ?_⟩
  cases d with
  | none => exact end4
  | bool _ => exact end4
  | int _ => exact end4
  | str _ => exact end4
  | dict _ => exact end4
  | list ds =>
    show if decide ((0 : Int) < ((ds.length : Nat) : Int)) = true then F_take [.box, .dt (.int 6)] _ else _
    split
    · rename_i c
      refine take_of (n := 6) (by decide) (by decide) fun r r0 r1 => ?_
      show if decide (0 < r) = true then _ else _
      split
      · have c := of_decide_eq_true c
        obtain ⟨n', rfl, l, h⟩ := ok_seq (T := false) ok
        refine take_of (n := ((ds.length : Nat) : Int)) (by omega) (by omega) fun a a0 a1 => ?_
        obtain ⟨a, rfl⟩ : ∃ j : Nat, a = (j : Nat) := ⟨a.toNat, by omega⟩
        refine take_of (n := 10) (by decide) (by decide) fun way w0 w1 => ?_
        exact os4_of (T := false) hm mz hb bz hs sz (by omega) l h (by omega) fun d' o w => q d' o (by first | exact (by rw [PyData.weight]; exact w))
      · exact end4
    · exact end4
  | tuple ds =>
    show if decide ((0 : Int) < ((ds.length : Nat) : Int)) = true then F_take [.box, .dt (.int 6)] _ else _
    split
    · rename_i c
      refine take_of (n := 6) (by decide) (by decide) fun r r0 r1 => ?_
      show if decide (0 < r) = true then _ else _
      split
      · have c := of_decide_eq_true c
        obtain ⟨n', rfl, l, h⟩ := ok_seq (T := true) ok
        refine take_of (n := ((ds.length : Nat) : Int)) (by omega) (by omega) fun a a0 a1 => ?_
        obtain ⟨a, rfl⟩ : ∃ j : Nat, a = (j : Nat) := ⟨a.toNat, by omega⟩
        refine take_of (n := 10) (by decide) (by decide) fun way w0 w1 => ?_
        exact os4_of (T := true) hm mz hb bz hs sz (by omega) l h (by omega) fun d' o w => q d' o (by first | exact (by rw [PyData.weight]; exact w))
      · exact end4
    · exact end4
end
end Kd
namespace Kd
open PySem PySem.Spec PyProof.Rows L2 Xg Dv
theorem jn_alt : ∀ {ts acc : List Tn}, Alt (acc ++ ts) → ts.foldl jS acc = acc ++ ts
  | [], acc, _ => by rw [List.append_nil]; rfl
  | s :: r, acc, h => by
    have e : jS acc s = acc ++ [s] := by
      rcases nil_or_app acc with rfl | ⟨b, l, rfl⟩
      · rfl
      · have k : s.1 = (!l.1) := alt_ac h b l s r (by simp)
        rw [jS_app, if_neg (by rw [k]; cases l.1 <;> simp)]
    show r.foldl jS (jS acc s) = _
    rw [e, jn_alt (by simpa using h)]
    simp
theorem red_spn {ts : List Tn} (h : Red ts) : spn ts = [] := by
  cases e : spn ts with
  | nil => rfl
  | cons i r =>
    exfalso
    obtain ⟨hi, hc⟩ := spn_mem (ts := ts) (i := i) (by rw [e]; simp)
    unfold spc at hc
    have hc := of_decide_eq_true hc
    exact red_rc h _ _ _ _ _ (three_at hi) hc
theorem due_iff {ts : List Tn} (p : Pos ts) : lft' ts = ts ↔ jn ts = ts ∧ spi ts = [] := by
  constructor
  · intro e
    have g : Good ts := by
      have := left_good p.nng
      rw [e] at this
      exact this
    refine ⟨jn_alt (acc := []) (by rw [List.nil_append]; exact g.a), ?_⟩
    unfold spi
    rw [red_spn g.r]
    rfl
  · rintro ⟨e1, e2⟩
    have a : Alt ts := by
      rw [← e1]
      exact alt_jn (a := []) trivial
    have s : spn ts = [] := List.map_eq_nil_iff.mp e2
    exact left_id ⟨spn_red s, a⟩
def tB : PyData → Bool
  | .tuple [.str x, .int i] => (decide (x = "forth") || decide (x = "back")) && decide (1 ≤ i)
  | _ => false
def trB : PyData → Bool
  | .list ds => ds.all tB
  | _ => false
def tupN (n : Int) : PyData → Bool
  | .tuple ds => decide ((ds.length : Int) = n)
  | _ => false
def isI : PyData → Bool
  | .int _ => true
  | _ => false
theorem t_iff {d : PyData} : tB d = true ↔ ∃ s : Tn, d = tn true s ∧ 1 ≤ s.2 := by
  constructor
  · intro h
    unfold tB at h
    split at h
    · rename_i x i
      rw [Bool.and_eq_true, Bool.or_eq_true, decide_eq_true_eq, decide_eq_true_eq, decide_eq_true_eq] at h
      rcases h.1 with rfl | rfl
      · exact ⟨(true, i), rfl, h.2⟩
      · exact ⟨(false, i), rfl, h.2⟩
    · cases h
  · rintro ⟨⟨v, i⟩, rfl, h⟩
    have h : 1 ≤ i := h
    cases v with
    | true =>
      show ((decide (("forth" : Str) = "forth") || decide (("forth" : Str) = "back")) && decide (1 ≤ i)) = true
      rw [decide_eq_true h, decide_eq_true rfl]
      rfl
    | false =>
      show ((decide (("back" : Str) = "forth") || decide (("back" : Str) = "back")) && decide (1 ≤ i)) = true
      rw [decide_eq_true h, decide_eq_true (p := ("back" : Str) = "back") rfl, Bool.or_true]
      rfl
theorem turns_list : ∀ {ds : List PyData}, ds.all tB = true → ∃ ts : List Tn, ds = ts.map (tn true) ∧ Pos ts
  | [], _ => ⟨[], rfl, fun _ h => nomatch h⟩
  | d :: ds, h => by
    rw [List.all_cons, Bool.and_eq_true] at h
    obtain ⟨ts, rfl, p⟩ := turns_list h.2
    obtain ⟨s, rfl, ps⟩ := t_iff.mp h.1
    exact ⟨s :: ts, rfl, fun t ht => (List.mem_cons.mp ht).elim (fun e => e ▸ ps) (p t)⟩
theorem tr_iff {d : PyData} : trB d = true ↔ ∃ ts : List Tn, d = dT ts ∧ Pos ts := by
  constructor
  · intro h
    cases d with
    | list ds =>
      obtain ⟨ts, rfl, p⟩ := turns_list h
      exact ⟨ts, rfl, p⟩
    | none => cases h
    | bool _ => cases h
    | int _ => cases h
    | str _ => cases h
    | tuple _ => cases h
    | dict _ => cases h
  · rintro ⟨ts, rfl, p⟩
    show (ts.map (tn true)).all tB = true
    rw [List.all_map, List.all_eq_true]
    exact fun s hs => t_iff.mpr ⟨s, rfl, p s hs⟩
def sameS (x : Str) : PyData → Bool
  | .str y => decide (y = x)
  | _ => false
def fromI (j : Int) : PyData → Bool
  | .int i => decide (j ≤ i)
  | _ => false
theorem tB_two {x y : PyData} : tB (.tuple [x, y]) = ((sameS "forth" x || sameS "back" x) && fromI 1 y) := by
  cases x with
  | str z => cases y <;> first | rfl | simp [tB, sameS, fromI]
  | none => rfl
  | bool _ => rfl
  | int _ => rfl
  | list _ => rfl
  | tuple _ => rfl
  | dict _ => rfl
theorem tB_not {ds : List PyData} (c : ¬ ds.length = 2) : tB (.tuple ds) = false := by
  unfold tB
  split
  · rename_i h
    cases h
    exact absurd rfl c
  · rfl
section
variable {d : PyData} {Q : PyData → Prop}
theorem numA_of (q : Q (.bool (isI d))) : F_is_number [.dt d] Q := by
  unfold F_is_number
  cases d <;> exact ⟨rfl, q⟩
theorem tupA_of {n : Int} (q : Q (.bool (tupN n d))) : F_is_tuple_of [.dt d, .dt (.int n)] Q := by
  unfold F_is_tuple_of
  cases d <;> exact ⟨rfl, q⟩
theorem fromA_of {j : Int} (q : Q (.bool (fromI j d))) : F_is_number_from [.dt d, .dt (.int j)] Q := by
  unfold F_is_number_from
  refine ⟨rfl, numA_of ?_⟩
  cases d <;> exact q
theorem allA {f : PyData → Bool} {ds : List PyData} {P : PyData → Prop} (p : P (.bool (ds.all f))) : boolsQ (fun ns => P (.bool (ns.all id))) (.list (ds.map fun d => .bool (f d))) := by
  refine ⟨ds.map f, by rw [List.map_map]; rfl, ?_⟩
  show P (.bool ((ds.map f).all id))
  rw [List.all_map]
  exact p
theorem shp_sh {n : Nat} (hn : n ≤ 60) (h : Sh n d) : SeqAt.shaped d = true := by
  unfold SeqAt.shaped
  rw [h.cl, decide_eq_true (by have := h.dp; omega)]
  rfl
theorem eqS_of {n : Nat} (hn : n ≤ 60) (h : Sh n d) {x : Str} (hx : SeqAt.shaped (.str x) = true) {P : PyData → Prop} (p : P (.bool (sameS x d))) : gEq d (.str x) P := by
  have s := shp_sh hn h
  cases d with
  | str y => exact p
  | none => exact ⟨s, hx, by simpa [PyData.eqv, sameS] using p⟩
  | bool _ => exact ⟨s, hx, by simpa [PyData.eqv, sameS] using p⟩
  | int _ => exact ⟨s, hx, by simpa [PyData.eqv, sameS] using p⟩
  | list _ => exact ⟨s, hx, by simpa [PyData.eqv, sameS] using p⟩
  | tuple _ => exact ⟨s, hx, by simpa [PyData.eqv, sameS] using p⟩
  | dict _ => exact ⟨s, hx, by simpa [PyData.eqv, sameS] using p⟩
theorem sh_part {n : Nat} {ds : List PyData} {x : PyData} (h : Sh n (.tuple ds)) (hx : x ∈ ds) : Sh n x := by
  have a1 := h.sh
  have a2 := h.di
  have a3 := h.dp
  have a4 := h.cl
  have a5 := h.lv
  rw [PyData.showable] at a1
  rw [PyData.hasDict] at a2
  rw [PyData.depth] at a3
  rw [PyData.canLay0] at a4
  rw [PyData.leavesShort] at a5
  induction ds with
  | nil => cases hx
  | cons y ds ih =>
    rw [PyData.showableAll, Bool.and_eq_true] at a1
    rw [PyData.hasDictAll, Bool.or_eq_false_iff] at a2
    rw [PyData.depthAll] at a3
    rw [PyData.canLayAll0, Bool.and_eq_true] at a4
    rw [PyData.leavesShortAll, Bool.and_eq_true] at a5
    rcases List.mem_cons.mp hx with rfl | hx
    · exact ⟨a1.1, a2.1, by omega, a4.1, a5.1⟩
    · exact ih ⟨by rw [PyData.showable]; exact a1.2, by rw [PyData.hasDict]; exact a2.2, by rw [PyData.depth]; omega, by rw [PyData.canLay0]; exact a4.2, by rw [PyData.leavesShort]; exact a5.2⟩ hx a1.2 a2.2 (by omega) a4.2 a5.2
theorem sh_partL {n : Nat} {ds : List PyData} {x : PyData} (h : Sh n (.list ds)) (hx : x ∈ ds) : Sh n x := by
  have a1 := h.sh
  have a2 := h.di
  have a3 := h.dp
  have a4 := h.cl
  have a5 := h.lv
  rw [PyData.showable] at a1
  rw [PyData.hasDict] at a2
  rw [PyData.depth] at a3
  rw [PyData.canLay0] at a4
  rw [PyData.leavesShort] at a5
  exact sh_part (ds := ds) ⟨by rw [PyData.showable]; exact a1, by rw [PyData.hasDict]; exact a2, by rw [PyData.depth]; exact a3, by rw [PyData.canLay0]; exact a4, by rw [PyData.leavesShort]; exact a5⟩ hx
theorem turnA_of {n : Nat} (hn : n ≤ 60) (h : Sh n d) (q : Q (.bool (tB d))) : F_is_turn [.dt d] Q := by
  unfold F_is_turn
  refine ⟨rfl, tupA_of ?_⟩
  cases d with
  | tuple ds =>
    show if (!decide (((ds.length : Nat) : Int) = 2)) = true then _ else _
    by_cases c : ds.length = 2
    · rw [decide_eq_true (by omega), if_neg (by decide)]
      match ds, c with
      | [x, y], _ =>
        have hx := sh_part h (x := x) (by simp)
        have sf : SeqAt.shaped (.str "forth") = true := by decide +kernel
        have sb : SeqAt.shaped (.str "back") = true := by decide +kernel
        rw [tB_two] at q
        refine (show gEq x (.str "forth") _ from eqS_of hn hx sf ?_)
        cases h1 : sameS "forth" x with
        | true =>
          rw [h1, Bool.true_or, Bool.true_and] at q
          exact (show F_is_number_from [.dt y, .dt (.int 1)] Q from fromA_of q)
        | false =>
          rw [h1, Bool.false_or] at q
          refine (show gEq x (.str "back") _ from eqS_of hn hx sb ?_)
          cases h2 : sameS "back" x with
          | true =>
            rw [h2, Bool.true_and] at q
            exact (show F_is_number_from [.dt y, .dt (.int 1)] Q from fromA_of q)
          | false =>
            rw [h2, Bool.false_and] at q
            exact q
    · rw [decide_eq_false (by omega), if_pos (by rfl)]
      rw [tB_not c] at q
      exact q
  | none => exact q
  | bool _ => exact q
  | int _ => exact q
  | str _ => exact q
  | list _ => exact q
  | dict _ => exact q
theorem turnsA_of {n : Nat} (hn : n ≤ 60) (h : Sh n d) (hl : ∀ ds, d = .list ds → ds.length ≤ 1000) (q : Q (.bool (trB d))) : F_is_turns [.dt d] Q := by
  unfold F_is_turns
  refine ⟨rfl, ?_⟩
  cases d with
  | list ds =>
    have l := hl ds rfl
    exact (show ds.length ≤ 1000000 ∧ _ from ⟨by omega, comp_of (fun d => .bool (tB d)) _ [] (fun d hd P hp => turnA_of hn (sh_partL h hd) hp) (allA q)⟩)
  | none => exact q
  | bool _ => exact q
  | int _ => exact q
  | str _ => exact q
  | tuple _ => exact q
  | dict _ => exact q
theorem forgA_of {n : Nat} (hn : n ≤ 60) (h : Sh n d) (hl : ∀ ds, d = .list ds → ds.length ≤ 1000) (P : ∀ ts, d = dT ts → Pos ts → Q (.bool (decide (lft' ts = ts)))) (N : trB d = false → Q (.bool false)) : F_is_forgotten [.dt d] Q := by
  cases c : trB d with
  | true =>
    obtain ⟨ts, rfl, p⟩ := tr_iff.mp c
    have := hl _ rfl
    rw [List.length_map] at this
    exact isForg_of this p (P ts rfl p)
  | false =>
    unfold F_is_forgotten
    refine ⟨rfl, turnsA_of hn h hl ?_⟩
    rw [c]
    exact N c
theorem for_acc {g : FG} {f : FS} {E : DEnds} (I : List Sl → Prop) (C : PyData → Prop) : ∀ (ds : List PyData) (ρ : List Sl), (∀ ρ d (N : List Sl → Prop), I ρ → d ∈ ds → (C d → ∀ ρ', I ρ' → N ρ') → g d ρ fun ρ1 => f ρ1 { E with nx := N, ct := N, bk := E.nx }) → I ρ → ((∀ d ∈ ds, C d) → ∀ ρ, I ρ → E.nx ρ) → forD g f ds ρ E
  | [], ρ, _, h0, he => he (fun _ h => nomatch h) ρ h0
  | d :: ds, ρ, hs, h0, he => hs ρ d (fun ρ2 => forD g f ds ρ2 E) h0 (List.mem_cons_self ..) fun c ρ' h => for_acc I C ds ρ' (fun ρ e N i m => hs ρ e N i (List.mem_cons_of_mem _ m)) h fun all => he fun y hy => (List.mem_cons.mp hy).elim (fun e => e ▸ c) (all y)
theorem part_own {E : DEnds} {ds : List PyData} {y : PyData} {x : Str} (nx : tB (.tuple [.str x, y]) = true → E.nx [.dt (.list ds), .dt (.tuple [.str x, y])]) (rt : tB (.tuple [.str x, y]) = false → E.rt (.bool false)) : f__law_are_turns_0 [.dt (.list ds), .dt (.tuple [.str x, y])] E := by
  unfold f__law_are_turns_0
  rw [tB_two] at nx rt
  refine (show ∃ ns : List Str, [PyData.str "forth", .str "back"] = ns.map PyData.str ∧ _ from ⟨["forth", "back"], rfl, ?_⟩)
  show if (!decide (x ∈ (["forth", "back"] : List Str))) = true then _ else _
  by_cases c : x = "forth" ∨ x = "back"
  · have e : (sameS "forth" (.str x) || sameS "back" (.str x)) = true := by
      rw [Bool.or_eq_true]
      exact c.imp (fun h => decide_eq_true h) (fun h => decide_eq_true h)
    rw [e, Bool.true_and] at nx rt
    rw [decide_eq_true (by simpa using c), if_neg (by decide)]
    cases y with
    | int i =>
      show if decide (i < 1) = true then _ else _
      by_cases c2 : i < 1
      · rw [if_pos (decide_eq_true c2)]
        exact rt (decide_eq_false (by omega))
      · rw [if_neg (by rw [decide_eq_true_eq]; exact c2)]
        exact nx (decide_eq_true (by omega))
    | none => exact rt rfl
    | bool _ => exact rt rfl
    | str _ => exact rt rfl
    | list _ => exact rt rfl
    | tuple _ => exact rt rfl
    | dict _ => exact rt rfl
  · have e : (sameS "forth" (.str x) || sameS "back" (.str x)) = false := by
      rw [Bool.or_eq_false_iff]
      exact ⟨decide_eq_false fun h => c (.inl h), decide_eq_false fun h => c (.inr h)⟩
    rw [e, Bool.false_and] at rt
    rw [decide_eq_false (by simpa using c), if_pos (by rfl)]
    exact rt rfl
theorem ownTurns_of (hl : ∀ ds, d = .list ds → ds.length ≤ 1000) (q : Q (.bool (trB d))) : F__law_are_turns [.dt d] Q := by
  unfold F__law_are_turns
  refine ⟨rfl, ?_⟩
  cases d with
  | list ds =>
    have l := hl ds rfl
    show f__law_are_turns_2 [.dt (.list ds), .no] (en Q)
    unfold f__law_are_turns_2
    refine (show ds.length ≤ 1000000 ∧ _ from ⟨by omega, ?_⟩)
    refine for_acc (fun ρ => ∃ s1, ρ = [.dt (.list ds), s1]) (fun d => tB d = true) _ _ (fun ρ d N i hd kk => ?_) ⟨_, rfl⟩ (fun all ρ i => ?_)
    · obtain ⟨s1, rfl⟩ := i
      have no : tB d = false → Q (.bool false) := fun h => by
        have e : trB (.list ds) = false := by
          cases c : trB (.list ds) with
          | false => rfl
          | true =>
            have c : ds.all tB = true := c
            have := List.all_eq_true.mp c d hd
            rw [h] at this
            cases this
        rw [e] at q
        exact q
      cases d with
      | tuple es =>
        show if (!decide (((es.length : Nat) : Int) = 2)) = true then _ else _
        by_cases c : es.length = 2
        · rw [decide_eq_true (by omega), if_neg (by decide)]
          match es, c with
          | [x, y], _ =>
            cases x with
            | str x => exact part_own (fun h => kk h _ ⟨_, rfl⟩) no
            | none => exact no rfl
            | bool _ => exact no rfl
            | int _ => exact no rfl
            | list _ => exact no rfl
            | tuple _ => exact no rfl
            | dict _ => exact no rfl
        · rw [decide_eq_false (by omega), if_pos (by rfl)]
          exact no (tB_not c)
      | none => exact no rfl
      | bool _ => exact no rfl
      | int _ => exact no rfl
      | str _ => exact no rfl
      | list _ => exact no rfl
      | dict _ => exact no rfl
    · obtain ⟨s1, rfl⟩ := i
      show f__law_are_turns_1 _ _
      unfold f__law_are_turns_1
      have e : trB (.list ds) = true := List.all_eq_true.mpr all
      rw [e] at q
      exact q
  | none => exact q
  | bool _ => exact q
  | int _ => exact q
  | str _ => exact q
  | tuple _ => exact q
  | dict _ => exact q
end
end Kd
namespace Kd
open PySem PySem.Spec PyProof.Rows L2 Xg Dv
def Hl (xs : List Int) : Prop := ∀ x ∈ xs, 1 ≤ x ∧ x ≤ 3 * (xs.length : Int)
theorem hl_add {xs : List Int} {y r : Int} (h : Hl xs) (hy : 0 ≤ y ∧ y ≤ 3 * (xs.length : Int)) (h0 : 0 ≤ r) (h1 : r < 3) : Hl (xs ++ [y + 1 + r]) := fun x hx => by
  rw [List.length_append, List.length_singleton]
  rcases List.mem_append.mp hx with z | z
  · have := h x z
    omega
  · rw [List.mem_singleton.mp z]
    omega
theorem at_last {xs : List Int} (h : xs ≠ []) : ∃ y ∈ xs, L2.atI (xs.map PyData.int) (-1) = some (.int y) := by
  refine ⟨xs.getLast h, List.getLast_mem h, ?_⟩
  have e : xs = xs.dropLast ++ [xs.getLast h] := (List.dropLast_concat_getLast h).symm
  have := atI_last (xs.dropLast.map PyData.int) (PyData.int (xs.getLast h))
  rw [← List.map_singleton, ← List.map_append, ← e] at this
  exact this
theorem up1_loop {E : DEnds} {d2 : Sl} : ∀ (ks : List PyData) (xs : List Int) (s3 : Sl), xs.length + ks.length ≤ 5 → Hl xs →
    (∀ xs s3, xs.length ≤ 5 → Hl xs → E.nx [.box, .own (xs.map PyData.int), d2, s3, .no, .no, .no]) →
    forD (gN 3) (sApp 1 (eBin gAdd (eBin gAdd (eIf (fTest (eBin gNe (eVarV 1) (eLst dNil))) (eBin gIx (eVarV 1) (eUn negD (eC (.int 1)))) (eC (.int 0))) (eC (.int 1))) (eCall F_take (aBox 0 (aCons (eC (.int 3)) aNil))))) ks [.box, .own (xs.map PyData.int), d2, s3, .no, .no, .no] E
  | [], xs, s3, hl, h, q => q xs s3 (by rw [List.length_nil] at hl; omega) h
  | k :: ks, xs, s3, hl, h, q => by
    rw [List.length_cons] at hl
    refine (show gNe (iq false xs) (.list []) _ from ne_nilI ?_)
    have go : ∀ y : Int, 0 ≤ y ∧ y ≤ 3 * (xs.length : Int) → ∀ r : Int, 0 ≤ r → r < 3 → (xs.map PyData.int).length < 1000000 ∧ forD (gN 3) (sApp 1 (eBin gAdd (eBin gAdd (eIf (fTest (eBin gNe (eVarV 1) (eLst dNil))) (eBin gIx (eVarV 1) (eUn negD (eC (.int 1)))) (eC (.int 0))) (eC (.int 1))) (eCall F_take (aBox 0 (aCons (eC (.int 3)) aNil))))) ks [.box, .own (xs.map PyData.int ++ [.int (y + 1 + r)]), d2, .dt k, .no, .no, .no] E := fun y hy r r0 r1 => by
      refine ⟨by rw [len_i]; omega, ?_⟩
      have z := up1_loop (E := E) (d2 := d2) ks (xs ++ [y + 1 + r]) (.dt k) (by rw [List.length_append]; show _ + 1 + _ ≤ _; omega) (hl_add h hy r0 r1) q
      rw [List.map_append] at z
      exact z
    show if (!xs.isEmpty) = true then _ else _
    by_cases c : xs = []
    · rw [c, if_neg (by decide)]
      subst c
      exact take_of (n := 3) (by decide) (by decide) fun r r0 r1 => go 0 ⟨by decide, by decide⟩ r r0 r1
    · rw [if_pos (by cases xs with | nil => exact absurd rfl c | cons _ _ => rfl)]
      obtain ⟨y, hy, e⟩ := at_last c
      show atQ (L2.atI (xs.map PyData.int) (-1)) _
      rw [e]
      have := h y hy
      exact take_of (n := 3) (by decide) (by decide) fun r r0 r1 => go y ⟨by omega, by omega⟩ r r0 r1
theorem up2_loop {E : DEnds} {d1 : Sl} : ∀ (ks : List PyData) (xs : List Int) (s3 : Sl), xs.length + ks.length ≤ 4 → Hl xs →
    (∀ xs s3, xs.length ≤ 4 → Hl xs → E.nx [.box, d1, .own (xs.map PyData.int), s3, .no, .no, .no]) →
    forD (gN 3) (sApp 2 (eBin gAdd (eBin gAdd (eIf (fTest (eBin gNe (eVarV 2) (eLst dNil))) (eBin gIx (eVarV 2) (eUn negD (eC (.int 1)))) (eC (.int 0))) (eC (.int 1))) (eCall F_take (aBox 0 (aCons (eC (.int 3)) aNil))))) ks [.box, d1, .own (xs.map PyData.int), s3, .no, .no, .no] E
  | [], xs, s3, hl, h, q => q xs s3 (by rw [List.length_nil] at hl; omega) h
  | k :: ks, xs, s3, hl, h, q => by
    rw [List.length_cons] at hl
    refine (show gNe (iq false xs) (.list []) _ from ne_nilI ?_)
    have go : ∀ y : Int, 0 ≤ y ∧ y ≤ 3 * (xs.length : Int) → ∀ r : Int, 0 ≤ r → r < 3 → (xs.map PyData.int).length < 1000000 ∧ forD (gN 3) (sApp 2 (eBin gAdd (eBin gAdd (eIf (fTest (eBin gNe (eVarV 2) (eLst dNil))) (eBin gIx (eVarV 2) (eUn negD (eC (.int 1)))) (eC (.int 0))) (eC (.int 1))) (eCall F_take (aBox 0 (aCons (eC (.int 3)) aNil))))) ks [.box, d1, .own (xs.map PyData.int ++ [.int (y + 1 + r)]), .dt k, .no, .no, .no] E := fun y hy r r0 r1 => by
      refine ⟨by rw [len_i]; omega, ?_⟩
      have z := up2_loop (E := E) (d1 := d1) ks (xs ++ [y + 1 + r]) (.dt k) (by rw [List.length_append]; show _ + 1 + _ ≤ _; omega) (hl_add h hy r0 r1) q
      rw [List.map_append] at z
      exact z
    show if (!xs.isEmpty) = true then _ else _
    by_cases c : xs = []
    · rw [c, if_neg (by decide)]
      subst c
      exact take_of (n := 3) (by decide) (by decide) fun r r0 r1 => go 0 ⟨by decide, by decide⟩ r r0 r1
    · rw [if_pos (by cases xs with | nil => exact absurd rfl c | cons _ _ => rfl)]
      obtain ⟨y, hy, e⟩ := at_last c
      show atQ (L2.atI (xs.map PyData.int) (-1)) _
      rw [e]
      have := h y hy
      exact take_of (n := 3) (by decide) (by decide) fun r r0 r1 => go y ⟨by omega, by omega⟩ r r0 r1
theorem hill0_of {E : DEnds} {v : Bool} {d1 d2 s3 s5 s6 : Sl} (q : E.nx [.box, d1, d2, s3, .dt (.int (if v = true then 1 else 0)), s5, s6]) : f__law_hill_0 [.box, d1, d2, s3, .dt (.int (if v = true then 0 else 1)), s5, s6] E := by
  unfold f__law_hill_0
  cases v <;> exact q
theorem told_loop {E : DEnds} {d1 d2 s3 : Sl} : ∀ (zs : List Int) (ts : List Tn) (v : Bool) (s6 : Sl), ts.length + zs.length ≤ 9 → (∀ z ∈ zs, 1 ≤ z ∧ z ≤ 100) → (∀ s ∈ ts, 1 ≤ s.2 ∧ s.2 ≤ 100) →
    (∀ (ts : List Tn) s4 s6, ts.length ≤ 9 → (∀ s ∈ ts, 1 ≤ s.2 ∧ s.2 ≤ 100) → E.nx [.box, d1, d2, s3, s4, .own (ts.map (tn true)), s6]) →
    forD (gN 6) (sSeq (sApp 5 (eTup (dCons (eBin gIx (eLst (dCons (eC (.str "forth")) (dCons (eC (.str "back")) dNil))) (eVar 4)) (dCons (eVar 6) dNil)))) f__law_hill_0) (zs.map PyData.int) [.box, d1, d2, s3, .dt (.int (if v = true then 0 else 1)), .own (ts.map (tn true)), s6] E
  | [], ts, v, s6, hl, hz, h, q => q ts _ _ (by rw [List.length_nil] at hl; omega) h
  | z :: zs, ts, v, s6, hl, hz, h, q => by
    rw [List.length_cons] at hl
    have h1 := hz z (List.mem_cons_self ..)
    have nx := told_loop (E := E) (d1 := d1) (d2 := d2) (s3 := s3) zs (ts ++ [(v, z)]) (!v) (.dt (.int z)) (by rw [List.length_append]; show _ + 1 + _ ≤ _; omega) (fun y hy => hz y (List.mem_cons_of_mem _ hy)) (fun s hs => by
      rcases List.mem_append.mp hs with w | w
      · exact h s w
      · rw [List.mem_singleton.mp w]; exact h1) q
    rw [List.map_append] at nx
    have e : atQ (L2.atI [PyData.str "forth", .str "back"] (if v = true then 0 else 1)) fun d => (ts.map (tn true)).length < 1000000 ∧ f__law_hill_0 [.box, d1, d2, s3, .dt (.int (if v = true then 0 else 1)), .own (ts.map (tn true) ++ [.tuple [d, .int z]]), .dt (.int z)] { E with nx := fun ρ2 => forD (gN 6) (sSeq (sApp 5 (eTup (dCons (eBin gIx (eLst (dCons (eC (.str "forth")) (dCons (eC (.str "back")) dNil))) (eVar 4)) (dCons (eVar 6) dNil)))) f__law_hill_0) (zs.map PyData.int) ρ2 E, ct := fun ρ2 => forD (gN 6) (sSeq (sApp 5 (eTup (dCons (eBin gIx (eLst (dCons (eC (.str "forth")) (dCons (eC (.str "back")) dNil))) (eVar 4)) (dCons (eVar 6) dNil)))) f__law_hill_0) (zs.map PyData.int) ρ2 E, bk := E.nx } := by
      have l : (ts.map (tn true)).length < 1000000 := by rw [List.length_map]; omega
      cases v with
      | true => exact ⟨l, hill0_of (v := true) nx⟩
      | false => exact ⟨l, hill0_of (v := false) nx⟩
    exact e
theorem hill_of {Q : PyData → Prop} (q : ∀ ts : List Tn, ts.length ≤ 9 → (∀ s ∈ ts, 1 ≤ s.2 ∧ s.2 ≤ 100) → Q (dT ts)) : F__law_hill [.box] Q := by
  unfold F__law_hill
  refine ⟨rfl, ?_⟩
  show f__law_hill_5 [.box, .own [], .own [], .no, .no, .no, .no] (en Q)
  unfold f__law_hill_5
  refine take_of (n := 5) (by decide) (by decide) fun r r0 r1 => ?_
  refine ⟨⟨by omega, by omega⟩, by rw [range_len]; omega, ?_⟩
  refine up1_loop _ [] _ (by rw [range_len]; show 0 + _ ≤ _; omega) (fun _ h => nomatch h) fun xs s3 lx hx => ?_
  show f__law_hill_4 [.box, .own (xs.map PyData.int), .own [], s3, .no, .no, .no] (en Q)
  unfold f__law_hill_4
  refine take_of (n := 5) (by decide) (by decide) fun r r0 r1 => ?_
  refine ⟨⟨by omega, by omega⟩, by rw [range_len]; omega, ?_⟩
  refine up2_loop _ [] _ (by rw [range_len]; show 0 + _ ≤ _; omega) (fun _ h => nomatch h) fun ys s3 ly hy => ?_
  show f__law_hill_3 [.box, .own (xs.map PyData.int), .own (ys.map PyData.int), s3, .no, .no, .no] (en Q)
  unfold f__law_hill_3
  refine take_of (n := 2) (by decide) (by decide) fun r r0 r1 => ?_
  obtain ⟨v, rfl⟩ : ∃ v : Bool, r = if v = true then 0 else 1 := by
    have c : r = 0 ∨ r = 1 := by omega
    rcases c with rfl | rfl
    · exact ⟨true, rfl⟩
    · exact ⟨false, rfl⟩
  show f__law_hill_2 [.box, .own (xs.map PyData.int), .own (ys.map PyData.int), s3, .dt (.int (if v = true then 0 else 1)), .own [], .no] (en Q)
  unfold f__law_hill_2
  refine (show (xs.map PyData.int).length + (ys.map PyData.int).reverse.length ≤ 1000000 ∧ (xs.map PyData.int ++ (ys.map PyData.int).reverse).length ≤ 1000000 ∧ _ from ⟨by rw [len_i, List.length_reverse, len_i]; omega, by rw [List.length_append, len_i, List.length_reverse, len_i]; omega, ?_⟩)
  have e : xs.map PyData.int ++ (ys.map PyData.int).reverse = (xs ++ ys.reverse).map PyData.int := by rw [List.map_append, List.map_reverse]
  rw [e]
  refine told_loop (xs ++ ys.reverse) [] v .no (by rw [List.length_append, List.length_reverse]; show 0 + _ ≤ _; omega) (fun z hz => ?_) (fun _ h => nomatch h) fun ts s4 s6 lt ht => ?_
  · rcases List.mem_append.mp hz with w | w
    · have := hx z w
      omega
    · have := hy z (List.mem_reverse.mp w)
      omega
  · show f__law_hill_1 [.box, .own (xs.map PyData.int), .own (ys.map PyData.int), s3, s4, .own (ts.map (tn true)), s6] (en Q)
    unfold f__law_hill_1
    exact q ts lt ht
end Kd
namespace Kd
open PySem PySem.Spec PyProof.Rows L2 Xg Dv
theorem w_i111 {i : Int} (h : i.natAbs ≤ 10 ^ 30) : (PyData.int i).weight ≤ 111 := by
  have lim : (10 : Nat) ^ 30 = 1000000000000000000000000000000 := by decide
  have lim2 : (2 : Nat) ^ 110 = 1298074214633706907132624082305024 := by decide
  rw [PyData.weight]
  by_cases z : i.natAbs = 0
  · have : i = 0 := by omega
    rw [this]
    decide
  · have := (Nat.log2_lt (k := 110) z).mpr (by omega)
    split <;> omega
theorem w_all {c : Nat} : ∀ {ds : List PyData}, (∀ d ∈ ds, d.weight ≤ c) → PyData.weightAll ds ≤ ds.length * (c + 1)
  | [], _ => by simp [PyData.weightAll]
  | d :: ds, h => by
    have ih := w_all fun x hx => h x (List.mem_cons_of_mem _ hx)
    have h1 := h d List.mem_cons_self
    rw [PyData.weightAll, List.length_cons, Nat.add_mul]
    omega
theorem mem_bts : ∀ {ts : List Tn}, Nng ts → 0 ≤ bts ts ∧ ∀ s ∈ ts, s.2 ≤ bts ts
  | [], _ => ⟨by decide, fun _ h => nomatch h⟩
  | t :: ts, h => by
    obtain ⟨h1, h2⟩ := mem_bts (ts := ts) fun s hs => h s (List.mem_cons_of_mem _ hs)
    have h3 := h t List.mem_cons_self
    have e : bts (t :: ts) = t.2 + bts ts := by
      unfold bts
      rw [List.map_cons, List.sum_cons]
    rw [e]
    refine ⟨by omega, fun s hs => ?_⟩
    rcases List.mem_cons.mp hs with rfl | hs
    · omega
    · have := h2 s hs
      omega
theorem bts_le {c : Int} (hc : 0 ≤ c) : ∀ {ts : List Tn}, (∀ s ∈ ts, s.2 ≤ c) → bts ts ≤ c * (ts.length : Int)
  | [], _ => by simp [bts]
  | t :: ts, h => by
    have ih := bts_le hc (ts := ts) fun s hs => h s (List.mem_cons_of_mem _ hs)
    have h3 := h t List.mem_cons_self
    have e : bts (t :: ts) = t.2 + bts ts := by
      unfold bts
      rw [List.map_cons, List.sum_cons]
    rw [e, List.length_cons, Int.natCast_add, Int.mul_add]
    omega
structure Base (d : PyData) : Prop where
  ok : okT 10 (10 ^ 30) 40 2 d
  wt : d.weight ≤ 10000
structure Thing (d : PyData) : Prop where
  ok : okT 12 (10 ^ 30 + 2) 520 6 d
  wt : d.weight ≤ 70000
theorem Base.thing {d : PyData} (h : Base d) : Thing d := ⟨okT_up (by decide) (by decide) (by decide) (by decide) h.ok, by have := h.wt; omega⟩
theorem Thing.sh {d : PyData} (h : Thing d) : Sh 6 d := okT_sh (by decide) h.ok
theorem Thing.len {d : PyData} (h : Thing d) : ∀ ds, d = .list ds → ds.length ≤ 1000 := fun ds e => by
  subst e
  have := h.ok.1
  omega
theorem Thing.rep {d : PyData} (h : Thing d) : d.showable = true ∧ d.hasDict = false ∧ d.depth ≤ 60 ∧ d.shown.length ≤ sizeLine := by
  have f := h.sh
  refine ⟨f.sh, f.di, by have := f.dp; omega, ?_⟩
  have s := PyData.shown_le 40 (by decide) _ f.lv
  have w := h.wt
  rw [sizeLine_eq]
  omega
abbrev Again (d : PyData) : Prop := ∀ {R : PyData → Prop}, (∀ e, Thing e → R e) → F__law_otherwise__4 [.box, .dt d] R
theorem Base.bent {d : PyData} {Q : PyData → Prop} (h : Base d) (q : ∀ e, Thing e → Again e → Q e) : F__law_otherwise__4 [.box, .dt d] Q :=
  bent4_of (by decide) (by decide) (Nat.le_refl _) (by decide) (by decide) (by decide) h.ok (by decide) fun e ok w => q e ⟨okT_up (by decide) (by decide) (by decide) (by decide) ok, by have := h.wt; omega⟩ fun {R} r => bent4_of (by decide) (by decide) (by decide) (by decide) (by decide) (by decide) ok (by decide) fun e2 ok2 w2 => r e2 ⟨okT_up (by decide) (by decide) (by decide) (by decide) ok2, by have := h.wt; omega⟩
theorem base_of {ts : List Tn} (l : ts.length ≤ 10) (h : ∀ s ∈ ts, 1 ≤ s.2 ∧ s.2 ≤ 1000000) : Base (dT ts) := by
  have lim : (10 : Nat) ^ 30 = 1000000000000000000000000000000 := by decide
  have tf : Tx 40 (Str.ofString "forth") := tx_lit (by decide +kernel)
  have tb : Tx 40 (Str.ofString "back") := tx_lit (by decide +kernel)
  have tw : ∀ v : Bool, Tx 40 (wy v) := fun v => by
    cases v with
    | true => exact tf
    | false => exact tb
  refine ⟨⟨by rw [List.length_map]; exact l, fun d hd => ?_⟩, ?_⟩
  · obtain ⟨s, hs, rfl⟩ := List.mem_map.mp hd
    have := h s hs
    refine (show okT 10 (10 ^ 30) 40 1 (.tuple [.str (wy s.1), .int s.2]) from ⟨by show 2 ≤ 10; decide, fun d hd => ?_⟩)
    simp only [List.mem_cons, List.not_mem_nil, or_false] at hd
    rcases hd with rfl | rfl
    · exact ok_s (tw _)
    · exact ok_i (by omega)
  · have := w_all (c := 200) (ds := ts.map (tn true)) fun d hd => by
      obtain ⟨s, hs, rfl⟩ := List.mem_map.mp hd
      have := h s hs
      have a := w_i111 (i := s.2) (by omega)
      have b := w_str (tw s.1) (k := 40) (by decide)
      show (PyData.tuple [.str (wy s.1), .int s.2]).weight ≤ 200
      simp only [PyData.weight, PyData.weightAll] at a b ⊢
      omega
    rw [List.length_map] at this
    have e : (dT ts).weight = PyData.weightAll (ts.map (tn true)) := by
      show (PyData.list (ts.map (tn true))).weight = _
      rw [PyData.weight]
    rw [e]
    have : ts.length * (200 + 1) ≤ 10 * 201 := Nat.mul_le_mul_right _ l
    omega
section
variable {E : DEnds} {d : PyData}
abbrev Forg (d : PyData) (b : Bool) : Prop := ∀ {R : PyData → Prop}, R (.bool b) → F_is_forgotten [.dt d] R
theorem f0_of {o st : Sl} {s3 s4 : Sl} {a b : Bool} (td : Thing d) (q : ∀ s6 s7 s8 s9, E.nx [.box, o, st, s3, s4, .dt d, s6, s7, s8, s9]) :
    f__law_right_0 [.box, o, st, s3, s4, .dt d, .dt (.str d.shown), .dt (.bool a), .dt (.bool b), .dt (.list [.bool a, .bool a, .bool b, .bool b])] E := by
  unfold f__law_right_0
  refine same_of (x := .list [.bool a, .bool a, .bool b, .bool b]) rfl rfl ?_
  refine ⟨td.rep, ?_⟩
  show if (!decide (d.shown = d.shown)) = true then _ else _
  rw [decide_eq_true rfl, if_neg (by decide)]
  exact q _ _ _ _
theorem f1_of {o st : Sl} {s3 s4 s9 : Sl} {b : Bool} (td : Thing d) (hb : Forg d b) (q : ∀ s6 s7 s8 s9, E.nx [.box, o, st, s3, s4, .dt d, s6, s7, s8, s9]) :
    f__law_right_1 [.box, o, st, s3, s4, .dt d, .dt (.str d.shown), .dt (.bool (trB d)), .dt (.bool b), s9] E := by
  unfold f__law_right_1
  refine turnsA_of (by decide) td.sh td.len ?_
  refine (show 1 = 1 ∧ _ from ⟨rfl, turnsA_of (by decide) td.sh td.len ?_⟩)
  refine hb ?_
  refine (show 1 = 1 ∧ _ from ⟨rfl, hb ?_⟩)
  exact f0_of td q
theorem f2_of {o st : Sl} {s3 s4 s8 s9 : Sl} (td : Thing d) (q : ∀ s6 s7 s8 s9, E.nx [.box, o, st, s3, s4, .dt d, s6, s7, s8, s9]) :
    f__law_right_2 [.box, o, st, s3, s4, .dt d, .dt (.str d.shown), .dt (.bool (trB d)), s8, s9] E := by
  unfold f__law_right_2
  cases c : trB d with
  | false =>
    have hb : Forg d false := fun {R} r => forgA_of (by decide) td.sh td.len (fun ts e p => by rw [tr_iff.mpr ⟨ts, e, p⟩] at c; cases c) fun _ => r
    have z := f1_of (E := E) (o := o) (st := st) (s3 := s3) (s4 := s4) (s9 := s9) td hb q
    rw [c] at z
    exact z
  | true =>
    obtain ⟨ts, rfl, p⟩ := tr_iff.mp c
    have l := td.len _ rfl
    rw [List.length_map] at l
    have due := due_iff p
    have hb : Forg (dT ts) (decide (lft' ts = ts)) := fun {R} r => isForg_of l p r
    have z := f1_of (E := E) (o := o) (st := st) (s3 := s3) (s4 := s4) (s9 := s9) td hb q
    rw [c] at z
    refine (show F__law_joined [.dt (dT ts)] _ from lawJ_of l ?_)
    refine (show SeqAt.shaped (dT (jn ts)) = true ∧ SeqAt.shaped (dT ts) = true ∧ _ from ⟨shp_tn, shp_tn, ?_⟩)
    have ee : PyData.eqv (dT (jn ts)) (dT ts) = decide (jn ts = ts) := by
      show PyData.eqv (.list ((jn ts).map (tn true))) (.list (ts.map (tn true))) = _
      rw [PyData.eqv, eqv_ts]
    rw [ee]
    by_cases c1 : jn ts = ts
    · rw [decide_eq_true c1]
      refine (show F__law_spots [.dt (dT ts)] _ from spots_of l ?_)
      refine (show SeqAt.shaped (iq false (spi ts)) = true ∧ SeqAt.shaped (.list []) = true ∧ _ from ⟨shp_iq, by decide +kernel, ?_⟩)
      have ev : PyData.eqv (iq false (spi ts)) (.list []) = decide (spi ts = []) := by
        show PyData.eqv (.list ((spi ts).map PyData.int)) (.list []) = _
        cases spi ts <;> simp [PyData.eqv, PyData.eqvAll]
      rw [ev]
      have e : decide (spi ts = []) = decide (lft' ts = ts) := decide_eq_decide.mpr ⟨fun h => due.mpr ⟨c1, h⟩, fun h => (due.mp h).2⟩
      rw [e]
      exact z
    · rw [decide_eq_false c1]
      have e : decide (lft' ts = ts) = false := decide_eq_false fun h => c1 (due.mp h).1
      rw [e] at z
      exact z
theorem f3_of {o st : Sl} {s3 s4 s6 s7 s8 s9 : Sl} (td : Thing d) (q : ∀ s6 s7 s8 s9, E.nx [.box, o, st, s3, s4, .dt d, s6, s7, s8, s9]) :
    f__law_right_3 [.box, o, st, s3, s4, .dt d, s6, s7, s8, s9] E := by
  unfold f__law_right_3
  refine ⟨td.rep, ?_⟩
  refine (show F__law_are_turns [.dt d] _ from ownTurns_of td.len ?_)
  exact f2_of td q
theorem f4_of {o st : Sl} {k : Int} {s4 s6 s7 s8 s9 : Sl} (td : Thing d) (ag : 3 < k → Again d) (q : ∀ s5 s6 s7 s8 s9, E.nx [.box, o, st, .dt (.int k), s4, s5, s6, s7, s8, s9]) :
    f__law_right_4 [.box, o, st, .dt (.int k), s4, .dt d, s6, s7, s8, s9] E := by
  unfold f__law_right_4
  show if decide (3 < k) = true then _ else _
  by_cases c : 3 < k
  · rw [if_pos (decide_eq_true c)]
    refine take_of (n := 3) (by decide) (by decide) fun r r0 r1 => ?_
    show if decide (r = 0) = true then _ else _
    split
    · exact ag c fun e te => f3_of te fun s6 s7 s8 s9 => q _ _ _ _ _
    · exact f3_of td fun s6 s7 s8 s9 => q _ _ _ _ _
  · rw [if_neg (by rw [decide_eq_true_eq]; exact c)]
    exact f3_of td fun s6 s7 s8 s9 => q _ _ _ _ _
end
theorem pick3 {a b c : PyData} {k : Int} {P : PyData → Prop} (h0 : 0 ≤ k) (h1 : k < 3) (ha : P a) (hb : P b) (hc : P c) : atQ (L2.atI [a, b, c] k) P := by
  have z : k = 0 ∨ k = 1 ∨ k = 2 := by omega
  rcases z with rfl | rfl | rfl
  · exact ha
  · exact hb
  · exact hc
section
variable {Q : PyData → Prop}
theorem last_of {o st s3 s5 s6 s7 s8 s9 : Sl} (q : Q (.bool true)) : f__law_right_6 [.box, o, st, s3, .no, s5, s6, s7, s8, s9] (en Q) := by
  have i1 : ∀ {n : Nat} {k : Int}, k.natAbs ≤ 10 ^ 30 → okT 10 (10 ^ 30) 40 n (.int k) := fun h => ok_i h
  have tf : ∀ {n : Nat}, okT 10 (10 ^ 30) 40 n (.str "forth") := ok_s (tx_lit (by decide +kernel))
  have tF : ∀ {n : Nat}, okT 10 (10 ^ 30) 40 n (.str "Forth") := ok_s (tx_lit (by decide +kernel))
  have tup : ∀ {n : Nat} {ds : List PyData}, ds.length ≤ 10 → (∀ d ∈ ds, okT 10 (10 ^ 30) 40 n d) → okT 10 (10 ^ 30) 40 (n + 1) (.tuple ds) := fun h g => ⟨h, g⟩
  have lst : ∀ {n : Nat} {ds : List PyData}, ds.length ≤ 10 → (∀ d ∈ ds, okT 10 (10 ^ 30) 40 n d) → okT 10 (10 ^ 30) 40 (n + 1) (.list ds) := fun h g => ⟨h, g⟩
  have all : ∀ d ∈ [PyData.none, .tuple [], .tuple [.str "forth", .int 1], .list [.tuple [.str "forth", .int 0]], .list [.tuple [.str "forth", .bool true]], .list [.list [.str "forth", .int 1]], .list [.tuple [.str "forth"]], .list [.tuple [.str "Forth", .int 1]]], okT 10 (10 ^ 30) 40 2 d := by
    refine m1 ok_non (m1 (tup (by decide) m0) (m1 (tup (by decide) (m1 tf (m1 (i1 (by decide)) m0))) (m1 (lst (by decide) (m1 (tup (by decide) (m1 tf (m1 (i1 (by decide)) m0))) m0)) (m1 (lst (by decide) (m1 (tup (by decide) (m1 tf (m1 ok_bl m0))) m0)) (m1 (lst (by decide) (m1 (lst (by decide) (m1 tf (m1 (i1 (by decide)) m0))) m0)) (m1 (lst (by decide) (m1 (tup (by decide) (m1 tf m0)) m0)) (m1 (lst (by decide) (m1 (tup (by decide) (m1 tF (m1 (i1 (by decide)) m0))) m0)) m0)))))))
  have no : ∀ d ∈ [PyData.none, .tuple [], .tuple [.str "forth", .int 1], .list [.tuple [.str "forth", .int 0]], .list [.tuple [.str "forth", .bool true]], .list [.list [.str "forth", .int 1]], .list [.tuple [.str "forth"]], .list [.tuple [.str "Forth", .int 1]]], trB d = false := by decide +kernel
  unfold f__law_right_6
  show f__law_right_5 [.box, o, st, s3, .dt (.list [PyData.none, .tuple [], .tuple [.str "forth", .int 1], .list [.tuple [.str "forth", .int 0]], .list [.tuple [.str "forth", .bool true]], .list [.list [.str "forth", .int 1]], .list [.tuple [.str "forth"]], .list [.tuple [.str "Forth", .int 1]]]), s5, s6, s7, s8, s9] (en Q)
  unfold f__law_right_5
  refine (show 8 ≤ 1000000 ∧ _ from ⟨by decide, comp_of (fun _ => .bool false) _ [] (fun d hd P hp => ?_) ?_⟩)
  · have ok := all d hd
    have f := no d hd
    exact forgA_of (n := 2) (by decide) (okT_sh (by decide) ok) (fun ds e => by subst e; have := ok.1; omega) (fun ts e p => by rw [tr_iff.mpr ⟨ts, e, p⟩] at f; cases f) fun _ => hp
  refine (show (-(2 ^ 63) ≤ (8 : Int) ∧ (8 : Int) < 2 ^ 63 ∧ 1 * 8 ≤ 1000000) ∧ _ from ⟨⟨by decide, by decide, by decide⟩, ?_⟩)
  refine (show SeqAt.shaped (.list (List.replicate 8 (.bool false))) = true ∧ SeqAt.shaped (.list (List.replicate 8 (.bool false))) = true ∧ _ from ⟨by decide +kernel, by decide +kernel, ?_⟩)
  have ee : PyData.eqv (.list (List.replicate 8 (.bool false))) (.list (List.replicate 8 (.bool false))) = true := by decide +kernel
  show if PyData.eqv (.list (List.replicate 8 (.bool false))) (.list (List.replicate 8 (.bool false))) = true then _ else _
  rw [if_pos ee]
  refine (show F_is_forgotten [.dt (dT [])] _ from isForg_of (ts := []) (by decide) (fun _ h => nomatch h) ?_)
  exact q
theorem turn_of {ts hl : List Tn} (l1 : ts.length ≤ 9) (h1 : ∀ s ∈ ts, 1 ≤ s.2 ∧ s.2 ≤ 100) (l2 : hl.length ≤ 9) (h2 : ∀ s ∈ hl, 1 ≤ s.2 ∧ s.2 ≤ 100) (q : Q (.bool true)) :
    f__law_right_7 [.box, .dt (dT ts), .dt (.list [dT ts, dT (lft' ts), dT hl]), .no, .no, .no, .no, .no, .no, .no] (en Q) := by
  have p : Pos ts := fun s hs => (h1 s hs).1
  have B1 : Base (dT ts) := base_of (by omega) fun s hs => by have := h1 s hs; omega
  have B3 : Base (dT hl) := base_of (by omega) fun s hs => by have := h2 s hs; omega
  have bl := left_bts p.nng
  have lp := left_pos p
  have mb := mem_bts lp.nng
  have bb := bts_le (c := 100) (by decide) (ts := ts) fun s hs => (h1 s hs).2
  have B2 : Base (dT (lft' ts)) := base_of (by omega) fun s hs => by
    have := lp s hs
    have := mb.2 s hs
    omega
  generalize dT ts = S1 at B1
  generalize dT (lft' ts) = S2 at B2
  generalize dT hl = S3 at B3
  unfold f__law_right_7
  refine ⟨⟨by decide, by decide⟩, by rw [range_len]; decide, ?_⟩
  refine for_inv (fun ρ => ∃ s3 s5 s6 s7 s8 s9 : Sl, ρ = [.box, .dt S1, .dt (.list [S1, S2, S3]), s3, .no, s5, s6, s7, s8, s9]) _ _ (fun ρ d N i hd kk => ?_) ⟨_, _, _, _, _, _, rfl⟩ (fun ρ i => ?_)
  · obtain ⟨s3, s5, s6, s7, s8, s9, rfl⟩ := i
    obtain ⟨k, hk, rfl⟩ := range_mem hd
    have nx : ∀ s5 s6 s7 s8 s9 : Sl, N [.box, .dt S1, .dt (.list [S1, S2, S3]), .dt (.int (k : Nat)), .no, s5, s6, s7, s8, s9] := fun s5 s6 s7 s8 s9 => kk _ ⟨_, _, _, _, _, _, rfl⟩
    show if decide (((k : Nat) : Int) < 3) = true then _ else _
    by_cases c : ((k : Nat) : Int) < 3
    · rw [if_pos (decide_eq_true c)]
      have go : ∀ S, Base S → f__law_right_4 [.box, .dt S1, .dt (.list [S1, S2, S3]), .dt (.int (k : Nat)), .no, .dt S, s6, s7, s8, s9] { nx := N, rt := (en Q).rt, rl := (en Q).rl, ct := N, bk := fun ρ' => f__law_right_6 ρ' (en Q) } := fun S b => f4_of b.thing (fun h => by omega) nx
      exact (show atQ (L2.atI [S1, S2, S3] ((k : Nat) : Int)) _ from pick3 (by omega) c (go S1 B1) (go S2 B2) (go S3 B3))
    · rw [if_neg (by rw [decide_eq_true_eq]; exact c)]
      refine take_of (n := 3) (by decide) (by decide) fun r r0 r1 => ?_
      have go : ∀ S, Base S → F__law_otherwise__4 [.box, .dt S] fun e => f__law_right_4 [.box, .dt S1, .dt (.list [S1, S2, S3]), .dt (.int (k : Nat)), .no, .dt e, s6, s7, s8, s9] { nx := N, rt := (en Q).rt, rl := (en Q).rl, ct := N, bk := fun ρ' => f__law_right_6 ρ' (en Q) } := fun S b => b.bent fun e te ag => f4_of te (fun _ => ag) nx
      exact (show atQ (L2.atI [S1, S2, S3] r) _ from pick3 r0 r1 (go S1 B1) (go S2 B2) (go S3 B3))
  · obtain ⟨s3, s5, s6, s7, s8, s9, rfl⟩ := i
    exact last_of q
theorem right_of (q : Q (.bool true)) : F__law_right [.box] Q := by
  unfold F__law_right
  refine ⟨rfl, ?_⟩
  unfold f__law_right
  refine (show F__law_of [.box, .dt (.list [.int 1, .int 3, .int 9])] _ from one_of_ (by show 0 < 3; decide) (by show 3 < 1000; decide) fun d hd => ?_)
  obtain ⟨m, rfl, m0, m1⟩ : ∃ m : Nat, d = .int (m : Nat) ∧ 0 < m ∧ m ≤ 9 := by
    simp only [List.mem_cons, List.not_mem_nil, or_false] at hd
    rcases hd with rfl | rfl | rfl
    · exact ⟨1, rfl, by decide, by decide⟩
    · exact ⟨3, rfl, by decide, by decide⟩
    · exact ⟨9, rfl, by decide, by decide⟩
  refine (show F__law_turns [.box, .dt (.int ((9 : Nat) : Int)), .dt (.int (m : Nat))] _ from turns_of (by decide) m0 (by omega) fun ts l1 h1 => ?_)
  show f__law_right_8 [.box, .dt (dT ts), .no, .no, .no, .no, .no, .no, .no, .no] (en Q)
  unfold f__law_right_8
  refine (show F_forgotten [.dt (sqd false (ts.map (tn true)))] _ from forgotten_of (kr := false) (kp := true) (by omega) (fun s hs => by have := h1 s hs; omega) ?_)
  refine (show F__law_hill [.box] _ from hill_of fun hl l2 h2 => ?_)
  exact turn_of l1 (fun s hs => by have := h1 s hs; omega) l2 h2 q
end
theorem law_true (ns : List Int) (hl : ns.length ≤ 63) : F_law [.scr ns] (fun d => d = .bool true) := by
  unfold F_law
  refine ⟨rfl, law_for (rest := [.no, .no, .no]) ⟨by decide, by decide⟩ (fun ρ => ∃ s1 s2 s3, ρ = [.scr ns, s1, s2, s3]) ⟨_, _, _, rfl⟩ (fun ρ k N i hk kk => ?_) (fun ρ i => ?_)⟩
  · obtain ⟨s1, s2, s3, rfl⟩ := i
    refine (show (0 ≤ ((k : Nat) : Int) ∧ ((k : Nat) : Int) ≤ 1000) ∧ _ from ⟨⟨by omega, by omega⟩, ?_⟩)
    refine ⟨⟨by decide, by decide⟩, by decide, ?_⟩
    refine right_of ?_
    refine right_of ?_
    refine right_of ?_
    refine right_of ?_
    refine ⟨[true, true, true, true], rfl, ?_⟩
    exact kk _ ⟨_, _, _, rfl⟩
  · obtain ⟨s1, s2, s3, rfl⟩ := i
    rfl
end Kd
namespace Wl
open PySem PySem.Spec PyProof.Rows L2
theorem en_nolen : typeLookup (.type "enumerate") "__len__" = pure none := by rw [typeLookup_type, builtinLookup_eq_fast]; kernel_rfl
theorem en_nohint : typeLookup (.type "enumerate") "__length_hint__" = pure none := by rw [typeLookup_type, builtinLookup_eq_fast]; kernel_rfl
def At (h : Heap) (e it l S : Addr) (items : Array Value) (i : Nat) : Prop :=
  h.IsListIter it l i ∧ h.IsList l items ∧ ((∃ old, IsEnum h e it i old) ∨ ∃ old T f oT, IsEnumHeld h e it i old T f ∧ h.get? T = some oT ∧ T ≠ e ∧ T ≠ it ∧ T ≠ S)
structure Told (h : Heap) (lo : Nat) (items acc : Array Value) (ts : List Addr) : Prop where
  acc : acc.toList = ts.map Value.ref
  above : ∀ t ∈ ts, lo ≤ t
  nd : ts.Nodup
  at_ : ∀ (j : Nat) (t : Addr), ts[j]? = some t → ∃ u x, items[j]? = some x ∧ h.get? t = some { cls := .type "tuple", data := .seq #[.int j u, x] }
abbrev LstO (acc : Array Value) (c : Nat) : Obj := { cls := .type "list", dict := none, data := .seq acc c, slots := #[] }
section
variable {prog : Program} {w : World} {A : Around} {R : Result → Shared → Prop} {e it l S : Addr} {items : Array Value} {lo : Nat}
theorem loop (hh : A.handled = none) (hei : e ≠ it) (hle : l ≠ e) (hli : l ≠ it) (hSe : S ≠ e) (hSi : S ≠ it) (hSl : S ≠ l) (le : e < lo) (li : it < lo) (lS : S < lo) (res : Value) (hn : items.size ≤ 1000000) :
    ∀ (k i : Nat) (s : Shared) (acc : Array Value) (c : Nat) (ts : List Addr), items.size - i = k → i ≤ items.size → lo ≤ s.heap.objs.size → At s.heap e it l S items i → s.heap.get? S = some (LstO acc c) → ts.length = i → Told s.heap lo items acc ts →
      (∀ (h' : Heap) (tk : Nat) (acc' : Array Value) (c' : Nat) (ts' : List Addr), (∀ b o, b < lo → b ≠ e → b ≠ it → b ≠ S → s.heap.get? b = some o → h'.get? b = some o) → h'.get? S = some (LstO acc' c') → ts'.length = items.size → Told h' lo items acc' ts' → R (.ok (.ret res)) { s with heap := h', toks := tk }) →
      codeAny (model prog w) A (.builtin "list.extend.loop" ⟨[.ref S, .ref e, res], []⟩) R s := by
  intro k
  induction k with
  | zero =>
    intro i s acc c ts hk hi hlo st hS hl T hR
    obtain ⟨hit, hlst, he⟩ := st
    have ex : items[i]? = none := Array.getElem?_eq_none (by omega)
    refine codeAny_builtin F.entry_extend_loop ?_
    rw [Around.under_plainId F.plain_extend_loop _]
    show wpAny _ A.in1 (pyNext (.ref e) >>= fun _ => _) _ _ s
    have fin : ∀ h', Heap.ExtBut it s.heap h' → R (.ok (.ret res)) { s with heap := h' } := fun h' x =>
      hR h' s.toks acc c ts (fun b o _ _ n2 _ y => x b o n2 y) (x S _ hSi hS) (by omega) ⟨T.acc, T.above, T.nd, fun j t y => let ⟨u, v, a, b⟩ := T.at_ j t y; ⟨u, v, a, x t _ (fun z => by have := T.above t (List.mem_of_getElem? y); rw [z] at this; exact absurd li (Nat.not_lt.mpr this)) b⟩⟩
    rcases he with ⟨old, he⟩ | ⟨old, T1, f, oT, he, hT, r1, r2, r3⟩
    · exact wpAny_bind (wpAny_pyNext_enum_end (A := A.in1) hh he hit hlst ex fun h' x => wpAny_pure (fin h' x))
    · exact wpAny_bind (wpAny_pyNext_enum_end_held (A := A.in1) hh he hit hlst ex fun h' x => wpAny_pure (fin h' x))
  | succ k ih =>
    intro i s acc c ts hk hi hlo st hS hl T hR
    obtain ⟨hit, hlst, he⟩ := st
    have lt : i < items.size := by omega
    have ex := Array.getElem?_eq_getElem lt
    refine codeAny_builtin F.entry_extend_loop ?_
    rw [Around.under_plainId F.plain_extend_loop _]
    show wpAny _ A.in1 (pyNext (.ref e) >>= fun _ => _) _ _ s
    have accn : acc.size = i := by
      have := congrArg List.length T.acc
      rw [List.length_map, Array.length_toList] at this
      omega
    have go : ∀ (h' : Heap) (tk : Nat) (u : Tok), h'.IsListIter it l (i + 1) → ((∃ old, IsEnum h' e it ((i + 1 : Nat) : Int) old) ∨ ∃ old T f oT, IsEnumHeld h' e it ((i + 1 : Nat) : Int) old T f ∧ h'.get? T = some oT ∧ T ≠ e ∧ T ≠ it ∧ T ≠ S) →
        h'.get? s.heap.objs.size = some { cls := .type "tuple", data := .seq #[.int i u, items[i]] } → h'.objs.size = s.heap.objs.size + 1 → (∀ b o, b ≠ e → b ≠ it → s.heap.get? b = some o → h'.get? b = some o) →
        wpAny (model prog w) A.in1 (updateSeq S (·.push (.ref s.heap.objs.size)) >>= fun _ => again (.builtin "list.extend.loop" ⟨[.ref S, .ref e, res], []⟩))
          (fun fin s' => match fin with | .done f => R (.ok f) s' | .again c' => c'.quiet = true ∧ codeAny (model prog w) A c' R s') (fun e s' => R (.error e) s') { s with heap := h', toks := tk } := fun h' tk u hit' he' hT hsz hk' => by
      have hS' := hk' S _ hSe hSi hS
      have oth : ∀ b o, b ≠ S → h'.get? b = some o → (h'.update S (Obj.mapSeq (·.push (.ref s.heap.objs.size)))).get? b = some o := fun b o hb y => (Heap.get?_update_other _ _ (Ne.symm hb)).trans y
      have up := Heap.get?_update_self (Obj.mapSeq (·.push (Value.ref s.heap.objs.size))) hS' rfl
      have nS : s.heap.objs.size ≠ S := fun z => by rw [z] at hlo; exact absurd lS (Nat.not_lt.mpr hlo)
      have upz : (h'.update S (Obj.mapSeq (·.push (.ref s.heap.objs.size)))).objs.size = h'.objs.size := Heap.size_update ..
      refine wpAny_bind (wpAny_updateSeq hS' rfl (wpAny_pure ⟨plainId_quiet F.plain_extend_loop _, ?_⟩) (by show acc.size ≤ sizeLine; rw [accn]; exact Nat.le_trans (Nat.le_of_lt (Nat.lt_of_lt_of_le lt hn)) (by decide)) (by show (acc.push _).size ≤ sizeLine + 1; rw [Array.size_push, accn]; exact Nat.succ_le_succ (Nat.le_trans (Nat.le_of_lt (Nat.lt_of_lt_of_le lt hn)) (by decide))))
      refine ih (i + 1) _ (acc.push (.ref s.heap.objs.size)) _ (ts ++ [s.heap.objs.size]) (by omega) lt ?_ ⟨?_, ?_, ?_⟩ up (by rw [List.length_append, hl]; rfl) ⟨?_, ?_, ?_, ?_⟩ fun h2 tk2 acc2 c2 ts2 kp q1 q2 q3 => hR h2 tk2 acc2 c2 ts2 (fun b o b1 b2 b3 b4 y => kp b o b1 b2 b3 b4 (oth b o b4 (hk' b o b2 b3 y))) q1 q2 q3
      · show lo ≤ (h'.update S _).objs.size
        rw [upz, hsz]
        omega
      · exact hit'.at fun o y => oth it o (Ne.symm hSi) y
      · exact (hlst.at fun o y => hk' l o hle hli y).at fun o y => oth l o (Ne.symm hSl) y
      · rcases he' with ⟨old, y⟩ | ⟨old, T1, f, oT, y, hT1, r1, r2, r3⟩
        · exact .inl ⟨old, oth _ _ (Ne.symm hSe) y⟩
        · exact .inr ⟨old, T1, f, oT, oth _ _ (Ne.symm hSe) y, oth _ _ r3 hT1, r1, r2, r3⟩
      · rw [Array.toList_push, T.acc, List.map_append]
        rfl
      · intro t m
        rcases List.mem_append.mp m with m | m
        · exact T.above t m
        · rw [List.mem_singleton.mp m]
          exact hlo
      · refine List.nodup_append.mpr ⟨T.nd, List.nodup_cons.mpr ⟨List.not_mem_nil, .nil⟩, fun a ma b mb z => ?_⟩
        rw [List.mem_singleton.mp mb] at z
        obtain ⟨j, hj⟩ := List.mem_iff_getElem?.mp ma
        obtain ⟨_, _, _, y⟩ := T.at_ j a hj
        rw [z] at y
        exact absurd (Heap.lt_size y) (Nat.lt_irrefl _)
      · intro j t y
        by_cases hj : j < ts.length
        · rw [List.getElem?_append_left hj] at y
          obtain ⟨u', x, a, b⟩ := T.at_ j t y
          have la := T.above t (List.mem_of_getElem? y)
          have n1 : t ≠ e := fun z => by rw [z] at la; exact absurd le (Nat.not_lt.mpr la)
          have n2 : t ≠ it := fun z => by rw [z] at la; exact absurd li (Nat.not_lt.mpr la)
          have n3 : t ≠ S := fun z => by rw [z] at la; exact absurd lS (Nat.not_lt.mpr la)
          exact ⟨u', x, a, oth t _ n3 (hk' t _ n1 n2 b)⟩
        · rw [List.getElem?_append_right (by omega)] at y
          have z : j - ts.length = 0 := by
            cases q : j - ts.length with
            | zero => rfl
            | succ m => rw [q] at y; simp at y
          rw [z] at y
          cases y
          have ej : j = i := by omega
          subst ej
          exact ⟨u, _, ex, oth _ _ nS hT⟩
    have ec : ((i + 1 : Nat) : Int) = (i : Int) + 1 := by omega
    have nit : s.heap.objs.size ≠ it := let ⟨_, x, _⟩ := hit; Nat.ne_of_gt (Heap.lt_size x)
    have nS : s.heap.objs.size ≠ S := Nat.ne_of_gt (Heap.lt_size hS)
    rcases he with ⟨old, he⟩ | ⟨old, T1, f, oT, he, hT, r1, r2, r3⟩
    · refine wpAny_bind (wpAny_pyNext_enum_item (A := A.in1) he hit hlst ex hei fun h' ho hit' hT hsz hk' => ?_)
      exact go h' _ _ hit' (.inr ⟨_, s.heap.objs.size, false, _, by rw [ec]; exact ho, hT, Nat.ne_of_gt (Heap.lt_size he), nit, nS⟩) hT hsz hk'
    · refine wpAny_bind (wpAny_pyNext_enum_item_held (A := A.in1) he hT r1 r2 hit hlst ex hei fun h' ho hit' hT' hsz hk' => ?_)
      exact go h' _ _ hit' (.inr ⟨old, T1, true, oT, by rw [ec]; exact ho, hk' _ _ r1 r2 hT, r1, r2, r3⟩) hT' hsz hk'
end
section
variable {prog : Program} {w : World} {A : Around} {E : Value → Shared → Prop} {s : Shared} {e it l : Addr} {items : Array Value}
theorem hint {A : Around} {E : Value → Shared → Prop} {Q : Bool → Shared → Prop} (hT : s.TypeIs (.ref e) "enumerate") (h : Q true s) : wpAny (model prog w) A (Builtin.List.listLengthHint (.ref e)) Q E s := by
  unfold Builtin.List.listLengthHint
  refine wpAny_bind (wpAny_specialOf hT en_nolen ?_)
  show wpAny _ A (specialOf (Value.ref e) (Str.ofString "__length_hint__") >>= _) _ _ _
  exact wpAny_bind (wpAny_specialOf hT en_nohint (wpAny_pure h))
theorem call {Q : Value → Shared → Prop} (hh : A.handled = none) (he : IsEnum s.heap e it 0 .none) (hit : s.heap.IsListIter it l 0) (hl : s.heap.IsList l items) (hei : e ≠ it) (hle : l ≠ e) (hli : l ≠ it) (hn : items.size ≤ 1000000)
    (q : ∀ (h' : Heap) (tk : Nat) (acc : Array Value) (c : Nat) (ts : List Addr), (∀ b o, b ≠ e → b ≠ it → s.heap.get? b = some o → h'.get? b = some o) → h'.get? s.heap.objs.size = some (LstO acc c) → ts.length = items.size → Told h' (s.heap.objs.size + 1) items acc ts → Q (.ref s.heap.objs.size) { s with heap := h', toks := tk }) :
    wpAny (model prog w) A (PySem.call (.type "list") [.ref e]) Q E s := by
  have le := Heap.lt_size he
  have li : it < s.heap.objs.size := let ⟨_, x, _⟩ := hit; Heap.lt_size x
  have ll : l < s.heap.objs.size := let ⟨_, x, _⟩ := hl; Heap.lt_size x
  refine callType_codes (Q₁ := fun obj s1 => obj = .ref s.heap.objs.size ∧ s1 = { s with heap := s.heap.push { cls := .type "list", data := .seq #[] } }) F.called_list (F.typeCall_list_1 _) F.entry_list_init (code_list_new _ ⟨rfl, rfl⟩) fun obj s1 h1 => ?_
  obtain ⟨rfl, rfl⟩ := h1
  have S0 : (s.heap.push { cls := .type "list", data := .seq #[] }).get? s.heap.objs.size = some { cls := .type "list", data := .seq #[] } := Heap.get?_push_size _ rfl
  have old0 : ∀ b o, s.heap.get? b = some o → (s.heap.push { cls := .type "list", data := .seq #[] }).get? b = some o := fun b o y => Heap.get?_push_of_some _ y
  refine ⟨⟨_, S0, rfl⟩, F.args_list_init_2 _ _, ?_⟩
  show wpAny _ A.in1.in1 (do let old ← Builtin.List.listItems (.ref s.heap.objs.size); Builtin.List.listUpdate (.ref s.heap.objs.size) (fun _ => #[]); letGo old.toList.reverse; Builtin.List.listExtendWith (.ref s.heap.objs.size) (.ref e) .none) _ _ _
  refine wpAny_bind ?_
  unfold Builtin.List.listItems
  refine wpAny_bind (wpAny_seqItems S0 rfl (wpAny_pure ?_))
  refine wpAny_bind (wpAny_updateSeq S0 rfl ?_)
  have S1 := Heap.get?_update_self (Obj.mapSeq (fun _ => (#[] : Array Value))) S0 rfl
  have old1 : ∀ b o, s.heap.get? b = some o → ((s.heap.push { cls := .type "list", data := .seq #[] }).update s.heap.objs.size (Obj.mapSeq (fun _ => (#[] : Array Value)))).get? b = some o := fun b o y => (Heap.get?_update_other _ _ (Nat.ne_of_gt (Heap.lt_size y))).trans (old0 b o y)
  have z1 : ((s.heap.push { cls := .type "list", data := .seq #[] }).update s.heap.objs.size (Obj.mapSeq (fun _ => (#[] : Array Value)))).objs.size = s.heap.objs.size + 1 := by rw [Heap.size_update, Heap.size_push]
  refine wpAny_bind (wpAny_letGo ?_)
  generalize hg1 : (s.heap.push { cls := .type "list", data := .seq #[] }).update s.heap.objs.size (Obj.mapSeq (fun _ => (#[] : Array Value))) = g1 at S1 old1 z1
  have ty1 : ({ s with heap := g1 } : Shared).TypeIs (.ref e) "enumerate" := ⟨_, old1 _ _ he, rfl⟩
  unfold Builtin.List.listExtendWith
  refine wpAny_bind (wpAny_typeOf ty1 ?_)
  have n1 : Builtin.List.listSameRef (.ref s.heap.objs.size) (.ref e) = false := by simp [Builtin.List.listSameRef, Nat.ne_of_gt le]
  have n2 : (Value.type "enumerate" == Value.type "list") = false := by decide
  have n3 : (Value.type "enumerate" == Value.type "tuple") = false := by decide
  simp only [n1, n2, n3, Bool.or_false, Bool.false_eq_true, if_false]
  refine wpAny_bind (wpAny_pyIter_enum (s := { s with heap := g1 }) (old1 _ _ he) ?_)
  refine wpAny_bind (wpAny_holding (hint (s := { s with heap := g1 }) ty1 ?_))
  show wpAny _ A.in1.in1 (rule "list.extend.makes-room" >>= fun _ => Builtin.List.listTouch (.ref s.heap.objs.size) >>= fun _ => again (.builtin "list.extend.loop" ⟨[.ref s.heap.objs.size, .ref e, .none], []⟩)) _ _ _
  refine wpAny_bind (wpAny_rule (wpAny_bind ?_))
  show wpAny _ A.in1.in1 (updateSeq s.heap.objs.size (·.push .none) >>= fun _ => updateSeq s.heap.objs.size (·.pop)) _ _ _
  refine wpAny_bind (wpAny_updateSeq (s := { s with heap := g1 }) S1 rfl ?_)
  have S2 := Heap.get?_update_self (Obj.mapSeq (·.push Value.none)) S1 rfl
  refine wpAny_updateSeq S2 rfl ?_
  have S3 := Heap.get?_update_self (Obj.mapSeq (·.pop)) S2 rfl
  have old3 : ∀ b o, s.heap.get? b = some o → ((g1.update s.heap.objs.size (Obj.mapSeq (·.push Value.none))).update s.heap.objs.size (Obj.mapSeq (·.pop))).get? b = some o := fun b o y =>
    (Heap.get?_update_other _ _ (Nat.ne_of_gt (Heap.lt_size y))).trans ((Heap.get?_update_other _ _ (Nat.ne_of_gt (Heap.lt_size y))).trans (old1 b o y))
  have z3 : ((g1.update s.heap.objs.size (Obj.mapSeq (·.push Value.none))).update s.heap.objs.size (Obj.mapSeq (·.pop))).objs.size = s.heap.objs.size + 1 := by rw [Heap.size_update, Heap.size_update, z1]
  refine wpAny_pure ⟨plainId_quiet F.plain_extend_loop _, loop (A := A.in1) (lo := s.heap.objs.size + 1) hh hei hle hli (Nat.ne_of_gt le) (Nat.ne_of_gt li) (Nat.ne_of_gt ll) (Nat.lt_succ_of_lt le) (Nat.lt_succ_of_lt li) (Nat.lt_succ_self _) .none hn items.size 0 _ _ _ [] (Nat.sub_zero _) (Nat.zero_le _) (Nat.le_of_eq z3.symm) ⟨hit.at fun o y => old3 _ o y, hl.at fun o y => old3 _ o y, .inl ⟨_, old3 _ _ he⟩⟩ S3 rfl ⟨rfl, fun t m => (nomatch m), .nil, fun j t y => by simp at y⟩ fun h' tk acc' c' ts' kp hS' hlen hT => ?_⟩
  refine ⟨rfl, q h' tk acc' c' ts' (fun b o b1 b2 y => kp b o (Nat.lt_succ_of_lt (Heap.lt_size y)) b1 b2 (Nat.ne_of_lt (Heap.lt_size y)) (old3 b o y)) hS' hlen hT⟩
end
end Wl
namespace Dv
open PySem PySem.Spec PyProof.Rows L2 Xg
open Classical
section
variable {K : PySem.W.Frag} {ta : TE} {ca : Nat} {fa : FE} {md : Bool}
end
end Dv
namespace Dv
open PySem PySem.Spec PyProof.Rows L2 Xg NdefX
section
variable {P : Program} {w : World} {K : PySem.W.Frag} {mg : Str → Option Value} {base : Heap}
end
theorem tabIn_none {K : PySem.W.Frag} {x : Str} (a : PySem.W.nsIn K mainGlobals x = some none) : PySem.W.tabIn K x = none := by
  unfold PySem.W.tabIn
  rw [a]
def tabsOf (K : PySem.W.Frag) : List (Addr × Addr) := lamDefs.filterMap fun x => PySem.W.tabIn K x
theorem tbs_nil {K : PySem.W.Frag} {H : Hp} (h : ∀ p ∈ tabsOf K, H p.2 = some (.tbl #[])) : Tbs K H := fun p hp => by
  unfold Tof at hp
  obtain ⟨x, hx, e⟩ := List.mem_filterMap.mp hp
  cases q : PySem.W.tabIn K x with
  | none => rw [q] at e; cases e
  | some r =>
    rw [q] at e
    cases e
    exact LamX.TabS.nil (h r (List.mem_filterMap.mpr ⟨x, hx, q⟩))
theorem lawGT {P : Program} {w : World} {K : PySem.W.Frag} {mg mb : Str → Option Value} {k : Nat} {fa a : Addr} {fd : FuncData} {x : Str} {sp : Sp} {s1 : Shared} {vs : List Value} {ns : List Int}
    (inK : K.In s1.heap) (gl : s1.heap.Ns mainGlobals mg) (bl : s1.heap.Ns builtinsNs mb) (bb : ∀ x : Str, x ≠ "__name__" → mb x = bootBuiltins x) (noL : s1.heap.NoLimit) (gn : s1.gens = #[])
    (tb : ∀ p ∈ tabsOf K, s1.heap.get? p.2 = some { cls := .none, data := .fields #[] }) (tk : ∀ p ∈ tabsOf K, K.lookup p.2 = none) (tc : ∀ p ∈ tabsOf K, PySem.W.CodeHd s1.heap p.1 p.2)
    (bm : ∃ (m : Addr) (ob : Obj), mg "__builtins__" = some (.ref m) ∧ m ≠ builtinsNs ∧ s1.heap.get? m = some ob ∧ ob.cls = .type "module" ∧ ob.dict = some builtinsNs ∧ ob.data = .plain)
    (at_ : s1.heap.get? a = some { cls := .type "list", data := .seq vs.toArray }) (are : IntsAre vs ns) (few : ns.length ≤ sizeLine) (rm : Room k callerA)
    (F : ∀ base : Heap, K.In base → base.Ns mainGlobals mg → (∀ p ∈ tabsOf K, LamX.TabB base mg p.1 p.2) → FnG P w K mg base k fa fd [x] sp) (bd : ∀ (s : Shared) (u : Value), BindsTo s fd ⟨[u], []⟩ [(x, u)])
    (hsp : ∀ H : Hp, Tbs K H → SqL K H a (ns.map V.int) → sp [.ref a] H (fun v _ => v = .bl true) E0) :
    codeAny (model P w) callerA (.call (.ref fa) ⟨[.ref a], []⟩) (fun r s' => r = .ok (.ret (.bool true)) ∧ OldK s1.heap s'.heap ∧ s'.os = s1.os ∧ AllBare s'.gens) s1 := by
  have rel := L2.vals_ints are
  have ln := are.length
  let TA : List Addr := (tabsOf K).map (·.2)
  have tat : ∀ b, b ∈ TA → s1.heap.get? b = some { cls := .none, data := .fields #[] } := fun b hb => by
    obtain ⟨p, hp, rfl⟩ := List.mem_map.mp hb
    exact tb p hp
  have aT : a ∉ TA := fun z => by
    have q := tat a z
    rw [at_] at q
    have z1 : Data.seq vs.toArray _ = Data.fields #[] := congrArg Obj.data (Option.some.inj q)
    cases z1
  have main : ∀ H : Hp, (∀ p ∈ tabsOf K, H p.2 = some (.tbl #[])) → (∀ b, b ∉ TA → H b = none ∨ ∃ o xs, H b = some (.frz o (.lst xs))) → SqL K H a (ns.map V.int) → HOk P w H s1.heap → (∀ b, H b ≠ none → b = a ∨ b ∈ TA) → (H a ≠ none → K.lookup a = none) →
      codeAny (model P w) callerA (.call (.ref fa) ⟨[.ref a], []⟩) (fun r s' => r = .ok (.ret (.bool true)) ∧ OldK s1.heap s'.heap ∧ s'.os = s1.os ∧ AllBare s'.gens) s1 := by
    intro H tabs only sq ok here off
    have hid : ∀ {b : Addr} {o : Obj}, s1.heap.get? b = some o → H b = none → (hidT s1.heap H).get? b = some o := fun e n => hidT_get e n
    -- what is neither a list nor a bare record is untold
    have untold : ∀ {b : Addr} {o : Obj}, s1.heap.get? b = some o → (∀ us n, o.data ≠ .seq us n) → o.data ≠ .fields #[] → H b = none := fun {b o} e n1 n2 => by
      cases z : H b with
      | none => rfl
      | some u =>
        rcases here b (by rw [z]; simp) with e1 | m
        · subst e1
          rw [at_] at e
          cases e
          exact absurd rfl (n1 _ _)
        · rw [tat b m] at e
          cases e
          exact absurd rfl n2
    have dictFree : ∀ {b : Addr} {o : Obj} {es : Array DictEntry} {ep : Nat}, s1.heap.get? b = some o → o.data = .dict es ep → H b = none := fun {b o es ep} e d =>
      untold e (fun us n z => by rw [d] at z; cases z) fun z => by rw [d] at z; cases z
    have nsOk : ∀ {b : Addr} {m : Str → Option Value}, s1.heap.Ns b m → (hidT s1.heap H).Ns b m := fun {b m} ⟨o, es, ep, e, d, r⟩ => ⟨o, es, ep, hid e (dictFree e d), d, r⟩
    have inB : K.In (hidT s1.heap H) := fun b o e => hid (inK b o e) (by
      cases z : H b with
      | none => rfl
      | some u =>
        rcases here b (by rw [z]; simp) with e1 | m
        · subst e1
          rw [off (by rw [z]; simp)] at e
          cases e
        · obtain ⟨p, hp, rfl⟩ := List.mem_map.mp m
          rw [tk p hp] at e
          cases e)
    have md : Mod K mg (hidT s1.heap H) := ⟨inB, nsOk gl, ⟨mb, nsOk bl, bb⟩, let ⟨mc, h1, h2⟩ := noL; ⟨mc, nsOk h1, h2⟩⟩
    have tbb : ∀ p ∈ tabsOf K, LamX.TabB (hidT s1.heap H) mg p.1 p.2 := fun p hp => by
      refine ⟨?_, ?_, fun z => ?_⟩
      · obtain ⟨o, us, fl, tf, fg, tg, inF, tx, tt, e1, r1, r2, r3, rest⟩ := tc p hp
        refine ⟨o, us, fl, tf, fg, tg, inF, tx, tt, hid e1 (untold e1 (fun us' n z => by rw [r2] at z; cases z) fun z => ?_), r1, r2, r3, rest⟩
        rw [r2] at z
        cases z
        simp at r3
      · obtain ⟨m, ob, b1, b2, b3, b4, b5, b6⟩ := bm
        refine ⟨m, ob, b1, b2, fun z => ?_, fun z => ?_, hid b3 (untold b3 (fun us n z => by rw [b6] at z; cases z) fun z => by rw [b6] at z; cases z), b4, b5, b6⟩
        · obtain ⟨o, es, ep, e, hd, _⟩ := gl
          rw [z, e] at b3
          cases b3
          rw [hd] at b6
          cases b6
        · rw [z, tb p hp] at b3
          cases b3
          cases b6
      · obtain ⟨o, es, ep, e, hd, _⟩ := gl
        rw [z, tb p hp] at e
        cases e
        cases hd
    have ev : Env0 P w K mg (hidT s1.heap H) callerA [] s1 H :=
      ⟨rfl, md, fun b o e => of_hidT e, Nat.le_of_eq (hidT_size _ _), trivial, fun b hb => absurd (show b ∈ ([] : List Addr) from hb) (by simp), ok, .of_eq gn⟩
    refine codeAny_mono ((F _ inB (nsOk gl) tbb).run callerA [] s1 H ⟨[.ref a], []⟩ [.ref a] [.ref a] _ rfl rm ev (bd s1 (.ref a)) (.cons rfl .nil) (hsp H (tbs_nil tabs) sq)) fun r s' h => ?_
    cases r with
    | error e => exact h.elim
    | ok fl =>
      cases fl with
      | next => exact False.elim h
      | brk => exact False.elim h
      | cont => exact False.elim h
      | ret u =>
        obtain ⟨v, H', os, bare, un, ok', rv, z⟩ := h
        obtain rfl : v = .bl true := z
        obtain rfl : u = Value.bool true := rv
        have stay : ∀ b o, b ∉ TA → s1.heap.get? b = some o → s'.heap.get? b = some o := fun b o nb e => by
          rcases only b nb with n | ⟨ob, xs, z⟩
          · exact un.keep b o e n (fun z => absurd (show b ∈ ([] : List Addr) from z) (by simp)) (by simp)
          · have z2 := un.frzs b ob _ z
            obtain ⟨e1, _⟩ := ok b _ z
            obtain ⟨e2, _⟩ := ok' b _ z2
            rw [e] at e1
            cases e1
            exact e2
        have grew : ∀ p ∈ tabsOf K, ∃ more : Array Value, s'.heap.get? p.2 = some { cls := .none, data := .fields more } := fun p hp => by
          obtain ⟨more, z⟩ := un.tbls p.2 #[] (tabs p hp)
          exact ⟨_, ok' p.2 _ z⟩
        refine ⟨rfl, ⟨fun b o e => ?_, fun b o e => ?_⟩, os, bare⟩
        · by_cases m : b ∈ TA
          · obtain ⟨p, hp, rfl⟩ := List.mem_map.mp m
            obtain ⟨more, hm⟩ := grew p hp
            rw [tb p hp] at e
            cases e
            exact .inr (.inl ⟨((tc p hp).tab (tb p hp)).isCodeTable, rfl, #[], more, rfl, by rw [Array.empty_append]; exact hm⟩)
          · exact .inl (stay b o m e)
        · by_cases m : b ∈ TA
          · obtain ⟨p, hp, rfl⟩ := List.mem_map.mp m
            obtain ⟨more, hm⟩ := grew p hp
            exact ⟨_, hm⟩
          · exact ⟨o, stay b o m e⟩
  cases lk : K.lookup a with
  | some o =>
    have e := inK a o lk
    rw [at_] at e
    cases e
    refine main (fun b => if b ∈ TA then some (.tbl #[]) else none) (fun p hp => if_pos (List.mem_map.mpr ⟨p, hp, rfl⟩)) (fun b nb => .inl (if_neg nb)) (.inr ⟨_, vs.toArray, _, lk, rfl, rfl, rfl, by rw [List.size_toArray, ln]; exact few, by simpa using rel⟩)
      (fun b u z => ?_) (fun b z => ?_) fun z => absurd (if_neg aT) z
    · by_cases m : b ∈ TA
      · have z1 := (if_pos m).symm.trans z
        cases z1
        exact tat b m
      · have z1 := (if_neg m).symm.trans z
        cases z1
    · by_cases m : b ∈ TA
      · exact .inr m
      · exact absurd (if_neg m) z
  | none =>
    refine main (fun b => if b = a then some (.frz { cls := .type "list", data := .seq vs.toArray } (.lst (ns.map V.int))) else if b ∈ TA then some (.tbl #[]) else none) (fun p hp => ?_) (fun b nb => ?_)
      (.inl (.inr ⟨{ cls := .type "list", data := .seq vs.toArray }, if_pos rfl⟩)) (fun b u z => ?_) (fun b z => ?_) fun _ => lk
    · have m : p.2 ∈ TA := List.mem_map.mpr ⟨p, hp, rfl⟩
      exact (if_neg fun z => aT (by rw [← z]; exact m)).trans (if_pos m)
    · by_cases e : b = a
      · exact .inr ⟨_, _, if_pos e⟩
      · exact .inl ((if_neg e).trans (if_neg nb))
    · by_cases e : b = a
      · have z1 := (if_pos e).symm.trans z
        cases z1
        subst e
        exact ⟨at_, by rw [List.length_map]; exact few, vs, _, rel, at_⟩
      · by_cases m : b ∈ TA
        · have z1 := ((if_neg e).trans (if_pos m)).symm.trans z
          cases z1
          exact tat b m
        · have z1 := ((if_neg e).trans (if_neg m)).symm.trans z
          cases z1
    · by_cases e : b = a
      · exact .inl e
      · by_cases m : b ∈ TA
        · exact .inr m
        · exact absurd ((if_neg e).trans (if_neg m)) z
theorem walkGT {l : PySem.W.OpenLaw} {n k : Nat} {q : Program} {loose : List Str} {XP : (Str → Option Value) → Heap → Prop} {YP : World → Heap → Prop} {d : DefRec} {K : Params → PySem.W.Frag} {sp : World → Sp} {x : Str}
    (hn : l.most = some n) (hn2 : n ≤ sizeLine) (hdf : d.params.defaults = []) (rm : Room k callerA) (hY : ∀ (w : World) (h : Heap), YP w h → (K w.params).In h)
    (F : ∀ (w : World) (mg : Str → Option Value) (fa : Addr) (h : Heap), YP w h → (K w.params).In h → h.Ns mainGlobals mg → mg d.name = some (.ref fa) →
      (∀ p ∈ tabsOf (K w.params), h.get? p.2 = some { cls := .none, data := .fields #[] } ∧ (K w.params).lookup p.2 = none ∧ PySem.W.CodeHd h p.1 p.2) ∧ ∃ fd : FuncData, (∀ (s : Shared) (u : Value), BindsTo s fd ⟨[u], []⟩ [(x, u)]) ∧
        ∀ base : Heap, (K w.params).In base → base.Ns mainGlobals mg → (∀ p ∈ tabsOf (K w.params), LamX.TabB base mg p.1 p.2) → FnG l.prog w (K w.params) mg base k fa fd [x] (sp w))
    (hsp : ∀ (w : World) (H : Hp) (a : Addr) (ns : List Int), ns.length ≤ n → Tbs (K w.params) H → SqL (K w.params) H a (ns.map V.int) → sp w [.ref a] H (fun v _ => v = .bl true) E0) :
    PySem.W.WalkO q loose XP YP l.row.toRowW d [] (fun f vs => PySem.call f vs) := by
  refine Att.attach_call hn hdf fun w s0 s1 mg mb fa o pm cd doc a vs ns G Y ho hd hcd hmg at_ are few gn => ?_
  have inK := hY w _ Y
  obtain ⟨tt, fd, bd, hF⟩ := F w mg fa _ Y inK G.T.g hmg
  exact lawGT inK G.T.g G.T.b G.T.builtins G.T.nolimit gn (fun p hp => (tt p hp).1) (fun p hp => (tt p hp).2.1) (fun p hp => (tt p hp).2.2) G.T.bmain at_ are (Nat.le_trans few hn2) rm hF bd fun H T sq => hsp w H a ns few T sq
end Dv
namespace Kd
open PySem PySem.Spec PyProof.Rows L2 Xg Dv
theorem all_mk {l : PySem.W.OpenLaw} {w : World} {K : PySem.W.Frag} {h : Heap} {mg : Str → Option Value} {fa : Addr} (X : K.In h) (G : h.Ns mainGlobals mg) (hfa : mg "law" = some (.ref fa))
    {t_BACK_ t_FORTH_ : Tok}
    {u_is_number : Addr} {od_is_number an_is_number : Option Addr} {sl_is_number : Array (Option Value)} {oc_is_number kV_is_number dc_is_number pm_is_number cd_is_number ct_is_number : Value}
    {u_is_number_from : Addr} {od_is_number_from an_is_number_from : Option Addr} {sl_is_number_from : Array (Option Value)} {oc_is_number_from kV_is_number_from dc_is_number_from pm_is_number_from cd_is_number_from ct_is_number_from : Value}
    {u_is_tuple_of : Addr} {od_is_tuple_of an_is_tuple_of : Option Addr} {sl_is_tuple_of : Array (Option Value)} {oc_is_tuple_of kV_is_tuple_of dc_is_tuple_of pm_is_tuple_of cd_is_tuple_of ct_is_tuple_of : Value}
    {u_is_turns : Addr} {od_is_turns an_is_turns : Option Addr} {sl_is_turns : Array (Option Value)} {oc_is_turns kV_is_turns dc_is_turns pm_is_turns cd_is_turns ct_is_turns : Value}
    {u_is_turn : Addr} {od_is_turn an_is_turn : Option Addr} {sl_is_turn : Array (Option Value)} {oc_is_turn kV_is_turn dc_is_turn pm_is_turn cd_is_turn ct_is_turn : Value}
    {u_joined : Addr} {od_joined an_joined : Option Addr} {sl_joined : Array (Option Value)} {oc_joined kV_joined dc_joined pm_joined cd_joined ct_joined : Value}
    {u_is_between_longer : Addr} {od_is_between_longer an_is_between_longer : Option Addr} {sl_is_between_longer : Array (Option Value)} {oc_is_between_longer kV_is_between_longer dc_is_between_longer pm_is_between_longer cd_is_between_longer ct_is_between_longer : Value}
    {u_forgotten : Addr} {od_forgotten an_forgotten : Option Addr} {sl_forgotten : Array (Option Value)} {oc_forgotten kV_forgotten dc_forgotten pm_forgotten cd_forgotten ct_forgotten : Value}
    {u_made_one : Addr} {od_made_one an_made_one : Option Addr} {sl_made_one : Array (Option Value)} {oc_made_one kV_made_one dc_made_one pm_made_one cd_made_one ct_made_one : Value}
    {u_is_forgotten : Addr} {od_is_forgotten an_is_forgotten : Option Addr} {sl_is_forgotten : Array (Option Value)} {oc_is_forgotten kV_is_forgotten dc_is_forgotten pm_is_forgotten cd_is_forgotten ct_is_forgotten : Value}
    {u__law_box : Addr} {od__law_box an__law_box : Option Addr} {sl__law_box : Array (Option Value)} {oc__law_box kV__law_box dc__law_box pm__law_box cd__law_box ct__law_box : Value}
    {u__law_take : Addr} {od__law_take an__law_take : Option Addr} {sl__law_take : Array (Option Value)} {oc__law_take kV__law_take dc__law_take pm__law_take cd__law_take ct__law_take : Value}
    {u__law_same : Addr} {od__law_same an__law_same : Option Addr} {sl__law_same : Array (Option Value)} {oc__law_same kV__law_same dc__law_same pm__law_same cd__law_same ct__law_same : Value}
    {u__law_of : Addr} {od__law_of an__law_of : Option Addr} {sl__law_of : Array (Option Value)} {oc__law_of kV__law_of dc__law_of pm__law_of cd__law_of ct__law_of : Value}
    {u__law_turns : Addr} {od__law_turns an__law_turns : Option Addr} {sl__law_turns : Array (Option Value)} {oc__law_turns kV__law_turns dc__law_turns pm__law_turns cd__law_turns ct__law_turns : Value}
    {u__law_joined : Addr} {od__law_joined an__law_joined : Option Addr} {sl__law_joined : Array (Option Value)} {oc__law_joined kV__law_joined dc__law_joined pm__law_joined cd__law_joined ct__law_joined : Value}
    {u__law_spots : Addr} {od__law_spots an__law_spots : Option Addr} {sl__law_spots : Array (Option Value)} {oc__law_spots kV__law_spots dc__law_spots pm__law_spots cd__law_spots ct__law_spots : Value}
    {u__law_odd : Addr} {od__law_odd an__law_odd : Option Addr} {sl__law_odd : Array (Option Value)} {oc__law_odd kV__law_odd dc__law_odd pm__law_odd cd__law_odd ct__law_odd : Value}
    {u__law_otherwise : Addr} {od__law_otherwise an__law_otherwise : Option Addr} {sl__law_otherwise : Array (Option Value)} {oc__law_otherwise kV__law_otherwise dc__law_otherwise pm__law_otherwise cd__law_otherwise ct__law_otherwise : Value}
    {u__law_are_turns : Addr} {od__law_are_turns an__law_are_turns : Option Addr} {sl__law_are_turns : Array (Option Value)} {oc__law_are_turns kV__law_are_turns dc__law_are_turns pm__law_are_turns cd__law_are_turns ct__law_are_turns : Value}
    {u__law_hill : Addr} {od__law_hill an__law_hill : Option Addr} {sl__law_hill : Array (Option Value)} {oc__law_hill kV__law_hill dc__law_hill pm__law_hill cd__law_hill ct__law_hill : Value}
    {u__law_right : Addr} {od__law_right an__law_right : Option Addr} {sl__law_right : Array (Option Value)} {oc__law_right kV__law_right dc__law_right pm__law_right cd__law_right ct__law_right : Value}
    {u_law : Addr} {od_law an_law : Option Addr} {sl_law : Array (Option Value)} {oc_law kV_law dc_law pm_law cd_law ct_law : Value}
    (a_is_number : PySem.W.nsIn K mainGlobals "is_number" = some (some (.ref u_is_number))) (l_is_number : K.lookup u_is_number = some ⟨oc_is_number, od_is_number, .func (PySem.W.fnOf "is_number" "is_number" (defArgs (topS 1)) (defBody (topS 1)) (defScope (topS 1)) .none kV_is_number dc_is_number pm_is_number an_is_number cd_is_number ct_is_number), sl_is_number⟩) (e_is_number : PySem.W.codeIn K cd_is_number "is_number" = true) (k_is_number : PySem.W.keepIn K (.ref u_is_number) = true)
    (a_is_number_from : PySem.W.nsIn K mainGlobals "is_number_from" = some (some (.ref u_is_number_from))) (l_is_number_from : K.lookup u_is_number_from = some ⟨oc_is_number_from, od_is_number_from, .func (PySem.W.fnOf "is_number_from" "is_number_from" (defArgs (topS 2)) (defBody (topS 2)) (defScope (topS 2)) .none kV_is_number_from dc_is_number_from pm_is_number_from an_is_number_from cd_is_number_from ct_is_number_from), sl_is_number_from⟩) (e_is_number_from : PySem.W.codeIn K cd_is_number_from "is_number_from" = true) (k_is_number_from : PySem.W.keepIn K (.ref u_is_number_from) = true)
    (a_is_tuple_of : PySem.W.nsIn K mainGlobals "is_tuple_of" = some (some (.ref u_is_tuple_of))) (l_is_tuple_of : K.lookup u_is_tuple_of = some ⟨oc_is_tuple_of, od_is_tuple_of, .func (PySem.W.fnOf "is_tuple_of" "is_tuple_of" (defArgs (topS 3)) (defBody (topS 3)) (defScope (topS 3)) .none kV_is_tuple_of dc_is_tuple_of pm_is_tuple_of an_is_tuple_of cd_is_tuple_of ct_is_tuple_of), sl_is_tuple_of⟩) (e_is_tuple_of : PySem.W.codeIn K cd_is_tuple_of "is_tuple_of" = true) (k_is_tuple_of : PySem.W.keepIn K (.ref u_is_tuple_of) = true)
    (a_is_turns : PySem.W.nsIn K mainGlobals "is_turns" = some (some (.ref u_is_turns))) (l_is_turns : K.lookup u_is_turns = some ⟨oc_is_turns, od_is_turns, .func (PySem.W.fnOf "is_turns" "is_turns" (defArgs (topS 7)) (defBody (topS 7)) (defScope (topS 7)) .none kV_is_turns dc_is_turns pm_is_turns an_is_turns cd_is_turns ct_is_turns), sl_is_turns⟩) (e_is_turns : PySem.W.codeIn K cd_is_turns "is_turns" = true) (k_is_turns : PySem.W.keepIn K (.ref u_is_turns) = true)
    (a_is_turn : PySem.W.nsIn K mainGlobals "is_turn" = some (some (.ref u_is_turn))) (l_is_turn : K.lookup u_is_turn = some ⟨oc_is_turn, od_is_turn, .func (PySem.W.fnOf "is_turn" "is_turn" (defArgs (topS 8)) (defBody (topS 8)) (defScope (topS 8)) .none kV_is_turn dc_is_turn pm_is_turn an_is_turn cd_is_turn ct_is_turn), sl_is_turn⟩) (e_is_turn : PySem.W.codeIn K cd_is_turn "is_turn" = true) (k_is_turn : PySem.W.keepIn K (.ref u_is_turn) = true)
    (a_joined : PySem.W.nsIn K mainGlobals "joined" = some (some (.ref u_joined))) (l_joined : K.lookup u_joined = some ⟨oc_joined, od_joined, .func (PySem.W.fnOf "joined" "joined" (defArgs (topS 9)) (defBody (topS 9)) (defScope (topS 9)) .none kV_joined dc_joined pm_joined an_joined cd_joined ct_joined), sl_joined⟩) (e_joined : PySem.W.codeIn K cd_joined "joined" = true) (k_joined : PySem.W.keepIn K (.ref u_joined) = true)
    (a_is_between_longer : PySem.W.nsIn K mainGlobals "is_between_longer" = some (some (.ref u_is_between_longer))) (l_is_between_longer : K.lookup u_is_between_longer = some ⟨oc_is_between_longer, od_is_between_longer, .func (PySem.W.fnOf "is_between_longer" "is_between_longer" (defArgs (topS 10)) (defBody (topS 10)) (defScope (topS 10)) .none kV_is_between_longer dc_is_between_longer pm_is_between_longer an_is_between_longer cd_is_between_longer ct_is_between_longer), sl_is_between_longer⟩) (e_is_between_longer : PySem.W.codeIn K cd_is_between_longer "is_between_longer" = true) (k_is_between_longer : PySem.W.keepIn K (.ref u_is_between_longer) = true)
    (a_forgotten : PySem.W.nsIn K mainGlobals "forgotten" = some (some (.ref u_forgotten))) (l_forgotten : K.lookup u_forgotten = some ⟨oc_forgotten, od_forgotten, .func (PySem.W.fnOf "forgotten" "forgotten" (defArgs (topS 11)) (defBody (topS 11)) (defScope (topS 11)) .none kV_forgotten dc_forgotten pm_forgotten an_forgotten cd_forgotten ct_forgotten), sl_forgotten⟩) (e_forgotten : PySem.W.codeIn K cd_forgotten "forgotten" = true) (k_forgotten : PySem.W.keepIn K (.ref u_forgotten) = true)
    (a_made_one : PySem.W.nsIn K mainGlobals "made_one" = some (some (.ref u_made_one))) (l_made_one : K.lookup u_made_one = some ⟨oc_made_one, od_made_one, .func (PySem.W.fnOf "made_one" "made_one" (defArgs (topS 12)) (defBody (topS 12)) (defScope (topS 12)) .none kV_made_one dc_made_one pm_made_one an_made_one cd_made_one ct_made_one), sl_made_one⟩) (e_made_one : PySem.W.codeIn K cd_made_one "made_one" = true) (k_made_one : PySem.W.keepIn K (.ref u_made_one) = true)
    (a_is_forgotten : PySem.W.nsIn K mainGlobals "is_forgotten" = some (some (.ref u_is_forgotten))) (l_is_forgotten : K.lookup u_is_forgotten = some ⟨oc_is_forgotten, od_is_forgotten, .func (PySem.W.fnOf "is_forgotten" "is_forgotten" (defArgs (topS 13)) (defBody (topS 13)) (defScope (topS 13)) .none kV_is_forgotten dc_is_forgotten pm_is_forgotten an_is_forgotten cd_is_forgotten ct_is_forgotten), sl_is_forgotten⟩) (e_is_forgotten : PySem.W.codeIn K cd_is_forgotten "is_forgotten" = true) (k_is_forgotten : PySem.W.keepIn K (.ref u_is_forgotten) = true)
    (a__law_box : PySem.W.nsIn K mainGlobals "_law_box" = some (some (.ref u__law_box))) (l__law_box : K.lookup u__law_box = some ⟨oc__law_box, od__law_box, .func (PySem.W.fnOf "_law_box" "_law_box" (defArgs (topS 15)) (defBody (topS 15)) (defScope (topS 15)) .none kV__law_box dc__law_box pm__law_box an__law_box cd__law_box ct__law_box), sl__law_box⟩) (e__law_box : PySem.W.codeIn K cd__law_box "_law_box" = true) (k__law_box : PySem.W.keepIn K (.ref u__law_box) = true)
    (a__law_take : PySem.W.nsIn K mainGlobals "_law_take" = some (some (.ref u__law_take))) (l__law_take : K.lookup u__law_take = some ⟨oc__law_take, od__law_take, .func (PySem.W.fnOf "_law_take" "_law_take" (defArgs (topS 16)) (defBody (topS 16)) (defScope (topS 16)) .none kV__law_take dc__law_take pm__law_take an__law_take cd__law_take ct__law_take), sl__law_take⟩) (e__law_take : PySem.W.codeIn K cd__law_take "_law_take" = true) (k__law_take : PySem.W.keepIn K (.ref u__law_take) = true)
    (a__law_same : PySem.W.nsIn K mainGlobals "_law_same" = some (some (.ref u__law_same))) (l__law_same : K.lookup u__law_same = some ⟨oc__law_same, od__law_same, .func (PySem.W.fnOf "_law_same" "_law_same" (defArgs (topS 17)) (defBody (topS 17)) (defScope (topS 17)) .none kV__law_same dc__law_same pm__law_same an__law_same cd__law_same ct__law_same), sl__law_same⟩) (e__law_same : PySem.W.codeIn K cd__law_same "_law_same" = true) (k__law_same : PySem.W.keepIn K (.ref u__law_same) = true)
    (a__law_of : PySem.W.nsIn K mainGlobals "_law_of" = some (some (.ref u__law_of))) (l__law_of : K.lookup u__law_of = some ⟨oc__law_of, od__law_of, .func (PySem.W.fnOf "_law_of" "_law_of" (defArgs (topS 18)) (defBody (topS 18)) (defScope (topS 18)) .none kV__law_of dc__law_of pm__law_of an__law_of cd__law_of ct__law_of), sl__law_of⟩) (e__law_of : PySem.W.codeIn K cd__law_of "_law_of" = true) (k__law_of : PySem.W.keepIn K (.ref u__law_of) = true)
    (a__law_turns : PySem.W.nsIn K mainGlobals "_law_turns" = some (some (.ref u__law_turns))) (l__law_turns : K.lookup u__law_turns = some ⟨oc__law_turns, od__law_turns, .func (PySem.W.fnOf "_law_turns" "_law_turns" (defArgs (topS 19)) (defBody (topS 19)) (defScope (topS 19)) .none kV__law_turns dc__law_turns pm__law_turns an__law_turns cd__law_turns ct__law_turns), sl__law_turns⟩) (e__law_turns : PySem.W.codeIn K cd__law_turns "_law_turns" = true) (k__law_turns : PySem.W.keepIn K (.ref u__law_turns) = true)
    (a__law_joined : PySem.W.nsIn K mainGlobals "_law_joined" = some (some (.ref u__law_joined))) (l__law_joined : K.lookup u__law_joined = some ⟨oc__law_joined, od__law_joined, .func (PySem.W.fnOf "_law_joined" "_law_joined" (defArgs (topS 20)) (defBody (topS 20)) (defScope (topS 20)) .none kV__law_joined dc__law_joined pm__law_joined an__law_joined cd__law_joined ct__law_joined), sl__law_joined⟩) (e__law_joined : PySem.W.codeIn K cd__law_joined "_law_joined" = true) (k__law_joined : PySem.W.keepIn K (.ref u__law_joined) = true)
    (a__law_spots : PySem.W.nsIn K mainGlobals "_law_spots" = some (some (.ref u__law_spots))) (l__law_spots : K.lookup u__law_spots = some ⟨oc__law_spots, od__law_spots, .func (PySem.W.fnOf "_law_spots" "_law_spots" (defArgs (topS 21)) (defBody (topS 21)) (defScope (topS 21)) .none kV__law_spots dc__law_spots pm__law_spots an__law_spots cd__law_spots ct__law_spots), sl__law_spots⟩) (e__law_spots : PySem.W.codeIn K cd__law_spots "_law_spots" = true) (k__law_spots : PySem.W.keepIn K (.ref u__law_spots) = true)
    (a__law_odd : PySem.W.nsIn K mainGlobals "_law_odd" = some (some (.ref u__law_odd))) (l__law_odd : K.lookup u__law_odd = some ⟨oc__law_odd, od__law_odd, .func (PySem.W.fnOf "_law_odd" "_law_odd" (defArgs (topS 22)) (defBody (topS 22)) (defScope (topS 22)) .none kV__law_odd dc__law_odd pm__law_odd an__law_odd cd__law_odd ct__law_odd), sl__law_odd⟩) (e__law_odd : PySem.W.codeIn K cd__law_odd "_law_odd" = true) (k__law_odd : PySem.W.keepIn K (.ref u__law_odd) = true)
    (a__law_otherwise : PySem.W.nsIn K mainGlobals "_law_otherwise" = some (some (.ref u__law_otherwise))) (l__law_otherwise : K.lookup u__law_otherwise = some ⟨oc__law_otherwise, od__law_otherwise, .func (PySem.W.fnOf "_law_otherwise" "_law_otherwise" (defArgs (topS 23)) (defBody (topS 23)) (defScope (topS 23)) .none kV__law_otherwise dc__law_otherwise pm__law_otherwise an__law_otherwise cd__law_otherwise ct__law_otherwise), sl__law_otherwise⟩) (e__law_otherwise : PySem.W.codeIn K cd__law_otherwise "_law_otherwise" = true) (k__law_otherwise : PySem.W.keepIn K (.ref u__law_otherwise) = true)
    (a__law_are_turns : PySem.W.nsIn K mainGlobals "_law_are_turns" = some (some (.ref u__law_are_turns))) (l__law_are_turns : K.lookup u__law_are_turns = some ⟨oc__law_are_turns, od__law_are_turns, .func (PySem.W.fnOf "_law_are_turns" "_law_are_turns" (defArgs (topS 24)) (defBody (topS 24)) (defScope (topS 24)) .none kV__law_are_turns dc__law_are_turns pm__law_are_turns an__law_are_turns cd__law_are_turns ct__law_are_turns), sl__law_are_turns⟩) (e__law_are_turns : PySem.W.codeIn K cd__law_are_turns "_law_are_turns" = true) (k__law_are_turns : PySem.W.keepIn K (.ref u__law_are_turns) = true)
    (a__law_hill : PySem.W.nsIn K mainGlobals "_law_hill" = some (some (.ref u__law_hill))) (l__law_hill : K.lookup u__law_hill = some ⟨oc__law_hill, od__law_hill, .func (PySem.W.fnOf "_law_hill" "_law_hill" (defArgs (topS 25)) (defBody (topS 25)) (defScope (topS 25)) .none kV__law_hill dc__law_hill pm__law_hill an__law_hill cd__law_hill ct__law_hill), sl__law_hill⟩) (e__law_hill : PySem.W.codeIn K cd__law_hill "_law_hill" = true) (k__law_hill : PySem.W.keepIn K (.ref u__law_hill) = true)
    (a__law_right : PySem.W.nsIn K mainGlobals "_law_right" = some (some (.ref u__law_right))) (l__law_right : K.lookup u__law_right = some ⟨oc__law_right, od__law_right, .func (PySem.W.fnOf "_law_right" "_law_right" (defArgs (topS 26)) (defBody (topS 26)) (defScope (topS 26)) .none kV__law_right dc__law_right pm__law_right an__law_right cd__law_right ct__law_right), sl__law_right⟩) (e__law_right : PySem.W.codeIn K cd__law_right "_law_right" = true) (k__law_right : PySem.W.keepIn K (.ref u__law_right) = true)
    (a_law : PySem.W.nsIn K mainGlobals "law" = some (some (.ref u_law))) (l_law : K.lookup u_law = some ⟨oc_law, od_law, .func (PySem.W.fnOf "law" "law" (defArgs (topS 27)) (defBody (topS 27)) (defScope (topS 27)) .none kV_law dc_law pm_law an_law cd_law ct_law), sl_law⟩) (e_law : PySem.W.codeIn K cd_law "law" = true) (k_law : PySem.W.keepIn K (.ref u_law) = true)
    (ab_when : PySem.W.nsIn K mainGlobals "when" = some none)
    (ab_rests_when : PySem.W.nsIn K mainGlobals "rests_when" = some none)
    (ab_slowest : PySem.W.nsIn K mainGlobals "slowest" = some none)
    (y_BACK : PySem.W.nsIn K mainGlobals "BACK" = some (some (.str "back" t_BACK_)))
    (y_FORTH : PySem.W.nsIn K mainGlobals "FORTH" = some (some (.str "forth" t_FORTH_)))
    (z_abs : PySem.W.nsIn K mainGlobals "abs" = some none)
    (z_all : PySem.W.nsIn K mainGlobals "all" = some none)
    (z_bool : PySem.W.nsIn K mainGlobals "bool" = some none)
    (z_int : PySem.W.nsIn K mainGlobals "int" = some none)
    (z_isinstance : PySem.W.nsIn K mainGlobals "isinstance" = some none)
    (z_len : PySem.W.nsIn K mainGlobals "len" = some none)
    (z_list : PySem.W.nsIn K mainGlobals "list" = some none)
    (z_max : PySem.W.nsIn K mainGlobals "max" = some none)
    (z_min : PySem.W.nsIn K mainGlobals "min" = some none)
    (z_range : PySem.W.nsIn K mainGlobals "range" = some none)
    (z_repr : PySem.W.nsIn K mainGlobals "repr" = some none)
    (z_str : PySem.W.nsIn K mainGlobals "str" = some none)
    (z_tuple : PySem.W.nsIn K mainGlobals "tuple" = some none)
    (z_zip : PySem.W.nsIn K mainGlobals "zip" = some none)
    : (∀ p ∈ tabsOf K, h.get? p.2 = some { cls := .none, data := .fields #[] } ∧ K.lookup p.2 = none ∧ PySem.W.CodeHd h p.1 p.2) ∧ ∃ fd : FuncData, (∀ (s : Shared) (v : Value), BindsTo s fd ⟨[v], []⟩ [("_law_script", v)]) ∧ ∀ base : Heap, K.In base → base.Ns mainGlobals mg → (∀ p ∈ tabsOf K, LamX.TabB base mg p.1 p.2) → FnG l.prog w K mg base 9 fa fd ["_law_script"] (spD K 419600 F_law) := by
  have e := hfa.symm.trans (PySem.W.mg_of X G a_law)
  cases e
  have U_is_number := fun_mk (st := topS 1) l_is_number e_is_number k_is_number
  have b_is_number := U_is_number.binds (ps := ["thing"]) fun _ _ _ _ _ _ us hl => match us, hl with | [_], _ => rfl
  have g_is_number := PySem.W.mg_of X G a_is_number
  have U_is_number_from := fun_mk (st := topS 2) l_is_number_from e_is_number_from k_is_number_from
  have b_is_number_from := U_is_number_from.binds (ps := ["thing", "least"]) fun _ _ _ _ _ _ us hl => match us, hl with | [_, _], _ => rfl
  have g_is_number_from := PySem.W.mg_of X G a_is_number_from
  have U_is_tuple_of := fun_mk (st := topS 3) l_is_tuple_of e_is_tuple_of k_is_tuple_of
  have b_is_tuple_of := U_is_tuple_of.binds (ps := ["thing", "many"]) fun _ _ _ _ _ _ us hl => match us, hl with | [_, _], _ => rfl
  have g_is_tuple_of := PySem.W.mg_of X G a_is_tuple_of
  have U_is_turns := fun_mk (st := topS 7) l_is_turns e_is_turns k_is_turns
  have b_is_turns := U_is_turns.binds (ps := ["thing"]) fun _ _ _ _ _ _ us hl => match us, hl with | [_], _ => rfl
  have g_is_turns := PySem.W.mg_of X G a_is_turns
  have U_is_turn := fun_mk (st := topS 8) l_is_turn e_is_turn k_is_turn
  have b_is_turn := U_is_turn.binds (ps := ["thing"]) fun _ _ _ _ _ _ us hl => match us, hl with | [_], _ => rfl
  have g_is_turn := PySem.W.mg_of X G a_is_turn
  have U_joined := fun_mk (st := topS 9) l_joined e_joined k_joined
  have b_joined := U_joined.binds (ps := ["turns"]) fun _ _ _ _ _ _ us hl => match us, hl with | [_], _ => rfl
  have g_joined := PySem.W.mg_of X G a_joined
  have U_is_between_longer := fun_mk (st := topS 10) l_is_between_longer e_is_between_longer k_is_between_longer
  have b_is_between_longer := U_is_between_longer.binds (ps := ["turns", "at"]) fun _ _ _ _ _ _ us hl => match us, hl with | [_, _], _ => rfl
  have g_is_between_longer := PySem.W.mg_of X G a_is_between_longer
  have U_forgotten := fun_mk (st := topS 11) l_forgotten e_forgotten k_forgotten
  have b_forgotten := U_forgotten.binds (ps := ["turns"]) fun _ _ _ _ _ _ us hl => match us, hl with | [_], _ => rfl
  have g_forgotten := PySem.W.mg_of X G a_forgotten
  have U_made_one := fun_mk (st := topS 12) l_made_one e_made_one k_made_one
  have b_made_one := U_made_one.binds (ps := ["three"]) fun _ _ _ _ _ _ us hl => match us, hl with | [_], _ => rfl
  have g_made_one := PySem.W.mg_of X G a_made_one
  have U_is_forgotten := fun_mk (st := topS 13) l_is_forgotten e_is_forgotten k_is_forgotten
  have b_is_forgotten := U_is_forgotten.binds (ps := ["thing"]) fun _ _ _ _ _ _ us hl => match us, hl with | [_], _ => rfl
  have g_is_forgotten := PySem.W.mg_of X G a_is_forgotten
  have U__law_box := fun_mk (st := topS 15) l__law_box e__law_box k__law_box
  have b__law_box := U__law_box.binds (ps := ["_law_script", "_law_k"]) fun _ _ _ _ _ _ us hl => match us, hl with | [_, _], _ => rfl
  have g__law_box := PySem.W.mg_of X G a__law_box
  have U__law_take := fun_mk (st := topS 16) l__law_take e__law_take k__law_take
  have b__law_take := U__law_take.binds (ps := ["_law_box_here", "_law_bound"]) fun _ _ _ _ _ _ us hl => match us, hl with | [_, _], _ => rfl
  have g__law_take := PySem.W.mg_of X G a__law_take
  have U__law_same := fun_mk (st := topS 17) l__law_same e__law_same k__law_same
  have b__law_same := U__law_same.binds (ps := ["_law_found", "_law_due"]) fun _ _ _ _ _ _ us hl => match us, hl with | [_, _], _ => rfl
  have g__law_same := PySem.W.mg_of X G a__law_same
  have U__law_of := fun_mk (st := topS 18) l__law_of e__law_of k__law_of
  have b__law_of := U__law_of.binds (ps := ["_law_box_here", "_law_some"]) fun _ _ _ _ _ _ us hl => match us, hl with | [_, _], _ => rfl
  have g__law_of := PySem.W.mg_of X G a__law_of
  have U__law_turns := fun_mk (st := topS 19) l__law_turns e__law_turns k__law_turns
  have b__law_turns := U__law_turns.binds (ps := ["_law_box_here", "_law_size", "_law_long"]) fun _ _ _ _ _ _ us hl => match us, hl with | [_, _, _], _ => rfl
  have g__law_turns := PySem.W.mg_of X G a__law_turns
  have U__law_joined := fun_mk (st := topS 20) l__law_joined e__law_joined k__law_joined
  have b__law_joined := U__law_joined.binds (ps := ["_law_some"]) fun _ _ _ _ _ _ us hl => match us, hl with | [_], _ => rfl
  have g__law_joined := PySem.W.mg_of X G a__law_joined
  have U__law_spots := fun_mk (st := topS 21) l__law_spots e__law_spots k__law_spots
  have b__law_spots := U__law_spots.binds (ps := ["_law_some"]) fun _ _ _ _ _ _ us hl => match us, hl with | [_], _ => rfl
  have g__law_spots := PySem.W.mg_of X G a__law_spots
  have U__law_odd := fun_mk (st := topS 22) l__law_odd e__law_odd k__law_odd
  have b__law_odd := U__law_odd.binds (ps := ["_law_box_here"]) fun _ _ _ _ _ _ us hl => match us, hl with | [_], _ => rfl
  have g__law_odd := PySem.W.mg_of X G a__law_odd
  have U__law_otherwise := fun_mk (st := topS 23) l__law_otherwise e__law_otherwise k__law_otherwise
  have b__law_otherwise := U__law_otherwise.binds (ps := ["_law_box_here", "_law_matter"]) fun _ _ _ _ _ _ us hl => match us, hl with | [_, _], _ => rfl
  have g__law_otherwise := PySem.W.mg_of X G a__law_otherwise
  have U__law_are_turns := fun_mk (st := topS 24) l__law_are_turns e__law_are_turns k__law_are_turns
  have b__law_are_turns := U__law_are_turns.binds (ps := ["_law_matter"]) fun _ _ _ _ _ _ us hl => match us, hl with | [_], _ => rfl
  have g__law_are_turns := PySem.W.mg_of X G a__law_are_turns
  have U__law_hill := fun_mk (st := topS 25) l__law_hill e__law_hill k__law_hill
  have b__law_hill := U__law_hill.binds (ps := ["_law_box_here"]) fun _ _ _ _ _ _ us hl => match us, hl with | [_], _ => rfl
  have g__law_hill := PySem.W.mg_of X G a__law_hill
  have U__law_right := fun_mk (st := topS 26) l__law_right e__law_right k__law_right
  have b__law_right := U__law_right.binds (ps := ["_law_box_here"]) fun _ _ _ _ _ _ us hl => match us, hl with | [_], _ => rfl
  have g__law_right := PySem.W.mg_of X G a__law_right
  have U_law := fun_mk (st := topS 27) l_law e_law k_law
  have b_law := U_law.binds (ps := ["_law_script"]) fun _ _ _ _ _ _ us hl => match us, hl with | [_], _ => rfl
  have g_law := PySem.W.mg_of X G a_law
  have ti_when : PySem.W.tabIn K "when" = none := tabIn_none ab_when
  have ti_rests_when : PySem.W.tabIn K "rests_when" = none := tabIn_none ab_rests_when
  have ti_slowest : PySem.W.tabIn K "slowest" = none := tabIn_none ab_slowest
  have tabs_eq : tabsOf K = [] := by
    unfold tabsOf lamDefs
    simp only [List.filterMap_cons, List.filterMap_nil, ti_when, ti_rests_when, ti_slowest]
  have tof_eq : Tof K = [] := by
    unfold Tof lamDefs
    simp only [List.filterMap_cons, List.filterMap_nil, Option.map_some, Option.map_none, ti_when, ti_rests_when, ti_slowest]
  refine ⟨fun p hp => (by rw [tabs_eq] at hp; cases hp), ?_⟩
  refine ⟨PySem.W.fnOf "law" "law" (defArgs (topS 27)) (defBody (topS 27)) (defScope (topS 27)) .none kV_law dc_law pm_law an_law cd_law ct_law, fun s v => .of_eq rfl, fun base _ _ tb => ?_⟩
  have N : Nm mg := ⟨PySem.W.mg_none_of X G z_abs, PySem.W.mg_none_of X G z_all, PySem.W.mg_none_of X G z_bool, PySem.W.mg_none_of X G z_int, PySem.W.mg_none_of X G z_isinstance, PySem.W.mg_none_of X G z_len, PySem.W.mg_none_of X G z_list, PySem.W.mg_none_of X G z_max, PySem.W.mg_none_of X G z_min, PySem.W.mg_none_of X G z_range, PySem.W.mg_none_of X G z_repr, PySem.W.mg_none_of X G z_str, PySem.W.mg_none_of X G z_tuple, PySem.W.mg_none_of X G z_zip⟩
  have c_BACK : ∃ u, mg "BACK" = some u ∧ L2.RelV (.str "back") u := ⟨_, PySem.W.mg_of X G y_BACK, _, rfl⟩
  have c_FORTH : ∃ u, mg "FORTH" = some u ∧ L2.RelV (.str "forth") u := ⟨_, PySem.W.mg_of X G y_FORTH, _, rfl⟩
  have U__law_otherwise__0 := U__law_otherwise
  have b__law_otherwise__0 := b__law_otherwise
  have g__law_otherwise__0 := g__law_otherwise
  have U__law_otherwise__1 := U__law_otherwise
  have b__law_otherwise__1 := b__law_otherwise
  have g__law_otherwise__1 := g__law_otherwise
  have U__law_otherwise__2 := U__law_otherwise
  have b__law_otherwise__2 := b__law_otherwise
  have g__law_otherwise__2 := g__law_otherwise
  have U__law_otherwise__3 := U__law_otherwise
  have b__law_otherwise__3 := b__law_otherwise
  have g__law_otherwise__3 := g__law_otherwise
  have U__law_otherwise__4 := U__law_otherwise
  have b__law_otherwise__4 := b__law_otherwise
  have g__law_otherwise__4 := g__law_otherwise
  have D_is_number : Df l.prog w K mg base "is_number" ["thing"] 1 (spD K 0 F_is_number) := ⟨_, _, ok_is_number U_is_number N, g_is_number, U_is_number.kp, b_is_number⟩
  have D_is_number_from : Df l.prog w K mg base "is_number_from" ["thing", "least"] 2 (spD K 0 F_is_number_from) := ⟨_, _, ok_is_number_from U_is_number_from N D_is_number, g_is_number_from, U_is_number_from.kp, b_is_number_from⟩
  have D_is_tuple_of : Df l.prog w K mg base "is_tuple_of" ["thing", "many"] 1 (spD K 0 F_is_tuple_of) := ⟨_, _, ok_is_tuple_of U_is_tuple_of N, g_is_tuple_of, U_is_tuple_of.kp, b_is_tuple_of⟩
  have D_is_turn : Df l.prog w K mg base "is_turn" ["thing"] 3 (spD K 0 F_is_turn) := ⟨_, _, ok_is_turn U_is_turn N c_BACK c_FORTH D_is_number_from D_is_tuple_of, g_is_turn, U_is_turn.kp, b_is_turn⟩
  have D_is_turns : Df l.prog w K mg base "is_turns" ["thing"] 4 (spD K 0 F_is_turns) := ⟨_, _, ok_is_turns U_is_turns N D_is_turn, g_is_turns, U_is_turns.kp, b_is_turns⟩
  have DR_is_turns : DfR l.prog w K mg base "is_turns" ["thing"] 4 (spD K 0 F_is_turns) := ⟨_, _, ok_is_turns U_is_turns N D_is_turn, g_is_turns, U_is_turns.kp, fun s ws _ hl => match ws, hl with | [_], _ => .of_eq rfl⟩
  have D_joined : Df l.prog w K mg base "joined" ["turns"] 1 (spD K 0 F_joined) := ⟨_, _, ok_joined U_joined N, g_joined, U_joined.kp, b_joined⟩
  have DL_joined : Df l.prog w K mg base "joined" ["turns"] 1 (spL K 0 L_joined) := ⟨_, _, okL_joined U_joined N, g_joined, U_joined.kp, b_joined⟩
  have D_is_between_longer : Df l.prog w K mg base "is_between_longer" ["turns", "at"] 1 (spD K 0 F_is_between_longer) := ⟨_, _, ok_is_between_longer U_is_between_longer N, g_is_between_longer, U_is_between_longer.kp, b_is_between_longer⟩
  have D_made_one : Df l.prog w K mg base "made_one" ["three"] 1 (spD K 0 F_made_one) := ⟨_, _, ok_made_one U_made_one N, g_made_one, U_made_one.kp, b_made_one⟩
  have D_forgotten : Df l.prog w K mg base "forgotten" ["turns"] 2 (spD K 0 F_forgotten) := ⟨_, _, ok_forgotten U_forgotten N D_is_between_longer D_joined DL_joined D_made_one, g_forgotten, U_forgotten.kp, b_forgotten⟩
  have DL_forgotten : Df l.prog w K mg base "forgotten" ["turns"] 2 (spL K 0 L_forgotten) := ⟨_, _, okL_forgotten U_forgotten N D_is_between_longer D_joined DL_joined D_made_one, g_forgotten, U_forgotten.kp, b_forgotten⟩
  have D_is_forgotten : Df l.prog w K mg base "is_forgotten" ["thing"] 5 (spD K 0 F_is_forgotten) := ⟨_, _, ok_is_forgotten U_is_forgotten N D_forgotten DL_forgotten D_is_turns, g_is_forgotten, U_is_forgotten.kp, b_is_forgotten⟩
  have DR_is_forgotten : DfR l.prog w K mg base "is_forgotten" ["thing"] 5 (spD K 0 F_is_forgotten) := ⟨_, _, ok_is_forgotten U_is_forgotten N D_forgotten DL_forgotten D_is_turns, g_is_forgotten, U_is_forgotten.kp, fun s ws _ hl => match ws, hl with | [_], _ => .of_eq rfl⟩
  have D__law_box : Df l.prog w K mg base "_law_box" ["_law_script", "_law_k"] 1 (spBx K) := ⟨_, _, g_box U__law_box N.len N.abs N.int, g__law_box, U__law_box.kp, b__law_box⟩
  have D__law_take : Df l.prog w K mg base "_law_take" ["_law_box_here", "_law_bound"] 1 (spD K 1 F_take) := ⟨_, _, g_take U__law_take, g__law_take, U__law_take.kp, b__law_take⟩
  have D__law_same : Df l.prog w K mg base "_law_same" ["_law_found", "_law_due"] 6 (spD K 0 F_same) := ⟨_, _, g_same U__law_same b__law_same g__law_same ⟨N.isinstance, N.list, N.tuple, N.len, N.all, N.zip, N.str, N.int, N.bool⟩, g__law_same, U__law_same.kp, b__law_same⟩
  have D__law_of : Df l.prog w K mg base "_law_of" ["_law_box_here", "_law_some"] 2 (spD K 1 F__law_of) := ⟨_, _, ok__law_of U__law_of N D__law_take, g__law_of, U__law_of.kp, b__law_of⟩
  have D__law_turns : Df l.prog w K mg base "_law_turns" ["_law_box_here", "_law_size", "_law_long"] 2 (spD K 202 F__law_turns) := ⟨_, _, ok__law_turns U__law_turns N D__law_take, g__law_turns, U__law_turns.kp, b__law_turns⟩
  have DL__law_turns : Df l.prog w K mg base "_law_turns" ["_law_box_here", "_law_size", "_law_long"] 2 (spL K 202 L__law_turns) := ⟨_, _, okL__law_turns U__law_turns N D__law_take, g__law_turns, U__law_turns.kp, b__law_turns⟩
  have D__law_joined : Df l.prog w K mg base "_law_joined" ["_law_some"] 1 (spD K 0 F__law_joined) := ⟨_, _, ok__law_joined U__law_joined N, g__law_joined, U__law_joined.kp, b__law_joined⟩
  have DL__law_joined : Df l.prog w K mg base "_law_joined" ["_law_some"] 1 (spL K 0 L__law_joined) := ⟨_, _, okL__law_joined U__law_joined N, g__law_joined, U__law_joined.kp, b__law_joined⟩
  have D__law_spots : Df l.prog w K mg base "_law_spots" ["_law_some"] 1 (spD K 0 F__law_spots) := ⟨_, _, ok__law_spots U__law_spots N, g__law_spots, U__law_spots.kp, b__law_spots⟩
  have DL__law_spots : Df l.prog w K mg base "_law_spots" ["_law_some"] 1 (spL K 0 L__law_spots) := ⟨_, _, okL__law_spots U__law_spots N, g__law_spots, U__law_spots.kp, b__law_spots⟩
  have D__law_odd : Df l.prog w K mg base "_law_odd" ["_law_box_here"] 2 (spD K 1 F__law_odd) := ⟨_, _, ok__law_odd U__law_odd N D__law_take, g__law_odd, U__law_odd.kp, b__law_odd⟩
  have D__law_otherwise : Df l.prog w K mg base "_law_otherwise" ["_law_box_here", "_law_matter"] 1 (spD K 0 F_none) := ⟨_, _, g_none, g__law_otherwise, U__law_otherwise.kp, b__law_otherwise⟩
  have D__law_otherwise__0 : Df l.prog w K mg base "_law_otherwise" ["_law_box_here", "_law_matter"] 3 (spD K 8 F__law_otherwise__0) := ⟨_, _, ok__law_otherwise__0 U__law_otherwise__0 N D__law_odd D__law_otherwise D__law_take, g__law_otherwise__0, U__law_otherwise__0.kp, b__law_otherwise__0⟩
  have D__law_otherwise__1 : Df l.prog w K mg base "_law_otherwise" ["_law_box_here", "_law_matter"] 4 (spD K 16 F__law_otherwise__1) := ⟨_, _, ok__law_otherwise__1 U__law_otherwise__1 N D__law_odd D__law_otherwise__0 D__law_take, g__law_otherwise__1, U__law_otherwise__1.kp, b__law_otherwise__1⟩
  have D__law_otherwise__2 : Df l.prog w K mg base "_law_otherwise" ["_law_box_here", "_law_matter"] 5 (spD K 24 F__law_otherwise__2) := ⟨_, _, ok__law_otherwise__2 U__law_otherwise__2 N D__law_odd D__law_otherwise__1 D__law_take, g__law_otherwise__2, U__law_otherwise__2.kp, b__law_otherwise__2⟩
  have D__law_otherwise__3 : Df l.prog w K mg base "_law_otherwise" ["_law_box_here", "_law_matter"] 6 (spD K 32 F__law_otherwise__3) := ⟨_, _, ok__law_otherwise__3 U__law_otherwise__3 N D__law_odd D__law_otherwise__2 D__law_take, g__law_otherwise__3, U__law_otherwise__3.kp, b__law_otherwise__3⟩
  have D__law_otherwise__4 : Df l.prog w K mg base "_law_otherwise" ["_law_box_here", "_law_matter"] 7 (spD K 40 F__law_otherwise__4) := ⟨_, _, ok__law_otherwise__4 U__law_otherwise__4 N D__law_odd D__law_otherwise__3 D__law_take, g__law_otherwise__4, U__law_otherwise__4.kp, b__law_otherwise__4⟩
  have D__law_are_turns : Df l.prog w K mg base "_law_are_turns" ["_law_matter"] 1 (spD K 0 F__law_are_turns) := ⟨_, _, ok__law_are_turns U__law_are_turns N, g__law_are_turns, U__law_are_turns.kp, b__law_are_turns⟩
  have D__law_hill : Df l.prog w K mg base "_law_hill" ["_law_box_here"] 2 (spD K 108 F__law_hill) := ⟨_, _, ok__law_hill U__law_hill N D__law_take, g__law_hill, U__law_hill.kp, b__law_hill⟩
  have DL__law_hill : Df l.prog w K mg base "_law_hill" ["_law_box_here"] 2 (spL K 108 L__law_hill) := ⟨_, _, okL__law_hill U__law_hill N D__law_take, g__law_hill, U__law_hill.kp, b__law_hill⟩
  have D__law_right : Df l.prog w K mg base "_law_right" ["_law_box_here"] 8 (spD K 1049 F__law_right) := ⟨_, _, ok__law_right U__law_right N D__law_are_turns D__law_hill DL__law_hill D__law_joined DL__law_joined D__law_of D__law_otherwise__4 D__law_same D__law_spots DL__law_spots D__law_take D__law_turns DL__law_turns D_forgotten DL_forgotten D_is_forgotten D_is_turns DR_is_forgotten DR_is_turns, g__law_right, U__law_right.kp, b__law_right⟩
  exact ok_law U_law N D__law_box D__law_right
end Kd
open PySem PySem.W PyProof.Rows
set_option maxHeartbeats 0 in
theorem PySem.Challenge.cw_forthback_k13_forgotten_or_not_holds : PySem.Challenge.rw_forthback_k13_forgotten_or_not.Holds := by
  w_on; o_law; k_head; (case hw => w_witness2)
  k_fill
  refine Dv.walkGT (l := PySem.Challenge.rw_forthback_k13_forgotten_or_not) (n := 63) (k := 9) (x := "_law_script") (sp := fun w => Dv.spD _ 419600 Kd.F_law) rfl (by decide) rfl ⟨rfl, by decide, by decide⟩ (fun w h Y => PySem.W.kIn_of Y) ?F (fun w _ a ns hl hT hS => Dv.law_sp (Kd.m_law []) (by decide) hS hT (Kd.law_true ns hl))
  case F =>
    intro w mg fa h Y KX G hmg
    refine' Kd.all_mk KX G hmg ?a_is_number ?l_is_number ?e_is_number ?k_is_number ?a_is_number_from ?l_is_number_from ?e_is_number_from ?k_is_number_from ?a_is_tuple_of ?l_is_tuple_of ?e_is_tuple_of ?k_is_tuple_of ?a_is_turns ?l_is_turns ?e_is_turns ?k_is_turns ?a_is_turn ?l_is_turn ?e_is_turn ?k_is_turn ?a_joined ?l_joined ?e_joined ?k_joined ?a_is_between_longer ?l_is_between_longer ?e_is_between_longer ?k_is_between_longer ?a_forgotten ?l_forgotten ?e_forgotten ?k_forgotten ?a_made_one ?l_made_one ?e_made_one ?k_made_one ?a_is_forgotten ?l_is_forgotten ?e_is_forgotten ?k_is_forgotten ?a__law_box ?l__law_box ?e__law_box ?k__law_box ?a__law_take ?l__law_take ?e__law_take ?k__law_take ?a__law_same ?l__law_same ?e__law_same ?k__law_same ?a__law_of ?l__law_of ?e__law_of ?k__law_of ?a__law_turns ?l__law_turns ?e__law_turns ?k__law_turns ?a__law_joined ?l__law_joined ?e__law_joined ?k__law_joined ?a__law_spots ?l__law_spots ?e__law_spots ?k__law_spots ?a__law_odd ?l__law_odd ?e__law_odd ?k__law_odd ?a__law_otherwise ?l__law_otherwise ?e__law_otherwise ?k__law_otherwise ?a__law_are_turns ?l__law_are_turns ?e__law_are_turns ?k__law_are_turns ?a__law_hill ?l__law_hill ?e__law_hill ?k__law_hill ?a__law_right ?l__law_right ?e__law_right ?k__law_right ?a_law ?l_law ?e_law ?k_law ?ab_when ?ab_rests_when ?ab_slowest ?y_BACK ?y_FORTH ?z_abs ?z_all ?z_bool ?z_int ?z_isinstance ?z_len ?z_list ?z_max ?z_min ?z_range ?z_repr ?z_str ?z_tuple ?z_zip
    (case a_is_number => k_is)
    (case l_is_number => k_is)
    (case e_is_number => k_is)
    (case k_is_number => k_is)
    (case a_is_number_from => k_is)
    (case l_is_number_from => k_is)
    (case e_is_number_from => k_is)
    (case k_is_number_from => k_is)
    (case a_is_tuple_of => k_is)
    (case l_is_tuple_of => k_is)
    (case e_is_tuple_of => k_is)
    (case k_is_tuple_of => k_is)
    (case a_is_turns => k_is)
    (case l_is_turns => k_is)
    (case e_is_turns => k_is)
    (case k_is_turns => k_is)
    (case a_is_turn => k_is)
    (case l_is_turn => k_is)
    (case e_is_turn => k_is)
    (case k_is_turn => k_is)
    (case a_joined => k_is)
    (case l_joined => k_is)
    (case e_joined => k_is)
    (case k_joined => k_is)
    (case a_is_between_longer => k_is)
    (case l_is_between_longer => k_is)
    (case e_is_between_longer => k_is)
    (case k_is_between_longer => k_is)
    (case a_forgotten => k_is)
    (case l_forgotten => k_is)
    (case e_forgotten => k_is)
    (case k_forgotten => k_is)
    (case a_made_one => k_is)
    (case l_made_one => k_is)
    (case e_made_one => k_is)
    (case k_made_one => k_is)
    (case a_is_forgotten => k_is)
    (case l_is_forgotten => k_is)
    (case e_is_forgotten => k_is)
    (case k_is_forgotten => k_is)
    (case a__law_box => k_is)
    (case l__law_box => k_is)
    (case e__law_box => k_is)
    (case k__law_box => k_is)
    (case a__law_take => k_is)
    (case l__law_take => k_is)
    (case e__law_take => k_is)
    (case k__law_take => k_is)
    (case a__law_same => k_is)
    (case l__law_same => k_is)
    (case e__law_same => k_is)
    (case k__law_same => k_is)
    (case a__law_of => k_is)
    (case l__law_of => k_is)
    (case e__law_of => k_is)
    (case k__law_of => k_is)
    (case a__law_turns => k_is)
    (case l__law_turns => k_is)
    (case e__law_turns => k_is)
    (case k__law_turns => k_is)
    (case a__law_joined => k_is)
    (case l__law_joined => k_is)
    (case e__law_joined => k_is)
    (case k__law_joined => k_is)
    (case a__law_spots => k_is)
    (case l__law_spots => k_is)
    (case e__law_spots => k_is)
    (case k__law_spots => k_is)
    (case a__law_odd => k_is)
    (case l__law_odd => k_is)
    (case e__law_odd => k_is)
    (case k__law_odd => k_is)
    (case a__law_otherwise => k_is)
    (case l__law_otherwise => k_is)
    (case e__law_otherwise => k_is)
    (case k__law_otherwise => k_is)
    (case a__law_are_turns => k_is)
    (case l__law_are_turns => k_is)
    (case e__law_are_turns => k_is)
    (case k__law_are_turns => k_is)
    (case a__law_hill => k_is)
    (case l__law_hill => k_is)
    (case e__law_hill => k_is)
    (case k__law_hill => k_is)
    (case a__law_right => k_is)
    (case l__law_right => k_is)
    (case e__law_right => k_is)
    (case k__law_right => k_is)
    (case a_law => k_is)
    (case l_law => k_is)
    (case e_law => k_is)
    (case k_law => k_is)
    (case ab_when => k_is)
    (case ab_rests_when => k_is)
    (case ab_slowest => k_is)
    (case y_BACK => k_is)
    (case y_FORTH => k_is)
    (case z_abs => k_is)
    (case z_all => k_is)
    (case z_bool => k_is)
    (case z_int => k_is)
    (case z_isinstance => k_is)
    (case z_len => k_is)
    (case z_list => k_is)
    (case z_max => k_is)
    (case z_min => k_is)
    (case z_range => k_is)
    (case z_repr => k_is)
    (case z_str => k_is)
    (case z_tuple => k_is)
    (case z_zip => k_is)
