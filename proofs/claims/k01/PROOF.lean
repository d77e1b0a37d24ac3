import PyProof.Rows.All
import Wide.All
import OpenK.AllK
import Wide.FinOn
import HandS.Base
import HandS.Call
import HandS.List
import HandS.Comp
import HandS.Ends
import HandS.Iter
import HandS.Words
import HandS.WordsList
import HandS.IsInst
import HandS.TryOnly
import HandS.Evl
import HandS.Walk
import HandS.Zip
import HandS.Conv
import HandS.Rev
import HandS.TupMul
import HandS.TupAny
import PyProof.ReprRoads
import PyProof.ReprLen
import PySem.Challenge.RW_forthback_k01_lines_seen_otherwise
set_option Elab.async false
set_option linter.all false
set_option maxRecDepth 100000
set_option maxHeartbeats 8000000
/-! Two rules in one; keywords alone; defs whose caller tells that no repr runs around them; repr of data. -/
namespace Xg
open PySem PySem.Spec PyProof.Rows L2

theorem pe_or {X : Cx} {e : Expr} {t u : TE} (a : PE X e t) (b : PE X e u) : PE X e (fun σ H Q => t σ H Q ∨ u σ H Q) :=
  ⟨fun pins s σ H Q I h => h.elim (a.run pins s σ H Q I) (b.run pins s σ H Q I)⟩
theorem pg_or {X : Cx} {e : Expr} {t u : TG} (a : PG X e t) (b : PG X e u) : PG X e (fun v σ H Q => t v σ H Q ∨ u v σ H Q) :=
  ⟨fun pins s σ H v z Q I r h => h.elim (a.run pins s σ H v z Q I r) (b.run pins s σ H v z Q I r)⟩
theorem op_or {X : Cx} {f : Value → Value → Sem Value} {r1 r2 : R2} (a : OpR X f r1) (b : OpR X f r2) : OpR X f (fun x y H Q => r1 x y H Q ∨ r2 x y H Q) :=
  fun pins s σ H x y v u Q I rx ry h => h.elim (a pins s σ H x y v u Q I rx ry) (b pins s σ H x y v u Q I rx ry)

/-! ### f(k = v, ..), keywords alone -/
/-- how they bind: g puts the keywords' values in the parameters' order -/
def KwOnly (K : PySem.W.Frag) (fd : FuncData) (ps ks : List Str) (g : {α : Type} → List α → List α) : Prop :=
  ∀ (s : Shared) (ws : List Value), K.In s.heap → ws.length = ks.length → BindsTo s fd ⟨[], ks.zip ws⟩ (ps.zip (g ws))
def tKw (n : Nat) (sp : Sp) (g : {α : Type} → List α → List α) (tk : TA) : TE := fun σ H Q => tk σ H fun zs H1 => zs.length = n ∧ sp (g zs) H1 Q E0
theorem pe_kw {X : Cx} {k : Nat} {f : Addr} {fd : FuncData} {ps ks : List Str} {sp : Sp} {x : Str} {p pos : Pos} {kws : List Keyword} {tk : TA} {g : {α : Type} → List α → List α}
    (F : FnOk X.prog X.w X.K X.mg X.base CX0 k f fd ps sp) (hr : Room k X.A) (hg : Gl X x) (hm : X.mg x = some (.ref f)) (hk : PySem.W.keepIn X.K (.ref f) = true)
    (hb : KwOnly X.K fd ps ks g) (hrel : ∀ {zs : List V} {ws : List Value}, Vals zs ws → Vals (g zs) (g ws)) (hkw : PK X kws tk)
    (hall : (backToKw pos (keywordEach kws X.env)).all (·.1.isSome) = true := by rfl) (hks : (backToKw pos (keywordEach kws X.env)).filterMap (·.1) = ks := by rfl)
    (hdb : (x == ("__debug__" : Str)) = false := by decide) (hpl : ((backTo pos (starEach [] X.env)).any (·.1) || (backToKw pos (keywordEach kws X.env)).any (·.1.isNone)) = false := by rfl) :
    PE X (.Call (.Name x p) [] kws pos) (tKw ks.length sp g tk) := by
  refine ⟨fun pins s σ H Q I h => ?_⟩
  refine wpAny_Call_Name_kw (ld_glob I hg hm ?_ hdb)
  refine PySem.W.callWith_KW0 (h₀ := X.base) I.ok.mod.kin hk hall (thn (hkw.run pos pins s σ H _ I h) fun ws s1 ⟨zs, H1, I1, rz, l1, q⟩ => ⟨I1.kIn, ?_⟩) hpl
  rw [hks]
  refine wpAny_call (codeAny_mono (F.run X.A X.stack s1 H1 ⟨[], ks.zip ws⟩ (g ws) (g zs) Q E0 hr I1.env0 (hb s1 ws I1.kIn (rz.length.symm.trans l1)) (hrel rz) q) fun res s' hq => ?_)
  cases res with
  | error er => exact hq.elim
  | ok fl =>
    cases fl with
    | ret u => exact I1.after hq
    | next => exact False.elim hq
    | brk => exact False.elim hq
    | cont => exact False.elim hq

/-! ### a def called where no repr runs around -/
structure FnG (P : Program) (w : World) (K : PySem.W.Frag) (mg : Str → Option Value) (base : Heap) (k : Nat) (f : Addr) (fd : FuncData) (ps : List Str) (sp : Sp) : Prop where
  len : ∀ vs H Q, sp vs H Q E0 → vs.length = ps.length
  run : ∀ (A : Around) (outer : List Env) (s : Shared) (H : Hp) (args : Args) (us : List Value) (vs : List V) (Q : VK), A.guards = some [] → Room k A → Env0 P w K mg base A outer s H →
    BindsTo s fd args (ps.zip us) → Vals vs us → sp vs H Q E0 → codeAny (model P w) A (.call (.ref f) args) (CR CX0 outer P w H s Q E0) s
section
variable {P : Program} {w : World} {K : PySem.W.Frag} {mg : Str → Option Value} {base : Heap}
theorem okG {x qual : Str} {st : Stmt} {f : Addr} {fd : FuncData} {N ps : List Str} {k : Nat} {sp : Sp} (F : Fun K x qual st f fd) (S : FnScope N ps (defScope st)) (len : ∀ vs H Q, sp vs H Q E0 → vs.length = ps.length)
    (hbody : ∀ (cdv : Value) (A : Around) (outer : List Env) (s : Shared) (H : Hp) (vs : List V) (Q : VK), (A.deeper (envOfC qual (defScope st) s.heap.objs.size f cdv)).guards = some [] →
      Room k (A.deeper (envOfC qual (defScope st) s.heap.objs.size f cdv)) → sp vs H Q E0 →
      ∃ t, PSs (cxOf CX0 P w K mg base N qual (defScope st) f cdv A outer s H E0).nox (defBody st) t ∧ t { nx := fun _ H' => Q .non H', rt := Q } (L2.start N vs) H) :
    FnG P w K mg base (k + 1) f fd ps sp := by
  obtain ⟨oc, od, kV, doc, pm, an, cdv, ct, osl, rfl, lk, hcd⟩ := F.ex
  refine ⟨len, fun A outer s H args us vs Q hG hr e0 hb r hsp => ?_⟩
  have inH : K.In s.heap := e0.mod.kin.keeps fun c u z => (e0.bs c u z).1
  have noL : s.heap.NoLimit := e0.mod.nolimit.keeps fun c u z => (e0.bs c u z).1
  refine codeAny_call_function hr.depth (inH _ _ lk) rfl S.co S.gen rfl (PySem.W.codeRec_of inH hcd) (hb _ _ _ _ ?_)
  refine wpAny_newFunctionEnv_cells S.kind (fun ⟨n, v⟩ hy => ?_) fun env he s1 ic => ?_
  · rcases S.par n (List.of_mem_zip hy).1 with z | z
    · exact .inl z
    · exact .inr ⟨z, PySem.W.cellsFrom_some _ _ _ (.inl z)⟩
  subst he
  refine ⟨noL.keeps ic.toInCall.keep, codeAny_func ?_⟩
  obtain ⟨t, ht0, hq⟩ := hbody cdv A outer s H vs Q hG (hr.deeper _) hsp
  have ht := ht0.nox
  have J0 : Inv (cxOf CX0 P w K mg base N qual (defScope st) f cdv A outer s H E0) [] (L2.start N vs) H s1 := inv_start S hr.hd e0 (len _ _ _ hsp) r ic
  refine wpAny_mono (ht.run [] s1 (L2.start N vs) H _ J0 hq) (fun fl s' hs => ?_) fun e s' hs => hs
  cases fl with
  | ret u =>
    obtain ⟨v, σ', H', J, rv, q⟩ := hs
    exact ⟨v, H', J.os, J.bare, J.base, J.hok, rv, q⟩
  | next =>
    obtain ⟨σ', H', J, q⟩ := hs
    exact ⟨V.non, H', J.os, J.bare, J.base, J.hok, rfl, q⟩
  | brk =>
    obtain ⟨_, _, _, q⟩ := hs
    exact False.elim q
  | cont =>
    obtain ⟨_, _, _, q⟩ := hs
    exact False.elim q
def tCallG (sp : Sp) (t : TA) : TE := fun σ H Q => t σ H fun vs H1 => sp vs H1 Q E0
theorem pe_callG {X : Cx} {k : Nat} {f : Addr} {fd : FuncData} {ps : List Str} {sp : Sp} {x : Str} {p pos : Pos} {e : Expr} {es : List Expr} {t : TA} (F : FnG X.prog X.w X.K X.mg X.base k f fd ps sp) (hG : X.A.guards = some []) (hr : Room k X.A)
    (hg : Gl X x) (hm : X.mg x = some (.ref f)) (hk : PySem.W.keepIn X.K (.ref f) = true) (hb : L2.Binds X.K fd ps []) (ha : PA X (e :: es) t) (hdb : (x == ("__debug__" : Str)) = false := by decide)
    (he : starEach (e :: es) X.env = (false, eval e X.env) :: starEach es X.env := by rfl) (hpl : (backTo pos (starEach es X.env)).any (·.1) = false := by rfl) :
    PE X (.Call (.Name x p) (e :: es) [] pos) (tCallG sp t) := by
  refine ⟨fun pins s σ H Q I h => ?_⟩
  refine wpAny_Call_Name_kw (ld_glob I hg hm ?_ hdb)
  refine PySem.W.callWith_K (h₀ := X.base) I.ok.mod.kin hk (thn (ha.run pos pins s σ H _ I h) fun us s1 ⟨vs, H1, I1, r, q⟩ => ⟨I1.kIn, ?_⟩) he hpl
  have hb1 := hb s1 us I1.kIn (by rw [List.append_nil, ← r.length]; exact F.len _ _ _ q)
  rw [List.append_nil] at hb1
  refine wpAny_call (codeAny_mono (F.run X.A X.stack s1 H1 ⟨us, []⟩ us vs Q hG hr I1.env0 hb1 r q) fun res s' hq => ?_)
  cases res with
  | error er => exact hq.elim
  | ok fl =>
    cases fl with
    | ret u => exact I1.after hq
    | next => exact False.elim hq
    | brk => exact False.elim hq
    | cont => exact False.elim hq
end
/-! ### the law's own call -/
theorem lawG {P : Program} {w : World} {K : PySem.W.Frag} {mg mb : Str → Option Value} {k : Nat} {fa a : Addr} {fd : FuncData} {x : Str} {sp : Sp} {s1 : Shared} {vs : List Value} {ns : List Int}
    (inK : K.In s1.heap) (gl : s1.heap.Ns mainGlobals mg) (bl : s1.heap.Ns builtinsNs mb) (bb : ∀ x : Str, x ≠ "__name__" → mb x = bootBuiltins x) (noL : s1.heap.NoLimit) (gn : s1.gens = #[])
    (at_ : s1.heap.get? a = some { cls := .type "list", data := .seq vs.toArray }) (are : IntsAre vs ns) (few : ns.length ≤ sizeLine) (rm : Room k callerA)
    (F : ∀ base : Heap, K.In base → base.Ns mainGlobals mg → FnG P w K mg base k fa fd [x] sp) (bd : ∀ (s : Shared) (u : Value), BindsTo s fd ⟨[u], []⟩ [(x, u)])
    (hsp : ∀ H : Hp, Only H → SqL K H a (ns.map V.int) → sp [.ref a] H (fun v _ => v = .bl true) E0) :
    codeAny (model P w) callerA (.call (.ref fa) ⟨[.ref a], []⟩) (fun r s' => r = .ok (.ret (.bool true)) ∧ OldK s1.heap s'.heap ∧ s'.os = s1.os ∧ AllBare s'.gens) s1 := by
  have rel := vals_ints are
  have ln := are.length
  have main : ∀ H : Hp, Only H → SqL K H a (ns.map V.int) → HOk P w H s1.heap → (∀ b, H b ≠ none → b = a) → (H a ≠ none → K.lookup a = none) →
      codeAny (model P w) callerA (.call (.ref fa) ⟨[.ref a], []⟩) (fun r s' => r = .ok (.ret (.bool true)) ∧ OldK s1.heap s'.heap ∧ s'.os = s1.os ∧ AllBare s'.gens) s1 := by
    intro H only sq ok here off
    have hid : ∀ {b : Addr} {o : Obj}, s1.heap.get? b = some o → H b = none → (hidT s1.heap H).get? b = some o := fun e n => hidT_get e n
    have isA : ∀ {b : Addr} {u : HO}, H b = some u → b = a := fun {b u} z => here b (by rw [z]; simp)
    have dictFree : ∀ {b : Addr} {o : Obj} {es : Array DictEntry} {ep : Nat}, s1.heap.get? b = some o → o.data = .dict es ep → H b = none := fun {b o es ep} e d => by
      cases z : H b with
      | none => rfl
      | some u =>
        have e1 := isA z
        subst e1
        rw [at_] at e
        cases e
        have d1 : Data.seq vs.toArray _ = Data.dict es ep := d
        cases d1
    have nsOk : ∀ {b : Addr} {m : Str → Option Value}, s1.heap.Ns b m → (hidT s1.heap H).Ns b m := fun {b m} ⟨o, es, ep, e, d, r⟩ => ⟨o, es, ep, hid e (dictFree e d), d, r⟩
    have inB : K.In (hidT s1.heap H) := fun b o e => hid (inK b o e) (by
      cases z : H b with
      | none => rfl
      | some u =>
        have e1 := isA z
        subst e1
        rw [off (by rw [z]; simp)] at e
        cases e)
    have md : Mod K mg (hidT s1.heap H) := ⟨inB, nsOk gl, ⟨mb, nsOk bl, bb⟩, let ⟨mc, h1, h2⟩ := noL; ⟨mc, nsOk h1, h2⟩⟩
    have ev : Env0 P w K mg (hidT s1.heap H) callerA [] s1 H :=
      ⟨rfl, md, fun b o e => of_hidT e, Nat.le_of_eq (hidT_size _ _), trivial, fun b hb => absurd (show b ∈ ([] : List Addr) from hb) (by simp), ok, .of_eq gn⟩
    refine codeAny_mono ((F _ inB (nsOk gl)).run callerA [] s1 H ⟨[.ref a], []⟩ [.ref a] [.ref a] _ rfl rm ev (bd s1 (.ref a)) (.cons rfl .nil) (hsp H only sq)) fun r s' h => ?_
    cases r with
    | error e => exact h.elim
    | ok fl =>
      cases fl with
      | next => exact False.elim h
      | brk => exact False.elim h
      | cont => exact False.elim h
      | ret u =>
        obtain ⟨v, H', os, bare, un, ok', rv, z⟩ := h
        obtain rfl : v = .bl true := z
        obtain rfl : u = Value.bool true := rv
        refine ⟨rfl, OldK.of_keep fun b o e => ?_, os, bare⟩
        rcases only b with n | ⟨ob, xs, z⟩
        · exact un.keep b o e n (fun z => absurd (show b ∈ ([] : List Addr) from z) (by simp)) (by simp)
        · have z2 := un.frzs b ob _ z
          obtain ⟨e1, _⟩ := ok b _ z
          obtain ⟨e2, _⟩ := ok' b _ z2
          rw [e] at e1
          cases e1
          exact e2
  cases lk : K.lookup a with
  | some o =>
    have e := inK a o lk
    rw [at_] at e
    cases e
    refine main (fun _ => none) (fun _ => .inl rfl) (.inr ⟨_, vs.toArray, _, lk, rfl, rfl, rfl, by rw [List.size_toArray, ln]; exact few, by simpa using rel⟩)
      (fun b u z => by have z1 : (none : Option HO) = some u := z; cases z1) (fun b z => absurd rfl z) fun z => absurd rfl z
  | none =>
    refine main (fun b => if b = a then some (.frz { cls := .type "list", data := .seq vs.toArray } (.lst (ns.map V.int))) else none) (fun b => ?_)
      (.inl (.inr ⟨{ cls := .type "list", data := .seq vs.toArray }, if_pos rfl⟩)) (fun b u z => ?_) (fun b z => ?_) fun _ => lk
    · by_cases e : b = a
      · exact .inr ⟨_, _, if_pos e⟩
      · exact .inl (if_neg e)
    · by_cases e : b = a
      · have z1 := (if_pos e).symm.trans z
        cases z1
        subst e
        exact ⟨at_, by rw [List.length_map]; exact few, vs, _, rel, at_⟩
      · have z1 := (if_neg e).symm.trans z
        cases z1
    · by_cases e : b = a
      · exact e
      · exact absurd (if_neg e) z
theorem walkG {l : PySem.W.OpenLaw} {n k : Nat} {q : Program} {loose : List Str} {XP : (Str → Option Value) → Heap → Prop} {YP : World → Heap → Prop} {d : DefRec} {K : Params → PySem.W.Frag} {sp : World → Sp} {x : Str}
    (hn : l.most = some n) (hn2 : n ≤ sizeLine) (hdf : d.params.defaults = []) (rm : Room k callerA) (hY : ∀ (w : World) (h : Heap), YP w h → (K w.params).In h)
    (F : ∀ (w : World) (mg : Str → Option Value) (fa : Addr) (h : Heap), (K w.params).In h → h.Ns mainGlobals mg → mg d.name = some (.ref fa) →
      ∃ fd : FuncData, (∀ (s : Shared) (u : Value), BindsTo s fd ⟨[u], []⟩ [(x, u)]) ∧
        ∀ base : Heap, (K w.params).In base → base.Ns mainGlobals mg → FnG l.prog w (K w.params) mg base k fa fd [x] (sp w))
    (hsp : ∀ (w : World) (H : Hp) (a : Addr) (ns : List Int), ns.length ≤ n → Only H → SqL (K w.params) H a (ns.map V.int) → sp w [.ref a] H (fun v _ => v = .bl true) E0) :
    PySem.W.WalkO q loose XP YP l.row.toRowW d [] (fun f vs => PySem.call f vs) := by
  refine Att.attach_call hn hdf fun w s0 s1 mg mb fa o pm cd doc a vs ns G Y ho hd hcd hmg at_ are few gn => ?_
  obtain ⟨fd, bd, hF⟩ := F w mg fa _ (hY w _ Y) G.T.g hmg
  exact lawG (hY w _ Y) G.T.g G.T.b G.T.builtins G.T.nolimit gn at_ are (Nat.le_trans few hn2) rm hF bd fun H only sq => hsp w H a ns few only sq

/-! ### repr of data -/
theorem bt_repr : bootBuiltins "repr" = some (.builtin "repr") := by decide +kernel
def rRepr (K : PySem.W.Frag) : List V → Hp → VK → Prop := fun xs H Q => ∃ (a : Addr) (d : PyData), xs = [.ref a] ∧ Dp K H (.ref a) d ∧ d.showable = true ∧ d.hasDict = false ∧ d.depth ≤ 60 ∧ d.shown.length ≤ sizeLine ∧ Q (.str d.shown) H
theorem call_reprD {X : Cx} (hG : X.A.guards = some []) (hu : X.A.units + 64 < cLine) : CallR X (.builtin "repr") (rRepr X.K) := by
  intro pins s σ H xs us Q I r h
  obtain ⟨a, d, rfl, hd, h1, h2, h3, h4, q⟩ := h
  cases r with
  | cons rx rr =>
    cases rr
    cases rx
    obtain ⟨as, rd⟩ := Dp.reads I d (.ref a) (.ref a) hd rfl
    refine repr_of_reads' rd h1 (fun z => by rw [h2] at z; cases z) hG (by omega) (fun b o e => e) (fun h' u tk hk => ?_) h4
    exact ⟨.str d.shown, H, I.kept (t' := tk) hk, ⟨_, rfl⟩, q⟩
end Xg
/-! tuple(reversed(t)) of a tuple, at the library's level -/
namespace RT
open PySem PySem.Spec PyProof.Rows
theorem nolen_rt : typeLookup (.type "reversed") "__len__" = pure none := by rw [typeLookup_type, builtinLookup_eq_fast]; kernel_rfl
theorem slot_rt_hint : Slot "reversed" "__length_hint__" "reversed.__length_hint__" :=
  .of (owner := "reversed") (n := "__length_hint__") (by rw [typeLookup_type, builtinLookup_eq_fast]; kernel_rfl) (by decide +kernel) (by decide +kernel)
    (by decide +kernel) (by first | exact .inl (by decide +kernel) | exact .inr (by decide +kernel)) (by rw [isSubtype_type]; kernel_rfl)
theorem entry_rt_hint : entryFor table "reversed.__length_hint__" = some Builtin.«reversed.__length_hint__» := entryFor_of_tree (by kernel_rfl)
theorem args_rt_hint (a : Value) : argsOk "reversed.__length_hint__" ⟨[a], []⟩ := by
  unfold argsOk
  rw [signature?_of (id := "reversed.__length_hint__") (n := ['_', '_', 't', 'n', 'i', 'h', '_', 'h', 't', 'g', 'n', 'e', 'l', '_', '_']) (o := ['d', 'e', 's', 'r', 'e', 'v', 'e', 'r']) (by kernel_rfl) owner_rt]
  kernel_rfl
section
variable {prog : Program} {w : World} {A : Around} {E : Value → Shared → Prop} {s : Shared}
theorem hint_rt {it t : Addr} {items : Array Value} {Q : Bool → Shared → Prop} (hit : IsRt s.heap it t ((items.size : Int) - 1)) (ht : IsTup s.heap t items) (hpos : 0 < items.size) (hn : items.size ≤ 1000)
    (k : ∀ tk, Q true { s with toks := tk }) : wpAny (model prog w) A (Builtin.List.listLengthHint (.ref it)) Q E s := by
  obtain ⟨o, ho, hc, hd⟩ := id hit
  have hT := hit.typeIs
  unfold Builtin.List.listLengthHint
  refine wpAny_bind (wpAny_specialOf hT nolen_rt ?_)
  show wpAny _ _ (specialOf (Value.ref it) (Str.ofString "__length_hint__") >>= _) _ _ _
  refine wpAny_bind (wpAny_specialOf hT slot_rt_hint.lookup ?_)
  generalize hid : ("reversed.__length_hint__" : String) = id0
  wp_delta
  rw [show splitId id0 = some ("reversed", "__length_hint__") from by subst hid; decide +kernel]
  subst hid
  refine wpAny_bind (wpAny_isInstance (b := true) hT (by rw [isSubtype_type]; kernel_rfl) ?_)
  refine wpAny_ite_split (fun hab => absurd hab (by decide)) (fun _ => ?_)
  refine wpAny_ite_split (fun hab => absurd hab (by decide +kernel)) (fun _ => ?_)
  refine wpAny_bind (wpAny_rule ?_)
  rw [slot_rt_hint.bind]
  refine wpAny_bind (wpAny_pure ?_)
  refine wpAny_bind (wpAny_attempt (wpAny_call_entry slot_rt_hint hT entry_rt_hint ?_ (args_rt_hint _)))
  unfold Builtin.«reversed.__length_hint__»
  refine wpAny_bind (wpAny_of_eq (a := Value.ref it) rfl ?_)
  refine wpAny_bind (wpAny_field ho hd (x := .ref t) rfl ?_)
  refine wpAny_ite_split (fun hab => absurd hab (by simp)) (fun _ => ?_)
  refine wpAny_bind (len_tuple ht (by omega) ?_)
  refine wpAny_bind (m := asInt? _) (wpAny_pure ?_)
  refine wpAny_bind (wpAny_field (s := { s with toks := s.toks + 1 + 1 }) ho hd (x := rawInt ((items.size : Int) - 1)) rfl ?_)
  show wpAny _ _ (if (items.size : Int) < (items.size : Int) - 1 + 1 then _ else _) _ _ _
  rw [if_neg (by omega)]
  unfold retInt
  refine wpAny_bind (wpAny_mkInt (wpAny_pure ⟨_, rfl, ?_⟩))
  show wpAny _ _ (asInt? (Value.int ((items.size : Int) - 1 + 1) _) >>= _) _ _ _
  refine wpAny_bind (m := asInt? _) (wpAny_pure ?_)
  have f1 : Builtin.List.listFitsIndex ((items.size : Int) - 1 + 1) = true := by
    unfold Builtin.List.listFitsIndex
    simp
    omega
  have f2 : Builtin.List.listTooLong ((items.size : Int) - 1 + 1).toNat = false := by
    simp [Builtin.List.listTooLong, sizeLine]
    omega
  refine wpAny_ite_split (fun hab => absurd hab (by rw [f1]; decide)) (fun _ => ?_)
  refine wpAny_ite_split (fun hab => absurd hab (by omega)) (fun _ => ?_)
  refine wpAny_ite_split (fun hab => absurd hab (by rw [f2]; decide)) (fun _ => ?_)
  refine wpAny_pure ?_
  have e : ((items.size : Int) - 1 + 1 != 0) = true := bne_iff_ne.mpr (by omega)
  rw [e]
  exact k _
/-- its items, one by one -/
theorem walks_rt (hh : A.handled = none) (I t : Addr) (hne : t ≠ I) (items : Array Value) (hn : items.size ≤ sizeLine) :
    Walks prog w A I [I, t] [I] items.size (fun i v => items[items.size - 1 - i]? = some v) (fun i h => i ≤ items.size ∧ IsRt h I t ((items.size : Int) - 1 - (i : Int)) ∧ IsTup h t items) where
  sub := fun b hb => by
    simp at hb
    simp [hb]
  frame := fun _ _ _ x hk => ⟨x.1, x.2.1.at fun o e => hk I (by simp) o e, let ⟨o, ho, r⟩ := x.2.2; ⟨o, hk t (by simp) o ho, r⟩⟩
  item := fun i s Q E hi x hQ => by
    have e : (items.size : Int) - 1 - (i : Int) = ((items.size - 1 - i : Nat) : Int) := by omega
    have g := x.2.1
    rw [e] at g
    have hx : items[items.size - 1 - i]? = some (items[items.size - 1 - i]'(by omega)) := Array.getElem?_eq_getElem (by omega)
    refine next_rt_item g x.2.2 hx hn fun h' g' sm => ?_
    have e2 : ((items.size - 1 - i : Nat) : Int) - 1 = (items.size : Int) - 1 - ((i + 1 : Nat) : Int) := by omega
    rw [e2] at g'
    have tp : IsTup h' t items := let ⟨o, ho, r⟩ := x.2.2; ⟨o, (sm.2 t hne).trans ho, r⟩
    exact hQ _ h' _ hx ⟨hi, g', tp⟩ fun b o hb eo => sm.extBut b o (fun z => hb (by simp [z])) eo
  done := fun s Q E x hQ => by
    have e : (items.size : Int) - 1 - (items.size : Int) = -1 := by omega
    have g := x.2.1
    rw [e] at g
    exact next_rt_end hh g fun h' he => hQ h' s.toks fun b o hb eo => he b o (fun z => hb (by simp [z])) eo
  self := fun _ _ _ _ x hQ => iter_rt x.2.1 hQ
theorem collect_rt {it t : Addr} {items : Array Value} {Q : List Value → Shared → Prop} (hh : A.handled = none) (hit : IsRt s.heap it t ((items.size : Int) - 1)) (ht : IsTup s.heap t items) (hne : t ≠ it) (hpos : 0 < items.size) (hn : items.size ≤ 1000)
    (fin : ∀ (h' : Heap) (tk : Nat) (acc : Array Value), (∀ b o, b ≠ it → s.heap.get? b = some o → h'.get? b = some o) → ItemsOf (fun i v => items[items.size - 1 - i]? = some v) acc items.size → Q acc.toList { s with heap := h', toks := tk }) :
    wpAny (model prog w) A (collect (.ref it)) Q E s := by
  have hn' : items.size ≤ sizeLine := by rw [sizeLine_eq]; omega
  have W := (walks_rt (prog := prog) (w := w) (A := A.in1) hh it t hne items hn').toS
  obtain ⟨oi, hoi, _⟩ := id hit
  obtain ⟨ot, hot, _⟩ := id ht
  have nI : s.heap.objs.size ≠ it := Nat.ne_of_gt (Heap.lt_size hoi)
  have nT : s.heap.objs.size ≠ t := Nat.ne_of_gt (Heap.lt_size hot)
  have nF : s.heap.objs.size ∉ [it, t] := by
    simp only [List.mem_cons, List.not_mem_nil, or_false, not_or]
    exact ⟨nI, nT⟩
  unfold collect
  refine wpAny_bind (wpAny_runValue (codeAny_builtin F.entry_proto_collect ?_))
  rw [Around.under_plainId F.plain_proto_collect _]
  show wpAny _ A.in1 (newList [] >>= fun n' => again (.builtin "list.__iadd__" ⟨[n', .ref it], []⟩)) _ _ s
  refine wpAny_bind (wpAny_newObj_type ?_)
  refine wpAny_pure ⟨plainId_quiet F.plain_list_iadd _, codeAny_builtin F.entry_list_iadd ?_⟩
  rw [Around.under_plainId F.plain_list_iadd _]
  have s0 : (s.heap.push { cls := .type "list", data := .seq ([] : List Value).toArray }).get? s.heap.objs.size = some { cls := .type "list", data := .seq ([] : List Value).toArray } := Heap.get?_push_size _ rfl
  have hit1 : IsRt (s.heap.push { cls := .type "list", data := .seq ([] : List Value).toArray }) it t ((items.size : Int) - 1) := hit.at fun o e => Heap.get?_push_of_some _ e
  have ht1 : IsTup (s.heap.push { cls := .type "list", data := .seq ([] : List Value).toArray }) t items := let ⟨o, ho, r⟩ := ht; ⟨o, Heap.get?_push_of_some _ ho, r⟩
  have hT : ({ s with heap := s.heap.push { cls := .type "list", data := .seq ([] : List Value).toArray } } : Shared).TypeIs (.ref it) "reversed" := hit1.typeIs
  have n1 : Builtin.List.listSameRef (.ref s.heap.objs.size) (.ref it) = false := by simp [Builtin.List.listSameRef, nI]
  show wpAny _ A.in1 (Builtin.List.listExtendWith (.ref s.heap.objs.size) (.ref it) (.ref s.heap.objs.size)) _ _ _
  unfold Builtin.List.listExtendWith
  refine wpAny_bind (wpAny_typeOf hT ?_)
  rw [if_neg (by rw [n1]; decide)]
  refine wpAny_bind (iter_rt (s := { s with heap := s.heap.push { cls := .type "list", data := .seq ([] : List Value).toArray } }) hit1 ?_)
  refine wpAny_bind (wpAny_holding (hint_rt (s := { s with heap := s.heap.push { cls := .type "list", data := .seq ([] : List Value).toArray } }) hit1 ht1 hpos hn fun tk => ?_))
  show wpAny _ A.in1 (rule "list.extend.makes-room" >>= fun _ => Builtin.List.listTouch (.ref s.heap.objs.size) >>= fun _ =>
    again (.builtin "list.extend.loop" ⟨[.ref s.heap.objs.size, .ref it, .ref s.heap.objs.size], []⟩)) _ _ _
  refine wpAny_bind (wpAny_rule ?_)
  refine wpAny_bind ?_
  show wpAny _ A.in1 (updateSeq s.heap.objs.size (·.push .none) >>= fun _ => updateSeq s.heap.objs.size (·.pop)) _ _ _
  refine wpAny_bind (wpAny_updateSeq s0 rfl ?_)
  have s2 := Heap.get?_update_self (Obj.mapSeq (·.push Value.none)) s0 rfl
  refine wpAny_updateSeq s2 rfl ?_
  have s3 := Heap.get?_update_self (Obj.mapSeq (·.pop)) s2 rfl
  have oth : ∀ b o, b ≠ s.heap.objs.size → (s.heap.push { cls := .type "list", data := .seq ([] : List Value).toArray }).get? b = some o →
      (((s.heap.push { cls := .type "list", data := .seq ([] : List Value).toArray }).update s.heap.objs.size (Obj.mapSeq (·.push Value.none))).update s.heap.objs.size (Obj.mapSeq (·.pop))).get? b = some o :=
    fun b o hb e => (Heap.get?_update_other _ _ (Ne.symm hb)).trans ((Heap.get?_update_other _ _ (Ne.symm hb)).trans e)
  have e0 : ((items.size : Nat) : Int) - 1 - ((0 : Nat) : Int) = (items.size : Int) - 1 := by omega
  have st0 : IsRt _ it t ((items.size : Int) - 1) := hit1.at fun o e => oth it o nI.symm e
  have st1 : IsTup _ t items := let ⟨o, ho, r⟩ := ht1; ⟨o, oth t o nT.symm ho, r⟩
  refine wpAny_pure ⟨plainId_quiet F.plain_extend_loop _, codeAny_extend_loopS W hn' _ nF _ items.size 0 _ _ _ rfl (Nat.zero_le _) ⟨Nat.zero_le _, by rw [e0]; exact st0, st1⟩ s3 (ItemsOf.nil _) fun s' acc' c' hm hS' hacc => ?_⟩
  show wpAny _ A (load s.heap.objs.size >>= _) _ _ s'
  refine wpAny_bind (wpAny_load hS' ?_)
  refine wpAny_pure ?_
  rw [Moved.eq_with hm]
  refine fin s'.heap s'.toks acc' (fun b o hb e => ?_) hacc
  have lt := Heap.lt_size e
  refine hm.heap b o (fun hmem => ?_) (oth b o (Nat.ne_of_lt lt) (Heap.get?_push_of_some _ e))
  rcases List.mem_cons.mp hmem with z | z
  · exact absurd lt (by rw [z]; exact Nat.lt_irrefl _)
  · exact hb (List.mem_singleton.mp z)
theorem tuple_new_rt {it t : Addr} {items : Array Value} {Q1 : Value → Shared → Prop} (hh : A.handled = none) (hit : IsRt s.heap it t ((items.size : Int) - 1)) (ht : IsTup s.heap t items) (hne : t ≠ it) (hpos : 0 < items.size) (hn : items.size ≤ 1000)
    (fin : ∀ (h' : Heap) (tk : Nat) (acc : Array Value), (∀ b o, b ≠ it → s.heap.get? b = some o → h'.get? b = some o) → ItemsOf (fun i v => items[items.size - 1 - i]? = some v) acc items.size →
      Q1 (.ref h'.objs.size) { s with heap := h'.push { cls := .type "tuple", data := .seq acc }, toks := tk }) :
    codeAny (model prog w) A (.call (.builtin "tuple.__new__") ⟨[.type "tuple", .ref it], []⟩) (wants Q1 E) s := by
  refine codeAny_of_tree ?_
  show wpAny _ A.in1 (do
    checkBuiltinCall "tuple.__new__" ⟨[.type "tuple", .ref it], []⟩
    again (.builtin "tuple.__new__" ⟨[.type "tuple", .ref it], []⟩)) _ _ s
  refine wpAny_bind (wpAny_of_eq (F.newCall_tuple_1 _) (wpAny_pure ⟨plainId_quiet F.plain_tuple_new _, codeAny_builtin F.entry_tuple_new ?_⟩))
  rw [Around.under_plainId F.plain_tuple_new _]
  have f1 := sub_tuple_self
  have f2 := init_tuple_lookup
  have f3 := madeHere_tuple
  have f4 : s.TypeIs (.ref it) "reversed" := hit.typeIs
  have f5 : A.in1.handled = none := hh
  wp_walk using wpAny_typeOf f4, collect_rt (A := A.in1) f5 hit ht hne hpos hn
  intro h' tk acc keep items'
  show wpAny _ _ (Builtin.Tuple.tupleExact acc.toList.toArray >>= fun v => ret v) _ _ _
  unfold Builtin.Tuple.tupleExact
  have e : acc.toList.toArray = acc := by simp
  rw [e]
  refine wpAny_bind (wpAny_newObj_type ?_ (by show acc.size ≤ sizeLine; rw [items'.1, sizeLine_eq]; omega))
  exact wpAny_pure (fin h' tk acc keep items')
theorem call_tuple_rt {it t : Addr} {items : Array Value} {Q : Value → Shared → Prop} (hh : A.handled = none) (hit : IsRt s.heap it t ((items.size : Int) - 1)) (ht : IsTup s.heap t items) (hne : t ≠ it) (hpos : 0 < items.size) (hn : items.size ≤ 1000)
    (fin : ∀ (h' : Heap) (tk : Nat) (acc : Array Value), (∀ b o, b ≠ it → s.heap.get? b = some o → h'.get? b = some o) → ItemsOf (fun i v => items[items.size - 1 - i]? = some v) acc items.size →
      Q (.ref h'.objs.size) { s with heap := h'.push { cls := .type "tuple", data := .seq acc }, toks := tk }) :
    wpAny (model prog w) A (call (.type "tuple") [.ref it]) Q E s := by
  refine callType_codes (Q₁ := fun obj s' => s'.TypeIs obj "tuple" ∧ Q obj s') F.called_tuple (F.typeCall_tuple_1 _) F.entry_object_init
    (tuple_new_rt (A := A.in1) hh hit ht hne hpos hn fun h' tk acc keep its => ⟨⟨_, Heap.get?_push_size _ rfl, rfl⟩, fin h' tk acc keep its⟩) fun obj s' g => ?_
  exact ⟨g.1, F.args_object_init_2 obj _, object_init_meets F.called_tuple.init.lookup F.called_tuple.made (by decide) prog w A.in1 _ s' ⟨g.1, rfl, g.2⟩⟩
end
end RT
namespace Xg
open PySem PySem.Spec PyProof.Rows L2
/-- tuple(reversed(x)), x a tuple that isn't bare: a new tuple -/
def tRevT (K : PySem.W.Frag) (te : TE) : TE := fun σ H Q => te σ H fun v H1 => ∃ (a : Addr) (xs : List V), v = .ref a ∧ SqT K H1 a xs ∧ xs ≠ [] ∧ xs.length ≤ 1000 ∧ ∀ q, H1 q = none → Q (.ref q) (upd H1 q (.tup xs.reverse))
theorem pe_revT {X : Cx} {e : Expr} {te : TE} {p p2 pos pos2 : Pos} (hc : X.calm = true) (hg : Gl X "tuple") (hm : X.mg "tuple" = none) (hg2 : Gl X "reversed") (hm2 : X.mg "reversed" = none) (he : PE X e te)
    (h1 : starEach [e] X.env = (false, eval e X.env) :: starEach [] X.env := by rfl)
    (h2 : starEach [.Call (.Name "reversed" p2) [e] [] pos2] X.env = (false, eval (.Call (.Name "reversed" p2) [e] [] pos2) X.env) :: starEach [] X.env := by rfl) :
    PE X (.Call (.Name "tuple" p) [.Call (.Name "reversed" p2) [e] [] pos2] [] pos) (tRevT X.K te) := by
  refine ⟨fun pins s σ H Q I h => ?_⟩
  refine Call_ (ld_blt I hg hm boot_tuple (PyProof.Rows.callWith_type1 (args_cons (Call_ (ld_blt I hg2 hm2 PyProof.Rows.boot_reversed
    (PyProof.Rows.callWith_type1 (args_cons (thn (he.run pins s σ H _ I h) fun u s1 hh => args_nil ?_) h1) h1 rfl))) h2) h2 rfl))
  obtain ⟨v, H1, I1, r1, a, xs, rfl, hq, hx, hl, q⟩ := hh
  obtain rfl : u = Value.ref a := r1
  obtain ⟨its, rv, tp, hz⟩ := I1.tuple hq
  have len1 := rv.length
  have sz : its.toArray.size = xs.length := by rw [List.size_toArray, len1]
  have pos0 : 0 < its.toArray.size := by
    rw [sz]
    exact List.length_pos_iff.mpr hx
  refine RT.call_reversed_tup tp (fun A E Q k => len_tuple tp (by rw [sz]; omega) k) (args_nil ?_)
  obtain ⟨I2, _⟩ : Inv X pins σ H1 { s1 with heap := s1.heap.push (RT.rtObj a ((its.toArray.size : Int) - 1)), toks := s1.toks + 1 + 1 } ∧ True :=
    ⟨I1.kept (t' := s1.toks + 1 + 1) fun b o z => Heap.get?_push_of_some _ z, trivial⟩
  obtain ⟨f0, f1, f2, f3, f4, f5⟩ := I1.fpOk (H' := H1) (b := s1.heap.objs.size) (Nat.le_refl _) (I1.hok.fresh (Nat.le_refl _))
  obtain ⟨ot, hot, r⟩ := id tp
  have ne : a ≠ s1.heap.objs.size := Nat.ne_of_lt (Heap.lt_size hot)
  refine RT.call_tuple_rt (s := { s1 with heap := s1.heap.push (RT.rtObj a ((its.toArray.size : Int) - 1)), toks := s1.toks + 1 + 1 }) (I1.ok.hd hc) ⟨_, Heap.get?_push_size _ rfl, rfl, rfl⟩
    ⟨ot, Heap.get?_push_of_some _ hot, r⟩ ne pos0 (by rw [sz]; exact hl) fun h' tk acc keep hi => ?_
  have I3 : Inv X pins σ H1 { s1 with heap := h', toks := tk } := I2.turned (t' := tk) (fun b o hb z => keep b o hb z) f0 f1 f3 f4 f5
  refine ⟨.ref h'.objs.size, upd H1 h'.objs.size (.tup xs.reverse), I3.laid (t' := tk) (fun c o z => Heap.get?_push_of_some _ z) (Nat.le_refl _)
    (show ObjOk X.prog X.w _ _ _ (.tup xs.reverse) from ⟨by rw [List.length_reverse]; exact Evl.sz_of (by omega), acc.toList, RT.vals_rev rv hi, ?_⟩), rfl, q _ (I3.hok.fresh (Nat.le_refl _))⟩
  rw [Array.toArray_toList]
  exact IsTup.new _ _
end Xg
namespace Xg
open PySem PySem.Spec PyProof.Rows L2
/-- t * 1 is t -/
theorem tuple_mul1 (l : Addr) (items : Array Value) (n : Nat) (dd : Option Addr) (sl : Array (Option Value)) (u : Tok) :
    Meets (Builtin.«tuple.__mul__» ⟨[.ref l, .int 1 u], []⟩) (fun _ R s => s.heap.get? l = some { cls := .type "tuple", dict := dd, data := .seq items n, slots := sl } ∧ R (.ok (.ret (Value.ref l))) s) :=
  .of_wp fun prog w A R s h => by
    obtain ⟨hp, g, d, tk, os⟩ := s
    obtain ⟨hl, h⟩ := h
    have f1 := AutoSeq1.idx_int
    have c1 : (items.isEmpty || (1 : Int) == 1) = true := by simp
    wp_walk using wpAny_loadPart' hl
    exact ⟨_, rfl, h⟩
def rRep1 (K : PySem.W.Frag) : R2 := fun x y H Q => ∃ l xs, x = .ref l ∧ y = .int 1 ∧ SqT K H l xs ∧ Q (.ref l) H
theorem op_rep1 {X : Cx} : OpR X (binaryOp .Mult) (rRep1 X.K) := by
  intro pins s σ H x y v u Q I rx ry h
  obtain ⟨l, xs, rfl, rfl, hT, q⟩ := h
  cases rx
  obtain ⟨t, rfl⟩ := ry
  obtain ⟨its, r, ⟨⟨cls, dd, data, sl⟩, ho, hc, n, hd⟩, hs⟩ := I.tuple hT
  simp only at hc hd
  subst hc hd
  refine wpAny_binaryOp_repeat_ref (T := "tuple") (U := "int") (by decide) ⟨_, ho, rfl⟩ (fun s' => typeIs_int s' 1 t) noFill_tuple_mul F.fills_int_mul F.slot_int_rmul repeat_tuple F.slot_int_index.lookup
    (call_meets F.slot_int_rmul (typeIs_int s 1 t) F.entry_int_rmul (F.args_int_rmul_2 _ _) (int_rmul_tuple 1 t l its.toArray n dd sl)
      ⟨ho, rfl, ⟨_, ho, rfl⟩, call_meets F.slot_tuple_mul ⟨_, ho, rfl⟩ F.entry_tuple_mul (F.args_tuple_mul_2 _ _) (tuple_mul1 l its.toArray n dd sl t) ⟨ho, ?_⟩⟩)
  exact ⟨.ref l, H, I, rfl, q⟩
end Xg
namespace Kd
open PySem PySem.Spec PyProof.Rows L2 Xg
def topS (i : Nat) : Stmt := PySem.Challenge.pw_forthback_k01_lines_seen_otherwise.main.body.getD i (.Pass ⟨0, 0, 0, 0⟩)
abbrev sBox : Stmt := topS 19
abbrev sTake : Stmt := topS 20
theorem scB : FnScope ["_law_script", "_law_k", "_law_cell"] ["_law_script", "_law_k"] (defScope sBox) := ⟨rfl, rfl, rfl, by decide +kernel, rfl, by decide +kernel, by decide +kernel⟩
theorem scT : FnScope ["_law_box_here", "_law_bound", "_law_found", "_law_once"] ["_law_box_here", "_law_bound"] (defScope sTake) := ⟨rfl, rfl, rfl, by decide +kernel, rfl, by decide +kernel, by decide +kernel⟩
theorem inRange {i n : Int} (h : 0 < n) : 0 ≤ i % n ∧ i % n < n := ⟨Int.emod_nonneg i (by omega), Int.emod_lt_of_pos i h⟩
theorem pos1 : (0 : Int) < 2147483647 := by decide
theorem pos2 : (0 : Int) < 40009 := by decide
theorem pos3 : (0 : Int) < 2147483629 := by decide
section
variable {P : Program} {w : World} {K : PySem.W.Frag} {mg : Str → Option Value} {base : Heap}
/-- the next draw below n: some number there; the box's first falls, its third counts -/
def spTake : Sp := fun vs H Q _ => ∃ (b : Addr) (x y z n : Int), vs = [.ref b, .int n] ∧ H b = some (.lst [.int x, .int y, .int z]) ∧
  0 ≤ x ∧ 0 ≤ y ∧ y < 1000000000000 ∧ 0 ≤ z ∧ z < 1000000000 ∧ 0 < n ∧ n < 1073741824 ∧
  ∀ r x' z', 0 ≤ r → r < n → 0 ≤ x' → z ≤ z' → z' ≤ z + 1 → Q (.int r) (upd H b (.lst [.int x', .int y, .int z']))
theorem ok_take {f : Addr} {fd : FuncData} {k : Nat} (F : Fun K "_law_take" "_law_take" sTake f fd) :
    FnOk P w K mg base CX0 (k + 1) f fd ["_law_box_here", "_law_bound"] spTake := by
  refine F.ok scT (fun vs H Q E h => ?_) (fun cdv A outer s H vs Q E hr h => ?_)
  · obtain ⟨b, x, y, z, n, rfl, _⟩ := h
    rfl
  · obtain ⟨b, x, y, z, n, rfl, hb, hx, hy, hy2, hz, hz2, hn, hn2, q⟩ := h
    refine ⟨_, pss_cons (ps_if (pt_cmpR op_gt (pe_ix ix_list (pv 0) pe_int (fun _ _ => rfl)) pe_int (nomark _))
        (pss_cons (ps_set (i := 2) scT.nd rfl (.inl rfl) (pe_op op_mod (pe_ix ix_list (pv 0) pe_int (fun _ _ => rfl)) (pv 1)))
        (pss_cons (ps_asg (pe_op op_fdiv (pe_ix ix_list (pv 0) pe_int (fun _ _ => rfl)) (pv 1)) (pg_sub (pv 0) pe_int set_list))
        (pss_one (ps_ret (pv 2))))) pss_nil)
      (pss_cons (ps_asg (pe_op op_add (pe_ix ix_list (pv 0) pe_int (fun _ _ => rfl)) pe_int) (pg_sub (pv 0) pe_int set_list))
      (pss_cons (ps_set (i := 3) scT.nd rfl (.inl rfl) (pe_op op_mod (pe_op op_pow (pe_op op_add (pe_ix ix_list (pv 0) pe_int (fun _ _ => rfl)) (pe_op op_mul pe_int (pe_ix ix_list (pv 0) pe_int (fun _ _ => rfl)))) pe_int) pe_int))
      (pss_one (ps_ret (pe_op op_mod (pe_op op_fdiv (pe_op op_mod (pe_op op_add (pe_op op_mul (pv 3) (pe_op op_add (pe_op op_mod (pv 3) pe_int) pe_int)) (pe_op op_mul (pe_ix ix_list (pv 0) pe_int (fun _ _ => rfl)) pe_int)) pe_int) pe_int) (pv 1)))))), ?_⟩
    have s0 : SqL K H b [.int x, .int y, .int z] := .inl (.inl hb)
    refine ⟨_, rfl, b, _, 0, _, rfl, rfl, s0, atI_nat (j := 0) rfl, x, 0, rfl, rfl, _, rfl, ite2 (fun e => ?_) (fun e => ?_)⟩
    · refine ⟨_, rfl, b, _, 0, _, rfl, rfl, s0, atI_nat (j := 0) rfl, _, rfl, x, n, rfl, rfl, hn, ?_⟩
      refine ⟨_, rfl, b, _, 0, _, rfl, rfl, s0, atI_nat (j := 0) rfl, _, rfl, x, n, rfl, rfl, ⟨hn, hn2⟩, ?_⟩
      refine ⟨_, rfl, b, _, 0, 0, rfl, rfl, hb, rfl, ?_⟩
      refine ⟨_, rfl, ?_⟩
      have g := inRange (i := x) hn
      exact q _ _ _ g.1 g.2 (Int.ediv_nonneg hx (by omega)) (Int.le_refl _) (by omega)
    · refine ⟨_, rfl, b, _, 2, _, rfl, rfl, s0, atI_nat (j := 2) rfl, z, 1, rfl, rfl, ?_⟩
      refine ⟨_, rfl, b, _, 2, 2, rfl, rfl, hb, rfl, ?_⟩
      have s1 : SqL K (upd H b (.lst [.int x, .int y, .int (z + 1)])) b [.int x, .int y, .int (z + 1)] := .inl (.inl upd_same)
      refine ⟨_, rfl, b, _, 1, _, rfl, rfl, s1, atI_nat (j := 1) rfl, _, rfl, b, _, 2, _, rfl, rfl, s1, atI_nat (j := 2) rfl, 39373, z + 1, rfl, rfl, .inl ⟨by decide, by decide⟩,
        y, 39373 * (z + 1), rfl, rfl, _, 5, rfl, rfl, ⟨by decide, by decide, ?_⟩, _, 2147483647, rfl, rfl, pos1, ?_⟩
      · omega
      · have g := inRange (i := (y + 39373 * (z + 1)) ^ (5 : Int).toNat) (n := 2147483647) (by decide)
        have g2 := inRange (i := (y + 39373 * (z + 1)) ^ (5 : Int).toNat % 2147483647) (n := 40009) (by decide)
        refine ⟨_, rfl, _, rfl, _, 40009, rfl, rfl, pos2, _, 7, rfl, rfl, _, _, rfl, rfl, .inl ⟨by omega, by omega⟩,
          _, rfl, b, _, 2, _, rfl, rfl, s1, atI_nat (j := 2) rfl, z + 1, 7919, rfl, rfl, .inr ⟨by decide, by decide⟩, _, _, rfl, rfl, _, 2147483629, rfl, rfl, pos3,
          _, 64, rfl, rfl, ⟨by decide, by decide⟩, _, rfl, _, n, rfl, rfl, hn, ?_⟩
        exact q _ x (z + 1) (inRange hn).1 (inRange hn).2 hx (by omega) (Int.le_refl _)
/-- a box made of a cell: its numbers within bounds -/
def spBox (K : PySem.W.Frag) : Sp := fun vs H Q _ => ∃ (a : Addr) (ns : List Int) (k : Nat), vs = [.ref a, .int k] ∧ SqL K H a (ns.map V.int) ∧ k ≤ 1000 ∧
  ∀ p x y, H p = none → 0 ≤ x → 0 ≤ y → y < 1000000000000 → Q (.ref p) (upd H p (.lst [.int x, .int y, .int 0]))
theorem ok_box {f : Addr} {fd : FuncData} {k : Nat} (F : Fun K "_law_box" "_law_box" sBox f fd) (ml : mg "len" = none) (ma : mg "abs" = none) (mi : mg "int" = none) :
    FnOk P w K mg base CX0 (k + 1) f fd ["_law_script", "_law_k"] (spBox K) := by
  refine F.ok scB (fun vs H Q E h => ?_) (fun cdv A outer s H vs Q E hr h => ?_)
  · obtain ⟨a, ns, k, rfl, _⟩ := h
    rfl
  · obtain ⟨a, ns, k, rfl, hS, hk, q⟩ := h
    refine ⟨_, pss_cons (ps_set (i := 2) scB.nd rfl (.inl rfl) pe_int)
      (Evl.pss_cut (ps_if (pt_cmpR op_lt (pv 1) (pe_callB call_len_seq (by rfl) ml PySem.boot_len (pa_cons (pv 0) pa_nil)) (nomark _))
        (pss_one (ps_set (i := 2) scB.nd rfl (.inl rfl) (pe_ix ix_list (pv 0) (pv 1) (fun _ _ => rfl)))) pss_nil)
      (pss_one (ps_ret (pe_lst (pa_cons (pe_op op_mul (pe_callB call_abs (by rfl) ma (by decide +kernel) (pa_cons (pv 2) pa_nil))
          (pe_callTy call_int1 (by rfl) mi (by decide +kernel) (pa_cons (pe_cmpR op_ge (pe_callB call_abs (by rfl) ma (by decide +kernel) (pa_cons (pv 2) pa_nil)) (pe_op op_pow pe_int pe_int) (nomark _)) pa_nil)))
        (pa_cons (pe_op op_add (pe_op op_add (pe_op op_mod (pv 2) pe_int) (pe_op op_mul pe_int (pv 1))) pe_int)
        (pa_cons pe_int pa_nil))))))), ?_⟩
    refine ⟨fun σ' H' => H' = H ∧ ∃ c : Int, σ' = [some (.ref a), some (.int k), some (.int c)], ?_, fun σ' H' h => ?_⟩
    · refine ⟨_, rfl, _, rfl, a, _, rfl, .inl hS, _, _, rfl, rfl, _, rfl, ite2 (fun e => ?_) (fun e => ?_)⟩
      · have e1 : (k : Int) < ((ns.map V.int).length : Nat) := of_decide_eq_true e
        have e2 : k < ns.length := by
          rw [List.length_map] at e1
          omega
        have g : (ns.map V.int)[k]? = some (.int ns[k]) := by
          rw [List.getElem?_map, List.getElem?_eq_getElem e2]
          rfl
        exact ⟨_, rfl, _, rfl, a, _, _, _, rfl, rfl, hS, atI_nat g, rfl, ns[k], rfl⟩
      · exact ⟨rfl, 0, rfl⟩
    · obtain ⟨rfl, c, rfl⟩ := h
      have g := inRange (i := c) (n := 2147483629) (by decide)
      refine ⟨_, rfl, c, rfl, _, rfl, c, rfl, 10, 18, rfl, rfl, ⟨by decide, by decide, by decide⟩, _, _, rfl, rfl, .inr ⟨_, rfl, ?_⟩⟩
      have hb : ∀ b : Bool, (0 : Int) ≤ (if b = true then 1 else 0) ∧ (if b = true then (1 : Int) else 0) ≤ 1 := by decide
      have ha : (0 : Int) ≤ (if c < 0 then -c else c) := by split <;> omega
      refine ⟨_, _, rfl, rfl, .inr ⟨?_, ?_⟩, _, rfl, c, 2147483629, rfl, rfl, pos3, _, rfl, 7919, k, rfl, rfl, .inl ⟨by decide, by decide⟩, _, _, rfl, rfl, _, 11, rfl, rfl,
        (show 3 ≤ sizeLine by decide), fun p hp => ?_⟩
      · exact Int.lt_of_lt_of_le (by decide) (hb _).1
      · exact Int.lt_of_le_of_lt (hb _).2 (by decide)
      · exact q p _ _ hp (Int.mul_nonneg ha (hb _).1) (by omega) (by omega)
end
theorem dp_ints {K : PySem.W.Frag} {H : Hp} : ∀ ms : List Int, DpAll K H (ms.map V.int) (ms.map PyData.int)
  | [] => .nil
  | m :: r => .cons (.int m) (dp_ints r)
theorem flat_lay {α : Type} (c : α → PyData) (h1 : ∀ a, (c a).canLay0 = true) (h2 : ∀ a, (c a).depth = 0) : ∀ ms : List α, PyData.canLayAll0 (ms.map c) = true ∧ PyData.depthAll (ms.map c) = 0
  | [] => ⟨rfl, rfl⟩
  | m :: r => by
    obtain ⟨g1, g2⟩ := flat_lay c h1 h2 r
    refine ⟨?_, ?_⟩
    · rw [List.map_cons, PyData.canLayAll0, h1, g1]
      rfl
    · rw [List.map_cons, PyData.depthAll, h2, g2]
      rfl
theorem shp_flat {α : Type} (c : α → PyData) (h1 : ∀ a, (c a).canLay0 = true) (h2 : ∀ a, (c a).depth = 0) (ms : List α) : SeqAt.shaped (.list (ms.map c)) = true := by
  obtain ⟨g1, g2⟩ := flat_lay c h1 h2 ms
  unfold SeqAt.shaped
  rw [PyData.canLay0, PyData.depth, g1, g2]
  rfl
theorem shp_ints (ms : List Int) : SeqAt.shaped (.list (ms.map PyData.int)) = true := shp_flat PyData.int (fun _ => by simp [PyData.canLay0]) (fun _ => by simp [PyData.depth]) ms
theorem carry {H : Hp} {p l : Addr} {o u : HO} (hp : H p = some o) (n : H l = none) : upd H l u p = some o := (upd_ne (ne_of_none hp n)).trans hp
abbrev sSame : Stmt := topS 21
theorem scS : FnScope ["_law_found", "_law_due", "_law_one", "_law_two"] ["_law_found", "_law_due"] (defScope sSame) := ⟨rfl, rfl, rfl, by decide +kernel, rfl, by decide +kernel, by decide +kernel⟩
/-- data of at most so many lists, one in another -/
def shal : Nat → PyData → Bool
  | _, .none => true
  | _, .bool _ => true
  | _, .int _ => true
  | _, .str _ => true
  | 0, .list _ => false
  | 0, .tuple _ => false
  | n + 1, .list ds => decide (ds.length ≤ 1000) && ds.all (shal n)
  | n + 1, .tuple ds => decide (ds.length ≤ 1000) && ds.all (shal n)
  | _, .dict _ => false
section
variable {K : PySem.W.Frag} {H H' : Hp} {a b : Addr} {xs ys : List V}
theorem tyx_l (h : SqL K H a xs) : TyX K H (.ref a) (.type "list") := by
  rcases h with (h | ⟨o, h⟩) | ⟨o, its, n, h1, h2, _⟩
  · exact .base (.lst h)
  · exact .base (.frz h)
  · exact .kList h1 h2
theorem tyx_t (h : SqT K H a xs) : TyX K H (.ref a) (.type "tuple") := by
  rcases h with (h | ⟨o, h⟩) | ⟨o, its, n, h1, h2, _⟩
  · exact .base (.tup h)
  · exact .fTuple h
  · exact .kTuple h1 h2
mutual
theorem dp_mono (e : Evl.Ex H H') : ∀ {v : V} {d : PyData}, Dp K H v d → Dp K H' v d
  | _, _, .non => .non
  | _, _, .bl b => .bl b
  | _, _, .int i => .int i
  | _, _, .str x => .str x
  | _, _, .lst h g => .lst (Evl.ex_l e h) (dpa_mono e g)
  | _, _, .tup h g => .tup (Evl.ex_t e h) (dpa_mono e g)
theorem dpa_mono (e : Evl.Ex H H') : ∀ {vs : List V} {ds : List PyData}, DpAll K H vs ds → DpAll K H' vs ds
  | _, _, .nil => .nil
  | _, _, .cons h g => .cons (dp_mono e h) (dpa_mono e g)
end
theorem dpa_len : ∀ {vs : List V} {ds : List PyData}, DpAll K H vs ds → vs.length = ds.length
  | _, _, .nil => rfl
  | _, _, .cons _ g => by rw [List.length_cons, List.length_cons, dpa_len g]
theorem dpa_at : ∀ {vs : List V} {ds : List PyData} {i : Nat} {v : V}, DpAll K H vs ds → vs[i]? = some v → ∃ d, ds[i]? = some d ∧ Dp K H v d
  | _, _, _, _, .nil, e => by simp at e
  | _, _, 0, _, .cons h g, e => by
    simp at e
    subst e
    exact ⟨_, rfl, h⟩
  | _, _, i + 1, v, .cons h g, e => dpa_at (i := i) g (by simpa using e)
theorem walk_zipT {n : Nat} (hn : n = min xs.length ys.length) : Walk (RZ.ItzT K a b) n (fun H => SqT K H a xs ∧ SqT K H b ys) (YPair (fun i => xs[i]?) (fun i => ys[i]?)) := by
  subst hn
  refine ⟨fun i _ hi q => ?_, fun _ q => ⟨xs, ys, q.1, q.2, by omega⟩, fun i H v H' _ q y => ?_⟩
  · exact ⟨xs, ys, xs[i]'(by omega), ys[i]'(by omega), q.1, q.2, List.getElem?_eq_getElem _, List.getElem?_eq_getElem _⟩
  · obtain ⟨T, x, z, g1, g2, g3, g4, g5⟩ := y
    exact ⟨T, x, z, g1, g2, g3, g4 xs q.1, g5 ys q.2⟩
end
section
variable {P : Program} {w : World} {K : PySem.W.Frag} {mg : Str → Option Value} {base : Heap}
theorem ifY {b : Bool} {A B : Prop} (h : b = true) (hA : A) : if b = true then A else B := by
  rw [if_pos h]
  exact hA
theorem ifN {b : Bool} {A B : Prop} (h : b = false) (hB : B) : if b = true then A else B := by
  rw [h]
  exact iteF hB
theorem kit2 {K : PySem.W.Frag} {t : String} {b c : Bool} (h1 : kitB t "list" = some b) (h2 : kitB t "tuple" = some c) : PySem.W.kitAny K (.type t) [.type "list", .type "tuple"] = some (b || c) := by
  refine kitAny_cons (kit_ty h1) (fun e => ?_) (fun e => by rw [e]; rfl)
  subst e
  refine kitAny_cons (kit_ty h2) (fun e => ?_) (fun e => by rw [e]; rfl)
  subst e
  exact kitAny_nil
theorem two_cls : Paired ClsV [.ty "list", .ty "tuple"] [.type "list", .type "tuple"] := .cons (.ty _) (.cons (.ty _) .nil)
theorem two_size : 2 ≤ sizeLine := by decide
theorem all_yes : ∀ n : Nat, (List.replicate n true).all id = true
  | 0 => rfl
  | n + 1 => by rw [List.replicate_succ, List.all_cons, all_yes n]; rfl
theorem all_at {α : Type} {p : α → Bool} : ∀ {l : List α} {i : Nat} {a : α}, l.all p = true → l[i]? = some a → p a = true := fun {l i a} h e =>
  List.all_eq_true.mp h a (List.mem_of_getElem? e)
/-- both read as one and the same -/
def spSame (K : PySem.W.Frag) (n : Nat) : Sp := fun vs H Q _ => ∃ (x y : V) (d : PyData), vs = [x, y] ∧ Dp K H x d ∧ Dp K H y d ∧ shal n d = true ∧ ∀ H', Evl.Ex H H' → Q (.bl true) H'
def spPrev (K : PySem.W.Frag) : Nat → Sp
  | 0 => fun _ _ _ _ => False
  | n + 1 => spSame K n
structure Names (mg : Str → Option Value) : Prop where
  isi : mg "isinstance" = none
  lst : mg "list" = none
  tup : mg "tuple" = none
  len : mg "len" = none
  all : mg "all" = none
  zip : mg "zip" = none
  str : mg "str" = none
  int : mg "int" = none
  bool : mg "bool" = none
theorem bt_isi : bootBuiltins "isinstance" = some (.builtin "isinstance") := by decide +kernel
theorem bt_tup : bootBuiltins "tuple" = some (.type "tuple") := by decide +kernel
theorem bt_lst : bootBuiltins "list" = some (.type "list") := by decide +kernel
theorem bt_str : bootBuiltins "str" = some (.type "str") := by decide +kernel
theorem bt_int : bootBuiltins "int" = some (.type "int") := by decide +kernel
theorem bt_bool : bootBuiltins "bool" = some (.type "bool") := by decide +kernel
theorem bt_all : bootBuiltins "all" = some (.builtin "all") := by decide +kernel
theorem ok_same {f : Addr} {fd : FuncData} (F : Fun K "_law_same" "_law_same" sSame f fd) (b : Binds K fd ["_law_found", "_law_due"] []) (gs : mg "_law_same" = some (.ref f)) (N : Names mg) :
    ∀ n : Nat, FnOk P w K mg base CX0 n f fd ["_law_found", "_law_due"] (spPrev K n)
  | 0 => ⟨fun _ _ _ _ h => h.elim, fun _ _ _ _ _ _ _ _ _ _ _ _ _ h => h.elim⟩
  | n + 1 => by
    have G := ok_same F b gs N n
    refine F.ok scS (fun vs H Q E h => ?_) (fun cdv A outer s H vs Q E hr h => ?_)
    · obtain ⟨x, y, d, rfl, _⟩ := h
      rfl
    obtain ⟨x, y, d, rfl, hx, hy, hd, q⟩ := h
    refine ⟨_, pss_cons (ps_if (pt_val (pe_callB call_isiT (by rfl) N.isi bt_isi (pa_cons (pv 1) (pa_cons (pe_tup (pa_cons (pe_bltn (v := .ty "list") (by rfl) N.lst bt_lst rfl) (pa_cons (pe_bltn (v := .ty "tuple") (by rfl) N.tup bt_tup rfl) pa_nil))) pa_nil))))
        (pss_cons (ps_if (pw_or (pt_cmpR op_ne (pe_callB call_isi (by rfl) N.isi bt_isi (pa_cons (pv 0) (pa_cons (pe_bltn (v := .ty "list") (by rfl) N.lst bt_lst rfl) pa_nil))) (pe_callB call_isi (by rfl) N.isi bt_isi (pa_cons (pv 1) (pa_cons (pe_bltn (v := .ty "list") (by rfl) N.lst bt_lst rfl) pa_nil))) (nomark _)) (pw_or1 (pt_cmpR op_ne (pe_callB call_isi (by rfl) N.isi bt_isi (pa_cons (pv 0) (pa_cons (pe_bltn (v := .ty "tuple") (by rfl) N.tup bt_tup rfl) pa_nil))) (pe_callB call_isi (by rfl) N.isi bt_isi (pa_cons (pv 1) (pa_cons (pe_bltn (v := .ty "tuple") (by rfl) N.tup bt_tup rfl) pa_nil))) (nomark _)))).pt
          (pss_one (ps_ret pe_bl)) pss_nil)
        (pss_cons (ps_if (pt_cmpR op_ne (pe_callB call_len_seq (by rfl) N.len PySem.boot_len (pa_cons (pv 0) pa_nil)) (pe_callB call_len_seq (by rfl) N.len PySem.boot_len (pa_cons (pv 1) pa_nil)) (nomark _))
          (pss_one (ps_ret pe_bl)) pss_nil)
        (pss_one (ps_ret (pe_callB (cr_all rfl) (by rfl) N.all bt_all (pa_cons
          (pe_lc (own := [("_law_one", 2), ("_law_two", 3)]) (g := gTup K 2 (gCons (gName 2) (gCons (gName 3) gNil))) (tt := tYes) rfl scS.nd (RZ.pi_zipA (by rfl) N.zip (pa_cons (pv 0) (pa_cons (pv 1) pa_nil)))
            (blkOk_by (N := ["_law_found", "_law_due", "_law_one", "_law_two"]) (sc := defScope sSame) (by decide +kernel))
            (fun _ _ _ _ _ => pg_tup rfl (pgs_cons (pg_name (i := 2) scS.nd rfl (.inl rfl)) (pgs_cons (pg_name (i := 3) scS.nd rfl (.inl rfl)) pgs_nil)))
            (fun _ _ _ _ _ => pts_nil)
            (fun _ _ _ _ _ => pe_call G hr (by rfl) gs F.kp b .nil pass0 (pa_cons (pv 2) (pa_cons (pv 3) pa_nil))))
          pa_nil)))))) pss_nil)
      (pss_cons (ps_if (pw_or (pt_cmp (pc_isN (pv 1))) (pw_or1 (pt_val (pe_callB call_isi (by rfl) N.isi bt_isi (pa_cons (pv 1) (pa_cons (pe_bltn (v := .ty "str") (by rfl) N.str bt_str rfl) pa_nil)))))).pt
        (pss_one (ps_ret (pe_and (pe_cmpR op_eq (pv 0) (pv 1) (nomark _)) (pe_one (pe_cmpR op_eq (pe_callB call_isi (by rfl) N.isi bt_isi (pa_cons (pv 0) (pa_cons (pe_bltn (v := .ty "str") (by rfl) N.str bt_str rfl) pa_nil))) (pe_callB call_isi (by rfl) N.isi bt_isi (pa_cons (pv 1) (pa_cons (pe_bltn (v := .ty "str") (by rfl) N.str bt_str rfl) pa_nil))) (nomark _)))))) pss_nil)
      (pss_one (ps_ret (pe_and (pe_callB call_isi (by rfl) N.isi bt_isi (pa_cons (pv 0) (pa_cons (pe_bltn (v := .ty "int") (by rfl) N.int bt_int rfl) pa_nil))) (pe_and (pe_cmpR op_eq (pe_callB call_isi (by rfl) N.isi bt_isi (pa_cons (pv 0) (pa_cons (pe_bltn (v := .ty "bool") (by rfl) N.bool bt_bool rfl) pa_nil))) (pe_callB call_isi (by rfl) N.isi bt_isi (pa_cons (pv 1) (pa_cons (pe_bltn (v := .ty "bool") (by rfl) N.bool bt_bool rfl) pa_nil))) (nomark _)) (pe_one (pe_cmpR op_eq (pv 0) (pv 1) (nomark _)))))))), ?_⟩
    cases d with
    | none =>
      cases hx
      cases hy
      refine ⟨_, rfl, two_size, fun t nt => ?_⟩
      have e0 : Evl.Ex H (upd H t (.tup [.ty "list", .ty "tuple"])) := Evl.Ex.new nt
      refine ⟨_, t, _, _, _, false, rfl, upd_same, two_cls, .base (.non), kit2 (b := false) (c := false) (by decide +kernel) (by decide +kernel), _, rfl, iteF ?_⟩
      refine ⟨_, rfl, _, rfl, iteT ?_⟩
      refine iteT ?_
      refine ⟨_, rfl, _, rfl, rfl, _, rfl, ifY (decide_eq_true rfl) ?_⟩
      refine ⟨_, rfl, _, _, _, _, false, rfl, .ty _, .base (.non), kit_ty (by decide +kernel), _, rfl, _, _, _, _, false, rfl, .ty _, .base (.non), kit_ty (by decide +kernel), rfl, ?_⟩
      exact q _ e0
    | bool b0 =>
      cases hx
      cases hy
      refine ⟨_, rfl, two_size, fun t nt => ?_⟩
      have e0 : Evl.Ex H (upd H t (.tup [.ty "list", .ty "tuple"])) := Evl.Ex.new nt
      refine ⟨_, t, _, _, _, false, rfl, upd_same, two_cls, .base (.bl b0), kit2 (b := false) (c := false) (by decide +kernel) (by decide +kernel), _, rfl, iteF ?_⟩
      refine ⟨_, rfl, _, rfl, ifN (decide_eq_false (fun z => nomatch z)) ?_⟩
      refine ⟨_, rfl, _, _, _, _, false, rfl, .ty _, .base (.bl b0), kit_ty (by decide +kernel), _, rfl, ?_⟩
      refine iteF ?_
      refine ⟨_, rfl, _, _, _, _, true, rfl, .ty _, .base (.bl b0), kit_ty (by decide +kernel), _, rfl, iteT ?_⟩
      refine ⟨_, rfl, _, _, _, _, true, rfl, .ty _, .base (.bl b0), kit_ty (by decide +kernel), _, rfl, _, _, _, _, true, rfl, .ty _, .base (.bl b0), kit_ty (by decide +kernel), rfl, _, rfl, ifY (decide_eq_true rfl) ?_⟩
      refine ⟨_, rfl, _, rfl, rfl, ?_⟩
      rw [decide_eq_true rfl]
      exact q _ e0
    | int i0 =>
      cases hx
      cases hy
      refine ⟨_, rfl, two_size, fun t nt => ?_⟩
      have e0 : Evl.Ex H (upd H t (.tup [.ty "list", .ty "tuple"])) := Evl.Ex.new nt
      refine ⟨_, t, _, _, _, false, rfl, upd_same, two_cls, .base (.int i0), kit2 (b := false) (c := false) (by decide +kernel) (by decide +kernel), _, rfl, iteF ?_⟩
      refine ⟨_, rfl, _, rfl, ifN (decide_eq_false (fun z => nomatch z)) ?_⟩
      refine ⟨_, rfl, _, _, _, _, false, rfl, .ty _, .base (.int i0), kit_ty (by decide +kernel), _, rfl, ?_⟩
      refine iteF ?_
      refine ⟨_, rfl, _, _, _, _, true, rfl, .ty _, .base (.int i0), kit_ty (by decide +kernel), _, rfl, iteT ?_⟩
      refine ⟨_, rfl, _, _, _, _, false, rfl, .ty _, .base (.int i0), kit_ty (by decide +kernel), _, rfl, _, _, _, _, false, rfl, .ty _, .base (.int i0), kit_ty (by decide +kernel), rfl, _, rfl, ifY (decide_eq_true rfl) ?_⟩
      refine ⟨_, rfl, _, rfl, rfl, ?_⟩
      rw [decide_eq_true rfl]
      exact q _ e0
    | str z0 =>
      cases hx
      cases hy
      refine ⟨_, rfl, two_size, fun t nt => ?_⟩
      have e0 : Evl.Ex H (upd H t (.tup [.ty "list", .ty "tuple"])) := Evl.Ex.new nt
      refine ⟨_, t, _, _, _, false, rfl, upd_same, two_cls, .base (.str z0), kit2 (b := false) (c := false) (by decide +kernel) (by decide +kernel), _, rfl, iteF ?_⟩
      refine ⟨_, rfl, _, rfl, ifN (decide_eq_false (fun z => nomatch z)) ?_⟩
      refine ⟨_, rfl, _, _, _, _, true, rfl, .ty _, .base (.str z0), kit_ty (by decide +kernel), _, rfl, ?_⟩
      refine iteT ?_
      refine ⟨_, rfl, _, rfl, rfl, _, rfl, ifY (decide_eq_true rfl) ?_⟩
      refine ⟨_, rfl, _, _, _, _, true, rfl, .ty _, .base (.str z0), kit_ty (by decide +kernel), _, rfl, _, _, _, _, true, rfl, .ty _, .base (.str z0), kit_ty (by decide +kernel), rfl, ?_⟩
      exact q _ e0
    | list ds =>
      cases hx with
      | lst h1 g1 =>
      cases hy with
      | lst h2 g2 =>
      rename_i a1 xs a2 ys
      cases n with
      | zero => exact absurd hd (by simp [shal])
      | succ n =>
      have hd0 : (decide (ds.length ≤ 1000) && ds.all (shal n)) = true := by
        rw [shal] at hd
        exact hd
      have hd' : ds.all (shal n) = true := (Bool.and_eq_true_iff.mp hd0).2
      have hsz : ds.length ≤ 1000 := of_decide_eq_true (Bool.and_eq_true_iff.mp hd0).1
      have l1 := dpa_len g1
      have l2 := dpa_len g2
      refine ⟨_, rfl, two_size, fun t nt => ?_⟩
      have e0 : Evl.Ex H (upd H t (.tup [.ty "list", .ty "tuple"])) := Evl.Ex.new nt
      have L1 := Evl.ex_l e0 h1
      have L2 := Evl.ex_l e0 h2
      refine ⟨_, t, _, _, _, true, rfl, upd_same, two_cls, tyx_l L2, kit2 (b := true) (c := false) (by decide +kernel) (by decide +kernel), _, rfl, iteT ?_⟩
      refine ⟨_, rfl, _, _, _, _, true, rfl, .ty _, tyx_l L1, kit_ty (by decide +kernel), _, rfl, _, _, _, _, true, rfl, .ty _, tyx_l L2, kit_ty (by decide +kernel), rfl, _, rfl, ifN rfl ?_⟩
      refine ⟨_, rfl, _, _, _, _, false, rfl, .ty _, tyx_l L1, kit_ty (by decide +kernel), _, rfl, _, _, _, _, false, rfl, .ty _, tyx_l L2, kit_ty (by decide +kernel), rfl, _, rfl, ifN rfl ?_⟩
      refine ⟨_, rfl, a1, _, rfl, .inl L1, _, rfl, a2, _, rfl, .inl L2, rfl, _, rfl, ifN ?_ ?_⟩
      · rw [l1, l2, decide_eq_true rfl]
        rfl
      refine ⟨_, rfl, _, rfl, a1, a2, xs, ys, rfl, .inl ⟨L1, L2, fun D nD => lc_it (walk_zip (xs := xs) (ys := ys) rfl)
        (fun i H' => Evl.Ex (upd H t (.tup [.ty "list", .ty "tuple"])) H' ∧ H' D = some (.lst ((List.replicate i true).map V.bl))) ⟨Evl.Ex.new nD, upd_same⟩
        (fun i H' _ p => ⟨Evl.ex_l p.1 L1, Evl.ex_l p.1 L2⟩) (fun i x H2 H3 hi p y => ?_) (fun H' p => ?_)⟩⟩
      · obtain ⟨T, u, v, rfl, nT, rfl, eu, ev⟩ := y
        have e2 := e0.trans (p.1.trans (Evl.Ex.new (o := .tup [u, v]) nT))
        obtain ⟨d1, k1, j1⟩ := dpa_at g1 eu
        obtain ⟨d2, k2, j2⟩ := dpa_at g2 ev
        rw [k1] at k2
        cases k2
        refine ⟨T, _, rfl, .inl (.inl upd_same), rfl, _, _, rfl, _, [], rfl, rfl, rfl, ?_⟩
        unfold tYes
        dsimp only
        rw [if_pos rfl]
        refine ⟨_, rfl, _, rfl, u, v, d1, rfl, dp_mono e2 j1, dp_mono e2 j2, all_at hd' k1, fun H4 e4 => ?_⟩
        have hD4 : H4 D = some (.lst ((List.replicate i true).map V.bl)) := e4 _ _ (by
          rw [upd_ne (ne_of_none p.2 nT)]
          exact p.2)
        refine ⟨_, hD4, ?_, ?_, ?_⟩
        · rw [List.length_map, List.length_replicate]
          exact Evl.sz_lt (by have := hsz; omega)
        · exact Evl.Ex.mut ((p.1.trans (Evl.Ex.new nT)).trans e4) nD
        · rw [upd_same, List.replicate_succ', List.map_append]
          rfl
      · refine ⟨D, _, rfl, .inl (.inl p.2), ?_⟩
        rw [all_yes]
        exact q _ (e0.trans p.1)
    | tuple ds =>
      cases hx with
      | tup h1 g1 =>
      cases hy with
      | tup h2 g2 =>
      rename_i a1 xs a2 ys
      cases n with
      | zero => exact absurd hd (by simp [shal])
      | succ n =>
      have hd0 : (decide (ds.length ≤ 1000) && ds.all (shal n)) = true := by
        rw [shal] at hd
        exact hd
      have hd' : ds.all (shal n) = true := (Bool.and_eq_true_iff.mp hd0).2
      have hsz : ds.length ≤ 1000 := of_decide_eq_true (Bool.and_eq_true_iff.mp hd0).1
      have l1 := dpa_len g1
      have l2 := dpa_len g2
      refine ⟨_, rfl, two_size, fun t nt => ?_⟩
      have e0 : Evl.Ex H (upd H t (.tup [.ty "list", .ty "tuple"])) := Evl.Ex.new nt
      have L1 := Evl.ex_t e0 h1
      have L2 := Evl.ex_t e0 h2
      refine ⟨_, t, _, _, _, true, rfl, upd_same, two_cls, tyx_t L2, kit2 (b := false) (c := true) (by decide +kernel) (by decide +kernel), _, rfl, iteT ?_⟩
      refine ⟨_, rfl, _, _, _, _, false, rfl, .ty _, tyx_t L1, kit_ty (by decide +kernel), _, rfl, _, _, _, _, false, rfl, .ty _, tyx_t L2, kit_ty (by decide +kernel), rfl, _, rfl, ifN rfl ?_⟩
      refine ⟨_, rfl, _, _, _, _, true, rfl, .ty _, tyx_t L1, kit_ty (by decide +kernel), _, rfl, _, _, _, _, true, rfl, .ty _, tyx_t L2, kit_ty (by decide +kernel), rfl, _, rfl, ifN rfl ?_⟩
      refine ⟨_, rfl, a1, _, rfl, .inr L1, _, rfl, a2, _, rfl, .inr L2, rfl, _, rfl, ifN ?_ ?_⟩
      · rw [l1, l2, decide_eq_true rfl]
        rfl
      refine ⟨_, rfl, _, rfl, a1, a2, xs, ys, rfl, .inr ⟨L1, L2, fun D nD => lc_it (walk_zipT (xs := xs) (ys := ys) rfl)
        (fun i H' => Evl.Ex (upd H t (.tup [.ty "list", .ty "tuple"])) H' ∧ H' D = some (.lst ((List.replicate i true).map V.bl))) ⟨Evl.Ex.new nD, upd_same⟩
        (fun i H' _ p => ⟨Evl.ex_t p.1 L1, Evl.ex_t p.1 L2⟩) (fun i x H2 H3 hi p y => ?_) (fun H' p => ?_)⟩⟩
      · obtain ⟨T, u, v, rfl, nT, rfl, eu, ev⟩ := y
        have e2 := e0.trans (p.1.trans (Evl.Ex.new (o := .tup [u, v]) nT))
        obtain ⟨d1, k1, j1⟩ := dpa_at g1 eu
        obtain ⟨d2, k2, j2⟩ := dpa_at g2 ev
        rw [k1] at k2
        cases k2
        refine ⟨T, _, rfl, .inl (.inl upd_same), rfl, _, _, rfl, _, [], rfl, rfl, rfl, ?_⟩
        unfold tYes
        dsimp only
        rw [if_pos rfl]
        refine ⟨_, rfl, _, rfl, u, v, d1, rfl, dp_mono e2 j1, dp_mono e2 j2, all_at hd' k1, fun H4 e4 => ?_⟩
        have hD4 : H4 D = some (.lst ((List.replicate i true).map V.bl)) := e4 _ _ (by
          rw [upd_ne (ne_of_none p.2 nT)]
          exact p.2)
        refine ⟨_, hD4, ?_, ?_, ?_⟩
        · rw [List.length_map, List.length_replicate]
          exact Evl.sz_lt (by have := hsz; omega)
        · exact Evl.Ex.mut ((p.1.trans (Evl.Ex.new nT)).trans e4) nD
        · rw [upd_same, List.replicate_succ', List.map_append]
          rfl
      · refine ⟨D, _, rfl, .inl (.inl p.2), ?_⟩
        rw [all_yes]
        exact q _ (e0.trans p.1)
    | dict kvs => cases hx
end
end Kd
namespace Kd
open PySem PySem.Spec PyProof.Rows L2 Xg
theorem s_isNumber : FnScope ["thing"] ["thing"] (defScope (topS 1)) := ⟨rfl, rfl, rfl, by decide +kernel, rfl, by decide +kernel, by decide +kernel⟩
theorem s_isFrom : FnScope ["thing", "least"] ["thing", "least"] (defScope (topS 2)) := ⟨rfl, rfl, rfl, by decide +kernel, rfl, by decide +kernel, by decide +kernel⟩
theorem s_isTup : FnScope ["thing", "many"] ["thing", "many"] (defScope (topS 3)) := ⟨rfl, rfl, rfl, by decide +kernel, rfl, by decide +kernel, by decide +kernel⟩
theorem s_isLine : FnScope ["thing", "form", "rooms"] ["thing"] (defScope (topS 7)) := ⟨rfl, rfl, rfl, by decide +kernel, rfl, by decide +kernel, by decide +kernel⟩
theorem s_areRooms : FnScope ["thing", "least_bins", "room"] ["thing", "least_bins"] (defScope (topS 8)) := ⟨rfl, rfl, rfl, by decide +kernel, rfl, by decide +kernel, by decide +kernel⟩
theorem s_gates : FnScope ["line", "form", "rooms"] ["line"] (defScope (topS 9)) := ⟨rfl, rfl, rfl, by decide +kernel, rfl, by decide +kernel, by decide +kernel⟩
theorem s_isWidths : FnScope ["line", "thing", "width"] ["line", "thing"] (defScope (topS 10)) := ⟨rfl, rfl, rfl, by decide +kernel, rfl, by decide +kernel, by decide +kernel⟩
theorem s_isStanding : FnScope ["line", "thing", "form", "rooms", "held", "room"] ["line", "thing"] (defScope (topS 11)) := ⟨rfl, rfl, rfl, by decide +kernel, rfl, by decide +kernel, by decide +kernel⟩
theorem s_bare : FnScope ["line", "form", "rooms"] ["line"] (defScope (topS 12)) := ⟨rfl, rfl, rfl, by decide +kernel, rfl, by decide +kernel, by decide +kernel⟩
theorem s_full : FnScope ["line", "form", "rooms"] ["line"] (defScope (topS 13)) := ⟨rfl, rfl, rfl, by decide +kernel, rfl, by decide +kernel, by decide +kernel⟩
theorem s_lacking : FnScope ["line", "standing", "form", "rooms", "held", "room"] ["line", "standing"] (defScope (topS 14)) := ⟨rfl, rfl, rfl, by decide +kernel, rfl, by decide +kernel, by decide +kernel⟩
theorem s_turnedLine : FnScope ["line", "form", "rooms"] ["line"] (defScope (topS 15)) := ⟨rfl, rfl, rfl, by decide +kernel, rfl, by decide +kernel, by decide +kernel⟩
theorem s_turned : FnScope ["line", "standing"] ["line", "standing"] (defScope (topS 16)) := ⟨rfl, rfl, rfl, by decide +kernel, rfl, by decide +kernel, by decide +kernel⟩
theorem s_turnedWidths : FnScope ["line", "widths", "form", "rooms", "about"] ["line", "widths"] (defScope (topS 17)) := ⟨rfl, rfl, rfl, by decide +kernel, rfl, by decide +kernel, by decide +kernel⟩
/-- a tuple, or a list -/
def Sq (K : PySem.W.Frag) (b : Bool) (H : Hp) (a : Addr) (xs : List V) : Prop := match b with
  | true => SqT K H a xs
  | false => SqL K H a xs
def fT (row : Bool) : Str := if row = true then "row" else "ring"
theorem fT_row (row : Bool) : decide (V.str (fT row) = V.str "row") = row := by cases row <;> decide
theorem fT_ring (row : Bool) : decide (V.str (fT row) = V.str "ring") = !row := by cases row <;> decide
def vO : Option Int → V
  | none => .non
  | some i => .int i
section
variable {K : PySem.W.Frag} {H H' : Hp} {b : Bool} {a : Addr} {xs : List V} {v : V} {row : Bool} {rooms : List Int}
theorem Sq.mono (h : Sq K b H a xs) (e : Evl.Ex H H') : Sq K b H' a xs := by
  cases b with
  | true => exact Evl.ex_t e h
  | false => exact Evl.ex_l e h
theorem Sq.or (h : Sq K b H a xs) : SqL K H a xs ∨ SqT K H a xs := by
  cases b with
  | true => exact .inr h
  | false => exact .inl h
/-- a line, of tuples or of lists -/
def LnV (K : PySem.W.Frag) (b : Bool) (H : Hp) (v : V) (row : Bool) (rooms : List Int) : Prop := ∃ a r, v = .ref a ∧ Sq K b H a [.str (fT row), .ref r] ∧ Sq K b H r (rooms.map V.int)
theorem LnV.mono (h : LnV K b H v row rooms) (e : Evl.Ex H H') : LnV K b H' v row rooms := let ⟨a, r, h1, h2, h3⟩ := h; ⟨a, r, h1, h2.mono e, h3.mono e⟩
/-- a tuple of these -/
def TpV (K : PySem.W.Frag) (b : Bool) (H : Hp) (v : V) (xs : List V) : Prop := ∃ a, v = .ref a ∧ Sq K b H a xs
theorem TpV.mono (h : TpV K b H v xs) (e : Evl.Ex H H') : TpV K b H' v xs := let ⟨a, h1, h2⟩ := h; ⟨a, h1, h2.mono e⟩
/-- form, rooms = line -/
theorem unp {i : Nat} {σ : L2.St} {t : TGs} {Q : L2.St → Hp → Prop} (h : LnV K b H v row rooms) (k : ∀ r, Sq K b H r (rooms.map V.int) → t [.str (fT row), .ref r] σ H Q) :
    gTup K 2 t v σ H Q ∨ gLst K 2 t v σ H Q := by
  obtain ⟨a, r, rfl, h1, h2⟩ := h
  cases b with
  | true => exact .inl ⟨a, _, rfl, h1, rfl, k r h2⟩
  | false => exact .inr ⟨a, _, rfl, h1, rfl, k r h2⟩
end
def gts (row : Bool) (n : Nat) : Int := if row = true then (n : Int) + 1 else (n : Int)
section
variable {P : Program} {w : World} {K : PySem.W.Frag} {mg : Str → Option Value} {base : Heap}
def spIsNumber : Sp := fun vs H Q _ => ∃ i : Int, vs = [.int i] ∧ Q (.bl true) H
def spIsFrom : Sp := fun vs H Q _ => ∃ i l : Int, vs = [.int i, .int l] ∧ Q (.bl (decide (l ≤ i))) H
def spIsTup (K : PySem.W.Frag) : Sp := fun vs H Q _ => ∃ (a : Addr) (xs : List V) (n : Int), vs = [.ref a, .int n] ∧ SqT K H a xs ∧ n = (xs.length : Int) ∧ Q (.bl true) H
def spGates (K : PySem.W.Frag) : Sp := fun vs H Q _ => ∃ (b : Bool) (v : V) (row : Bool) (rooms : List Int), vs = [v] ∧ LnV K b H v row rooms ∧ Q (.int (gts row rooms.length)) H
def spBare (K : PySem.W.Frag) : Sp := fun vs H Q _ => ∃ (b : Bool) (v : V) (row : Bool) (rooms : List Int), vs = [v] ∧ LnV K b H v row rooms ∧ 1 ≤ rooms.length ∧ rooms.length ≤ 1000 ∧
  ∀ u H', Evl.Ex H H' → TpV K true H' u (List.replicate rooms.length (.int 0)) → Q u H'
def spFull (K : PySem.W.Frag) : Sp := fun vs H Q _ => ∃ (b : Bool) (v : V) (row : Bool) (rooms : List Int), vs = [v] ∧ LnV K b H v row rooms ∧
  ∀ u H', Evl.Ex H H' → TpV K true H' u (rooms.map V.int) → Q u H'
def less : List Int → List Int → List Int
  | h :: hs, r :: rs => (r - h) :: less hs rs
  | _, _ => []
def spLacking (K : PySem.W.Frag) : Sp := fun vs H Q _ => ∃ (b : Bool) (v u : V) (row : Bool) (rooms held : List Int), vs = [v, u] ∧ LnV K b H v row rooms ∧ TpV K b H u (held.map V.int) ∧ held.length = rooms.length ∧ rooms.length ≤ 1000 ∧
  ∀ z H', Evl.Ex H H' → TpV K true H' z ((less held rooms).map V.int) → Q z H'
def spTurnedLine (K : PySem.W.Frag) : Sp := fun vs H Q _ => ∃ (b : Bool) (v : V) (row : Bool) (rooms : List Int), vs = [v] ∧ LnV K b H v row rooms ∧ 1 ≤ rooms.length ∧ rooms.length ≤ 1000 ∧
  ∀ u H', Evl.Ex H H' → LnV K true H' u row rooms.reverse → Q u H'
def spTurned (K : PySem.W.Frag) : Sp := fun vs H Q _ => ∃ (b : Bool) (v u : V) (xs : List V), vs = [v, u] ∧ TpV K b H u xs ∧ 1 ≤ xs.length ∧ xs.length ≤ 1000 ∧
  ∀ z H', Evl.Ex H H' → TpV K true H' z xs.reverse → Q z H'
/-- gates turned about: of a ring gate 0 goes ahead again -/
def about (row : Bool) (xs : List V) : List V := if row = true then xs.reverse else xs.take 1 ++ (xs.drop 1).reverse
def spTurnedWidths (K : PySem.W.Frag) : Sp := fun vs H Q _ => ∃ (b : Bool) (v u : V) (row : Bool) (rooms : List Int) (xs : List V), vs = [v, u] ∧ LnV K b H v row rooms ∧ TpV K b H u xs ∧ 2 ≤ xs.length ∧ xs.length ≤ 1000 ∧
  ∀ z H', Evl.Ex H H' → TpV K true H' z (about row xs) → Q z H'
def spAreRooms (K : PySem.W.Frag) : Sp := fun vs H Q _ => ∃ (a : Addr) (rooms : List Int) (l : Int), vs = [.ref a, .int l] ∧ SqT K H a (rooms.map V.int) ∧ l ≤ (rooms.length : Int) ∧ rooms.length ≤ 1000 ∧ (∀ r ∈ rooms, 1 ≤ r) ∧ ∀ H', Evl.Ex H H' → Q (.bl true) H'
def spIsLine (K : PySem.W.Frag) : Sp := fun vs H Q _ => ∃ (v : V) (row : Bool) (rooms : List Int), vs = [v] ∧ LnV K true H v row rooms ∧ (if row = true then 1 else 2) ≤ rooms.length ∧ rooms.length ≤ 1000 ∧ (∀ r ∈ rooms, 1 ≤ r) ∧
  ∀ H', Evl.Ex H H' → Q (.bl true) H'
def spIsWidths (K : PySem.W.Frag) : Sp := fun vs H Q _ => ∃ (v u : V) (row : Bool) (rooms : List Int) (ws : List (Option Int)), vs = [v, u] ∧ LnV K true H v row rooms ∧ TpV K true H u (ws.map vO) ∧ (ws.length : Int) = gts row rooms.length ∧
  ws.length ≤ 1000 ∧ (∀ x ∈ ws, ∀ i, x = some i → 0 ≤ i) ∧ ∀ H', Evl.Ex H H' → Q (.bl true) H'
def spIsStanding (K : PySem.W.Frag) : Sp := fun vs H Q _ => ∃ (v u : V) (row : Bool) (rooms held : List Int), vs = [v, u] ∧ LnV K true H v row rooms ∧ TpV K true H u (held.map V.int) ∧ held.length = rooms.length ∧ rooms.length ≤ 1000 ∧
  (∀ (j : Nat) (h r : Int), held[j]? = some h → rooms[j]? = some r → 0 ≤ h ∧ h ≤ r) ∧ ∀ H', Evl.Ex H H' → Q (.bl true) H'
theorem ok_isNumber {f : Addr} {fd : FuncData} {k : Nat} (F : Fun K "is_number" "is_number" (topS 1) f fd) (N : Names mg) :
    FnOk P w K mg base CX0 (k + 1) f fd ["thing"] spIsNumber := by
  refine F.ok s_isNumber (fun vs H Q E h => ?_) (fun cdv A outer s H vs Q E hr h => ?_)
  · obtain ⟨i, rfl, q⟩ := h
    rfl
  · obtain ⟨i, rfl, q⟩ := h
    refine ⟨_, pss_one (ps_ret (pe_and (pe_callB call_isi (by rfl) N.isi bt_isi (pa_cons (pv 0) (pa_cons (pe_bltn (v := .ty "int") (by rfl) N.int bt_int rfl) pa_nil))) (pe_one (pe_not (pe_callB call_isi (by rfl) N.isi bt_isi (pa_cons (pv 0) (pa_cons (pe_bltn (v := .ty "bool") (by rfl) N.bool bt_bool rfl) pa_nil))))))), ?_⟩
    refine ⟨_, rfl, _, _, _, _, true, rfl, .ty _, .base (.int i), kit_ty (by decide +kernel), _, rfl, iteT ?_⟩
    exact ⟨_, rfl, _, _, _, _, false, rfl, .ty _, .base (.int i), kit_ty (by decide +kernel), _, rfl, q⟩
theorem pe_con {X : Cx} {x : Str} {v : V} {pos : Pos} (hg : Gl X x) (h : ∃ u, X.mg x = some u ∧ L2.RelV v u) (hd : (x == ("__debug__" : Str)) = false := by decide) : PE X (.Name x pos) (tC v) := let ⟨_, g1, g2⟩ := h; pe_glob hg g1 g2 hd
/-- a def with its address, its promise and how it binds -/
structure Df (P : Program) (w : World) (K : PySem.W.Frag) (mg : Str → Option Value) (base : Heap) (x : Str) (ps : List Str) (k : Nat) (sp : Sp) : Prop where
  ex : ∃ (f : Addr) (fd : FuncData), FnOk P w K mg base CX0 k f fd ps sp ∧ mg x = some (.ref f) ∧ PySem.W.keepIn K (.ref f) = true ∧ L2.Binds K fd ps []
/-- f(e, ..) by such a row -/
theorem pe_df {X : Cx} {x : Str} {ps : List Str} {k : Nat} {sp : Sp} {p pos : Pos} {e : Expr} {es : List Expr} {t : TA} (D : Df X.prog X.w X.K X.mg X.base x ps k sp) (hr : Room k X.A) (hg : Gl X x) (ha : PA X (e :: es) t)
    (hdb : (x == ("__debug__" : Str)) = false := by decide) (he : starEach (e :: es) X.env = (false, eval e X.env) :: starEach es X.env := by rfl) (hpl : (backTo pos (starEach es X.env)).any (·.1) = false := by rfl) :
    PE X (.Call (.Name x p) (e :: es) [] pos) (tCallG sp t) := by
  obtain ⟨f, fd, G, gm, kp, b⟩ := D.ex
  have z := pe_call (p := p) (pos := pos) G hr hg gm kp b .nil pass0 ha hdb he hpl
  refine ⟨fun pins s σ H Q I h => z.run pins s σ H Q I ?_⟩
  show t σ H fun vs H1 => sp (vs ++ []) H1 Q E0
  simp only [List.append_nil]
  exact h
theorem ok_isFrom {f : Addr} {fd : FuncData} {k : Nat} (F : Fun K "is_number_from" "is_number_from" (topS 2) f fd) (D : Df P w K mg base "is_number" ["thing"] 1 spIsNumber) :
    FnOk P w K mg base CX0 2 f fd ["thing", "least"] spIsFrom := by
  refine F.ok s_isFrom (fun vs H Q E h => ?_) (fun cdv A outer s H vs Q E hr h => ?_)
  · obtain ⟨i, l, rfl, q⟩ := h
    rfl
  · obtain ⟨i, l, rfl, q⟩ := h
    refine ⟨_, pss_one (ps_ret (pe_and (pe_df D hr (by rfl) (pa_cons (pv 0) pa_nil)) (pe_one (pe_cmpR op_ge (pv 0) (pv 1) (nomark _))))), ?_⟩
    exact ⟨_, rfl, i, rfl, _, rfl, iteT ⟨_, rfl, _, rfl, i, l, rfl, rfl, q⟩⟩
theorem ok_isTup {f : Addr} {fd : FuncData} {k : Nat} (F : Fun K "is_tuple_of" "is_tuple_of" (topS 3) f fd) (N : Names mg) :
    FnOk P w K mg base CX0 (k + 1) f fd ["thing", "many"] (spIsTup K) := by
  refine F.ok s_isTup (fun vs H Q E h => ?_) (fun cdv A outer s H vs Q E hr h => ?_)
  · obtain ⟨a, xs, n, rfl, hS, hn, q⟩ := h
    rfl
  · obtain ⟨a, xs, n, rfl, hS, hn, q⟩ := h
    refine ⟨_, pss_one (ps_ret (pe_and (pe_callB call_isi (by rfl) N.isi bt_isi (pa_cons (pv 0) (pa_cons (pe_bltn (v := .ty "tuple") (by rfl) N.tup bt_tup rfl) pa_nil))) (pe_one (pe_cmpR op_eq (pe_callB call_len_seq (by rfl) N.len PySem.boot_len (pa_cons (pv 0) pa_nil)) (pv 1) (nomark _))))), ?_⟩
    refine ⟨_, rfl, _, _, _, _, true, rfl, .ty _, tyx_t hS, kit_ty (by decide +kernel), _, rfl, iteT ?_⟩
    refine ⟨_, rfl, a, _, rfl, .inr hS, _, rfl, rfl, ?_⟩
    rw [hn, decide_eq_true rfl]
    exact q
theorem ok_gates {f : Addr} {fd : FuncData} {k : Nat} (F : Fun K "gates" "gates" (topS 9) f fd) (N : Names mg) (gR : ∃ u, mg "ROW" = some u ∧ L2.RelV (.str "row") u) :
    FnOk P w K mg base CX0 (k + 1) f fd ["line"] (spGates K) := by
  refine F.ok s_gates (fun vs H Q E h => ?_) (fun cdv A outer s H vs Q E hr h => ?_)
  · obtain ⟨b, v, row, rooms, rfl, hL, q⟩ := h
    rfl
  · obtain ⟨b, v, row, rooms, rfl, hL, q⟩ := h
    refine ⟨_, pss_cons (ps_asg (pv 0) (pg_or (pg_tup rfl (pgs_cons (pg_name (i := 1) s_gates.nd rfl (.inl rfl)) (pgs_cons (pg_name (i := 2) s_gates.nd rfl (.inl rfl)) pgs_nil))) (pg_lst rfl (pgs_cons (pg_name (i := 1) s_gates.nd rfl (.inl rfl)) (pgs_cons (pg_name (i := 2) s_gates.nd rfl (.inl rfl)) pgs_nil))))) (pss_one (ps_ret (pe_ifExp (pt_cmpR op_eq (pv 1) (pe_con (v := .str "row") (by rfl) gR) (nomark _)) (pe_op op_add (pe_callB call_len_seq (by rfl) N.len PySem.boot_len (pa_cons (pv 2) pa_nil)) pe_int) (pe_callB call_len_seq (by rfl) N.len PySem.boot_len (pa_cons (pv 2) pa_nil))))), ?_⟩
    refine ⟨_, rfl, unp (i := 0) hL fun r hr' => ?_⟩
    refine ⟨_, _, rfl, _, [], rfl, rfl, ?_⟩
    refine ⟨_, rfl, rfl, _, rfl, ?_⟩
    rw [fT_row]
    have z : (((rooms.map V.int).length : Nat) : Int) = rooms.length := by rw [List.length_map]
    cases row with
    | true =>
      refine iteT ⟨_, rfl, r, _, rfl, hr'.or, _, 1, rfl, rfl, ?_⟩
      rw [z]
      exact q
    | false =>
      refine iteF ⟨_, rfl, r, _, rfl, hr'.or, ?_⟩
      rw [z]
      exact q
end
end Kd
namespace Kd
open PySem PySem.Spec PyProof.Rows L2 Xg
theorem rep_flat : ∀ n : Nat, (List.replicate n [V.int 0]).flatten = List.replicate n (V.int 0)
  | 0 => rfl
  | n + 1 => by rw [List.replicate_succ, List.flatten_cons, rep_flat n, List.replicate_succ]; rfl
theorem less_len : ∀ (hs rs : List Int), (less hs rs).length = min hs.length rs.length
  | [], _ => by simp [less]
  | _ :: _, [] => by simp [less]
  | h :: hs, r :: rs => by
    rw [less, List.length_cons, less_len hs rs, List.length_cons, List.length_cons]
    omega
theorem less_at : ∀ (hs rs : List Int) (i : Nat) (h r : Int), hs[i]? = some h → rs[i]? = some r → (less hs rs)[i]? = some (r - h)
  | [], _, _, _, _, e, _ => by simp at e
  | _ :: _, [], _, _, _, _, e => by simp at e
  | h :: hs, r :: rs, 0, a, b, e1, e2 => by
    simp at e1 e2
    subst e1 e2
    rfl
  | h :: hs, r :: rs, i + 1, a, b, e1, e2 => less_at hs rs i a b (by simpa using e1) (by simpa using e2)
theorem int_at {l : List Int} {i : Nat} {v : V} (h : (l.map V.int)[i]? = some v) : ∃ z, v = .int z ∧ l[i]? = some z := by
  rw [List.getElem?_map] at h
  cases e : l[i]? with
  | none =>
    rw [e] at h
    cases h
  | some z =>
    rw [e] at h
    cases h
    exact ⟨z, rfl, rfl⟩
section
variable {P : Program} {w : World} {K : PySem.W.Frag} {mg : Str → Option Value} {base : Heap}
theorem ok_bare {f : Addr} {fd : FuncData} {k : Nat} (F : Fun K "bare" "bare" (topS 12) f fd) (N : Names mg) :
    FnOk P w K mg base CX0 (k + 1) f fd ["line"] (spBare K) := by
  refine F.ok s_bare (fun vs H Q E h => ?_) (fun cdv A outer s H vs Q E hr h => ?_)
  · obtain ⟨b, v, row, rooms, rfl, hL, h1, h2, q⟩ := h
    rfl
  · obtain ⟨b, v, row, rooms, rfl, hL, h1, h2, q⟩ := h
    refine ⟨_, pss_cons (ps_asg (pv 0) (pg_or (pg_tup rfl (pgs_cons (pg_name (i := 1) s_bare.nd rfl (.inl rfl)) (pgs_cons (pg_name (i := 2) s_bare.nd rfl (.inl rfl)) pgs_nil))) (pg_lst rfl (pgs_cons (pg_name (i := 1) s_bare.nd rfl (.inl rfl)) (pgs_cons (pg_name (i := 2) s_bare.nd rfl (.inl rfl)) pgs_nil))))) (pss_one (ps_ret (pe_op (op_or op_repT op_rep1) (pe_tup (pa_cons pe_int pa_nil)) (pe_callB call_len_seq (by rfl) N.len PySem.boot_len (pa_cons (pv 2) pa_nil))))), ?_⟩
    refine ⟨_, rfl, unp (i := 0) hL fun r hr' => ?_⟩
    refine ⟨_, _, rfl, _, [], rfl, rfl, ?_⟩
    refine ⟨show 1 ≤ sizeLine by decide, fun t nt => ?_⟩
    have e1 := Evl.Ex.new (o := .tup [.int 0]) nt
    refine ⟨_, rfl, r, _, rfl, (hr'.mono e1).or, ?_⟩
    have z : (((rooms.map V.int).length : Nat) : Int) = rooms.length := by rw [List.length_map]
    rw [z]
    by_cases e : rooms.length = 1
    · refine .inr ⟨t, _, rfl, by rw [e]; rfl, .inl (.inl upd_same), ?_⟩
      exact q _ _ e1 ⟨t, rfl, by rw [e]; exact .inl (.inl upd_same)⟩
    · refine .inl ⟨t, _, _, rfl, rfl, .inl (.inl upd_same), by simp, by omega, by omega, by show 1 ≤ 1000; decide, fun p np => ?_⟩
      refine q _ _ (e1.trans (Evl.Ex.new np)) ⟨p, rfl, .inl (.inl ?_)⟩
      rw [upd_same, Int.toNat_natCast, rep_flat]
theorem ok_full {f : Addr} {fd : FuncData} {k : Nat} (F : Fun K "full" "full" (topS 13) f fd) (N : Names mg) :
    FnOk P w K mg base CX0 (k + 1) f fd ["line"] (spFull K) := by
  refine F.ok s_full (fun vs H Q E h => ?_) (fun cdv A outer s H vs Q E hr h => ?_)
  · obtain ⟨b, v, row, rooms, rfl, hL, q⟩ := h
    rfl
  · obtain ⟨b, v, row, rooms, rfl, hL, q⟩ := h
    refine ⟨_, pss_cons (ps_asg (pv 0) (pg_or (pg_tup rfl (pgs_cons (pg_name (i := 1) s_full.nd rfl (.inl rfl)) (pgs_cons (pg_name (i := 2) s_full.nd rfl (.inl rfl)) pgs_nil))) (pg_lst rfl (pgs_cons (pg_name (i := 1) s_full.nd rfl (.inl rfl)) (pgs_cons (pg_name (i := 2) s_full.nd rfl (.inl rfl)) pgs_nil))))) (pss_one (ps_ret (pe_tupleOf (by rfl) N.tup (pv 2)))), ?_⟩
    refine ⟨_, rfl, unp (i := 0) hL fun r hr' => ?_⟩
    refine ⟨_, _, rfl, _, [], rfl, rfl, ?_⟩
    refine ⟨_, rfl, ?_⟩
    cases b with
    | true => exact .inr ⟨r, _, rfl, hr', q _ _ (Evl.Ex.refl _) ⟨r, rfl, hr'⟩⟩
    | false => exact .inl ⟨r, _, rfl, hr', fun p np => q _ _ (Evl.Ex.new np) ⟨p, rfl, .inl (.inl upd_same)⟩⟩
/-- tuple(reversed(x)) -/
theorem rev_read {X : Cx} {i : Nat} {σ : L2.St} {H : Hp} {Q : VK} {a : Addr} {xs : List V} {b : Bool} (hσ : σ[i]? = some (some (.ref a))) (hS : Sq X.K b H a xs) (h1 : 1 ≤ xs.length) (h2 : xs.length ≤ 1000)
    (k : ∀ p, H p = none → Q (.ref p) (upd H p (.tup xs.reverse))) : RT.tTupRev X.K (tVar i) σ H Q ∨ tRevT X.K (tVar i) σ H Q := by
  cases b with
  | false => exact .inl ⟨_, hσ, a, xs, rfl, hS, k⟩
  | true => exact .inr ⟨_, hσ, a, xs, rfl, hS, (fun z => by rw [z] at h1; cases h1), h2, k⟩
theorem ok_turnedLine {f : Addr} {fd : FuncData} {k : Nat} (F : Fun K "turned_line" "turned_line" (topS 15) f fd) (N : Names mg) (mr : mg "reversed" = none) :
    FnOk P w K mg base CX0 (k + 1) f fd ["line"] (spTurnedLine K) := by
  refine F.ok s_turnedLine (fun vs H Q E h => ?_) (fun cdv A outer s H vs Q E hr h => ?_)
  · obtain ⟨b, v, row, rooms, rfl, hL, h1, h2, q⟩ := h
    rfl
  · obtain ⟨b, v, row, rooms, rfl, hL, h1, h2, q⟩ := h
    refine ⟨_, pss_cons (ps_asg (pv 0) (pg_or (pg_tup rfl (pgs_cons (pg_name (i := 1) s_turnedLine.nd rfl (.inl rfl)) (pgs_cons (pg_name (i := 2) s_turnedLine.nd rfl (.inl rfl)) pgs_nil))) (pg_lst rfl (pgs_cons (pg_name (i := 1) s_turnedLine.nd rfl (.inl rfl)) (pgs_cons (pg_name (i := 2) s_turnedLine.nd rfl (.inl rfl)) pgs_nil))))) (pss_one (ps_ret (pe_tup (pa_cons (pv 1) (pa_cons (pe_or (RT.pe_tupRev rfl (by rfl) N.tup (by rfl) mr (pv 2)) (pe_revT rfl (by rfl) N.tup (by rfl) mr (pv 2))) pa_nil))))), ?_⟩
    refine ⟨_, rfl, unp (i := 0) hL fun r hr' => ?_⟩
    refine ⟨_, _, rfl, _, [], rfl, rfl, ?_⟩
    refine ⟨_, rfl, rev_read rfl hr' (by rw [List.length_map]; exact h1) (by rw [List.length_map]; exact h2) fun p np => ⟨show 2 ≤ sizeLine by decide, fun t nt => ?_⟩⟩
    refine q _ _ ((Evl.Ex.new np).trans (Evl.Ex.new nt)) ⟨t, p, rfl, .inl (.inl upd_same), .inl (.inl ?_)⟩
    rw [carry upd_same nt, List.map_reverse]
theorem ok_turned {f : Addr} {fd : FuncData} {k : Nat} (F : Fun K "turned" "turned" (topS 16) f fd) (N : Names mg) (mr : mg "reversed" = none) :
    FnOk P w K mg base CX0 (k + 1) f fd ["line", "standing"] (spTurned K) := by
  refine F.ok s_turned (fun vs H Q E h => ?_) (fun cdv A outer s H vs Q E hr h => ?_)
  · obtain ⟨b, v, u, xs, rfl, ⟨a, rfl, hS⟩, h1, h2, q⟩ := h
    rfl
  · obtain ⟨b, v, u, xs, rfl, ⟨a, rfl, hS⟩, h1, h2, q⟩ := h
    refine ⟨_, pss_one (ps_ret (pe_or (RT.pe_tupRev rfl (by rfl) N.tup (by rfl) mr (pv 1)) (pe_revT rfl (by rfl) N.tup (by rfl) mr (pv 1)))), ?_⟩
    exact rev_read rfl hS h1 h2 fun p np => q _ _ (Evl.Ex.new np) ⟨p, rfl, .inl (.inl upd_same)⟩
end
end Kd
namespace Kd
open PySem PySem.Spec PyProof.Rows L2 Xg
theorem six_neg (n d : Nat) (h : 1 ≤ n) : HT.sIx n d (some (-1)) = n - 1 := by
  unfold HT.sIx
  dsimp only
  rw [if_pos (by decide)]
  omega
theorem cut_last (xs : List V) (h : 1 ≤ xs.length) : cutV xs (some (-1)) none = xs.drop (xs.length - 1) := by
  unfold cutV
  rw [six_neg _ _ h, HT.sIx_none]
  exact List.take_of_length_le (by rw [List.length_drop]; omega)
theorem cut_init (xs : List V) (h : 1 ≤ xs.length) : cutV xs none (some (-1)) = xs.take (xs.length - 1) := by
  unfold cutV
  rw [six_neg _ _ h, HT.sIx_none, List.drop_zero, Nat.sub_zero]
theorem about_ring (xs : List V) (h : 1 ≤ xs.length) : xs.reverse.drop (xs.reverse.length - 1) ++ xs.reverse.take (xs.reverse.length - 1) = about false xs := by
  unfold about
  rw [if_neg Bool.false_ne_true]
  cases xs with
  | nil => cases h
  | cons x r =>
    have hl : (x :: r).reverse.length - 1 = r.reverse.length := by simp
    rw [hl, List.reverse_cons, List.drop_left, List.take_left]
    rfl
section
variable {P : Program} {w : World} {K : PySem.W.Frag} {mg : Str → Option Value} {base : Heap}
theorem ok_turnedWidths {f : Addr} {fd : FuncData} {k : Nat} (F : Fun K "turned_widths" "turned_widths" (topS 17) f fd) (N : Names mg) (mr : mg "reversed" = none) (gR : ∃ u, mg "ROW" = some u ∧ L2.RelV (.str "row") u) :
    FnOk P w K mg base CX0 (k + 1) f fd ["line", "widths"] (spTurnedWidths K) := by
  refine F.ok s_turnedWidths (fun vs H Q E h => ?_) (fun cdv A outer s H vs Q E hr h => ?_)
  · obtain ⟨b, v, u, row, rooms, xs, rfl, hL, ⟨a, rfl, hS⟩, h1, h2, q⟩ := h
    rfl
  · obtain ⟨b, v, u, row, rooms, xs, rfl, hL, ⟨a, rfl, hS⟩, h1, h2, q⟩ := h
    refine ⟨_, pss_cons (ps_asg (pv 0) (pg_or (pg_tup rfl (pgs_cons (pg_name (i := 2) s_turnedWidths.nd rfl (.inl rfl)) (pgs_cons (pg_name (i := 3) s_turnedWidths.nd rfl (.inl rfl)) pgs_nil))) (pg_lst rfl (pgs_cons (pg_name (i := 2) s_turnedWidths.nd rfl (.inl rfl)) (pgs_cons (pg_name (i := 3) s_turnedWidths.nd rfl (.inl rfl)) pgs_nil))))) (pss_cons (ps_set (i := 4) s_turnedWidths.nd rfl (.inl rfl) (pe_or (RT.pe_tupRev rfl (by rfl) N.tup (by rfl) mr (pv 1)) (pe_revT rfl (by rfl) N.tup (by rfl) mr (pv 1))))
      (pss_cons (ps_if (pt_cmpR op_eq (pv 2) (pe_con (v := .str "row") (by rfl) gR) (nomark _)) (pss_one (ps_ret (pv 4))) pss_nil)
      (pss_one (ps_ret (pe_op op_catA (pe_slice sl_tup (pv 4) (po_some (pe_un un_neg pe_int)) po_none) (pe_slice sl_tup (pv 4) po_none (po_some (pe_un un_neg pe_int)))))))), ?_⟩
    refine ⟨_, rfl, unp (i := 0) hL fun r hr' => ?_⟩
    refine ⟨_, _, rfl, _, [], rfl, rfl, ?_⟩
    refine rev_read rfl hS (by omega) h2 fun p np => ?_
    have e1 := Evl.Ex.new (o := .tup xs.reverse) np
    refine ⟨_, rfl, rfl, _, rfl, ?_⟩
    rw [fT_row]
    have lr : xs.reverse.length = xs.length := List.length_reverse
    cases row with
    | true => exact iteT ⟨_, rfl, q _ _ e1 ⟨p, rfl, .inl (.inl upd_same)⟩⟩
    | false =>
      refine iteF ⟨_, rfl, 1, rfl, _, rfl, p, _, rfl, .inl (.inl upd_same), ?_, fun c nc => ?_⟩
      · rw [six_neg _ _ (by omega)]
        omega
      have e2 := Evl.Ex.new (o := .tup (cutV xs.reverse (some (-1)) none)) nc
      refine ⟨_, rfl, 1, rfl, _, rfl, p, _, rfl, .inl (.inl (carry upd_same nc)), ?_, fun d nd => ?_⟩
      · rw [six_neg _ _ (by omega)]
        omega
      have e3 := Evl.Ex.new (o := .tup (cutV xs.reverse none (some (-1)))) nd
      have ne1 : cutV xs.reverse (some (-1)) none ≠ [] := fun z => by
        have := congrArg List.length z
        rw [cut_last _ (by omega), List.length_drop] at this
        simp at this
        omega
      have ne2 : cutV xs.reverse none (some (-1)) ≠ [] := fun z => by
        have := congrArg List.length z
        rw [cut_init _ (by omega), List.length_take] at this
        simp at this
        omega
      refine ⟨c, d, _, _, rfl, rfl, .inl (.inl (carry upd_same nd)), .inl (.inl upd_same), ?_, fun z => absurd z ne1, fun _ z => absurd z ne2, fun _ _ p2 np2 => ?_⟩
      · rw [cut_last _ (by omega), cut_init _ (by omega), List.length_drop, List.length_take]
        exact Evl.sz_of (by omega)
      · refine q _ _ (((e1.trans e2).trans e3).trans (Evl.Ex.new np2)) ⟨p2, rfl, .inl (.inl ?_)⟩
        rw [upd_same, cut_last _ (by omega), cut_init _ (by omega), about_ring _ (by omega)]
theorem lack_turn {H H2 H3 : Hp} {D : Addr} {held rooms : List Int} {i : Nat} {x : V} (hlen : held.length = rooms.length) (hz : rooms.length ≤ 1000) (hi : i < rooms.length)
    (pe : Evl.Ex H H2 ∧ H2 D = some (.lst (((less held rooms).take i).map V.int))) (y : YPair (fun i => (held.map V.int)[i]?) (fun i => (rooms.map V.int)[i]?) i H2 x H3) (nD : H D = none) {a0 a1 a2 a3 y4 y5 : Option V} :
    gTup K 2 (gCons (gName 4) (gCons (gName 5) gNil)) x (wipe [a0, a1, a2, a3, y4, y5] [4, 5]) H3 fun σ2 H4 => wipe σ2 [4, 5] = wipe [a0, a1, a2, a3, y4, y5] [4, 5] ∧ tYes σ2 H4 fun b H5 =>
      if b = true then tOp (rI0 fun i j => V.int (i - j)) (tVar 5) (tVar 4) σ2 H5 fun y H6 => ∃ acc, H6 D = some (.lst acc) ∧ acc.length < sizeLine ∧
        (Evl.Ex H (upd H6 D (.lst (acc ++ [y]))) ∧ (upd H6 D (.lst (acc ++ [y]))) D = some (.lst (((less held rooms).take (i + 1)).map V.int)))
      else (Evl.Ex H H5 ∧ H5 D = some (.lst (((less held rooms).take (i + 1)).map V.int))) := by
  obtain ⟨T, u, v, rfl, nT, rfl, eu, ev⟩ := y
  obtain ⟨h0, rfl, eh⟩ := int_at eu
  obtain ⟨r0, rfl, er⟩ := int_at ev
  refine ⟨T, _, rfl, .inl (.inl upd_same), rfl, _, _, rfl, _, [], rfl, rfl, rfl, ?_⟩
  unfold tYes
  dsimp only
  rw [if_pos rfl]
  refine ⟨_, rfl, _, rfl, r0, h0, rfl, rfl, _, carry pe.2 nT, ?_, Evl.Ex.mut (pe.1.trans (Evl.Ex.new nT)) nD, ?_⟩
  · rw [List.length_map, List.length_take]
    exact Evl.sz_lt (by omega)
  · rw [upd_same, List.take_add_one, less_at held rooms i h0 r0 eh er, List.map_append]
    rfl
theorem lack_end {H H' : Hp} {D : Addr} {held rooms : List Int} {Q : VK} (hlen : held.length = rooms.length) (pe : Evl.Ex H H' ∧ H' D = some (.lst (((less held rooms).take (min held.length rooms.length)).map V.int)))
    (q : ∀ z H', Evl.Ex H H' → TpV K true H' z ((less held rooms).map V.int) → Q z H') : kTup K (.ref D) H' Q := by
  have e : (less held rooms).take (min held.length rooms.length) = less held rooms := List.take_of_length_le (by rw [less_len]; omega)
  rw [e] at pe
  exact .inl ⟨D, _, rfl, .inl (.inl pe.2), fun p np => q _ _ (pe.1.trans (Evl.Ex.new np)) ⟨p, rfl, .inl (.inl upd_same)⟩⟩
theorem ok_lacking {f : Addr} {fd : FuncData} {k : Nat} (F : Fun K "lacking" "lacking" (topS 14) f fd) (N : Names mg) :
    FnOk P w K mg base CX0 (k + 1) f fd ["line", "standing"] (spLacking K) := by
  refine F.ok s_lacking (fun vs H Q E h => ?_) (fun cdv A outer s H vs Q E hr h => ?_)
  · obtain ⟨b, v, u, row, rooms, held, rfl, hL, ⟨a, rfl, hS⟩, hlen, hz, q⟩ := h
    rfl
  · obtain ⟨b, v, u, row, rooms, held, rfl, hL, ⟨a, rfl, hS⟩, hlen, hz, q⟩ := h
    refine ⟨_, pss_cons (ps_asg (pv 0) (pg_or (pg_tup rfl (pgs_cons (pg_name (i := 2) s_lacking.nd rfl (.inl rfl)) (pgs_cons (pg_name (i := 3) s_lacking.nd rfl (.inl rfl)) pgs_nil))) (pg_lst rfl (pgs_cons (pg_name (i := 2) s_lacking.nd rfl (.inl rfl)) (pgs_cons (pg_name (i := 3) s_lacking.nd rfl (.inl rfl)) pgs_nil))))) (pss_one (ps_ret (pe_tupleOf (by rfl) N.tup (pe_lc (own := [("held", 4), ("room", 5)]) (g := gTup K 2 (gCons (gName 4) (gCons (gName 5) gNil))) (tt := tYes) rfl s_lacking.nd (RZ.pi_zipA (by rfl) N.zip (pa_cons (pv 1) (pa_cons (pv 3) pa_nil))) (blkOk_by (N := ["line", "standing", "form", "rooms", "held", "room"]) (sc := defScope (topS 14)) (by decide +kernel)) (fun _ _ _ _ _ => pg_tup rfl (pgs_cons (pg_name (i := 4) s_lacking.nd rfl (.inl rfl)) (pgs_cons (pg_name (i := 5) s_lacking.nd rfl (.inl rfl)) pgs_nil))) (fun _ _ _ _ _ => pts_nil) (fun _ _ _ _ _ => pe_op op_sub (pv 5) (pv 4)))))), ?_⟩
    refine ⟨_, rfl, unp (i := 0) hL fun r hr' => ?_⟩
    refine ⟨_, _, rfl, _, [], rfl, rfl, ?_⟩
    cases b with
    | true =>
      refine ⟨_, rfl, _, rfl, a, r, held.map V.int, rooms.map V.int, rfl, .inr ⟨hS, hr', fun D nD => lc_it (walk_zipT (xs := held.map V.int) (ys := rooms.map V.int) rfl)
        (fun i H' => Evl.Ex H H' ∧ H' D = some (.lst (((less held rooms).take i).map V.int))) ⟨Evl.Ex.new nD, upd_same⟩ (fun i H' _ pe => ⟨Sq.mono (b := true) hS pe.1, Sq.mono (b := true) hr' pe.1⟩) (fun i x H2 H3 hi pe y => ?_) (fun H' pe => ?_)⟩⟩
      · exact lack_turn hlen hz (by rw [List.length_map, List.length_map] at hi; omega) pe y nD
      · exact lack_end hlen (by rw [List.length_map, List.length_map] at pe; exact pe) q
    | false =>
      refine ⟨_, rfl, _, rfl, a, r, held.map V.int, rooms.map V.int, rfl, .inl ⟨hS, hr', fun D nD => lc_it (walk_zip (xs := held.map V.int) (ys := rooms.map V.int) rfl)
        (fun i H' => Evl.Ex H H' ∧ H' D = some (.lst (((less held rooms).take i).map V.int))) ⟨Evl.Ex.new nD, upd_same⟩ (fun i H' _ pe => ⟨Sq.mono (b := false) hS pe.1, Sq.mono (b := false) hr' pe.1⟩) (fun i x H2 H3 hi pe y => ?_) (fun H' pe => ?_)⟩⟩
      · exact lack_turn hlen hz (by rw [List.length_map, List.length_map] at hi; omega) pe y nD
      · exact lack_end hlen (by rw [List.length_map, List.length_map] at pe; exact pe) q
end
end Kd
namespace Kd
open PySem PySem.Spec PyProof.Rows L2 Xg
/-- a comprehension of truths -/
def Yes (H : Hp) (D : Addr) (i : Nat) (H' : Hp) : Prop := Evl.Ex H H' ∧ H' D = some (.lst ((List.replicate i true).map V.bl))
theorem yes_next {H H' : Hp} {D : Addr} {i : Nat} (nD : H D = none) (hi : i ≤ 1000) (e : Evl.Ex H H') (h : H' D = some (.lst ((List.replicate i true).map V.bl))) :
    ∃ acc, H' D = some (.lst acc) ∧ acc.length < sizeLine ∧ Yes H D (i + 1) (upd H' D (.lst (acc ++ [.bl true]))) := by
  refine ⟨_, h, ?_, Evl.Ex.mut e nD, ?_⟩
  · rw [List.length_map, List.length_replicate]
    exact Evl.sz_lt (by omega)
  · rw [upd_same, List.replicate_succ', List.map_append]
    rfl
theorem yes_end {K : PySem.W.Frag} {H H' : Hp} {D : Addr} {i : Nat} {Q : VK} (p : Yes H D i H') (q : ∀ H', Evl.Ex H H' → Q (.bl true) H') : rAll K [.ref D] H' Q := by
  refine ⟨D, _, rfl, .inl (.inl p.2), ?_⟩
  rw [all_yes]
  exact q _ p.1
section
variable {P : Program} {w : World} {K : PySem.W.Frag} {mg : Str → Option Value} {base : Heap}
theorem ok_areRooms {f : Addr} {fd : FuncData} {k : Nat} (F : Fun K "are_rooms" "are_rooms" (topS 8) f fd) (N : Names mg) (D : Df P w K mg base "is_number_from" ["thing", "least"] 2 spIsFrom) :
    FnOk P w K mg base CX0 3 f fd ["thing", "least_bins"] (spAreRooms K) := by
  refine F.ok s_areRooms (fun vs H Q E h => ?_) (fun cdv A outer s H vs Q E hr h => ?_)
  · obtain ⟨a, rooms, l, rfl, hS, hl, hz, hp, q⟩ := h
    rfl
  · obtain ⟨a, rooms, l, rfl, hS, hl, hz, hp, q⟩ := h
    refine ⟨_, pss_cons (ps_if (pw_or (pt_not (pt_val (pe_callB call_isi (by rfl) N.isi bt_isi (pa_cons (pv 0) (pa_cons (pe_bltn (v := .ty "tuple") (by rfl) N.tup bt_tup rfl) pa_nil))))) (pw_or1 (pt_cmpR op_lt (pe_callB call_len_seq (by rfl) N.len PySem.boot_len (pa_cons (pv 0) pa_nil)) (pv 1) (nomark _)))).pt (pss_one (ps_ret pe_bl)) pss_nil)
      (pss_one (ps_ret (pe_callB (cr_all rfl) (by rfl) N.all bt_all (pa_cons (pe_lc (own := [("room", 2)]) (g := gName 2) (tt := tYes) rfl s_areRooms.nd (pi_tup (pv 0)) (blkOk_by (N := ["thing", "least_bins", "room"]) (sc := defScope (topS 8)) (by decide +kernel)) (fun _ _ _ _ _ => pg_name (i := 2) s_areRooms.nd rfl (.inl rfl)) (fun _ _ _ _ _ => pts_nil) (fun _ _ _ _ _ => pe_df D hr (by rfl) (pa_cons (pv 2) (pa_cons pe_int pa_nil)))) pa_nil)))), ?_⟩
    refine ⟨_, rfl, _, _, _, _, true, rfl, .ty _, tyx_t hS, kit_ty (by decide +kernel), _, rfl, ifN rfl ?_⟩
    refine ⟨_, rfl, a, _, rfl, .inr hS, _, rfl, _, _, rfl, rfl, _, rfl, ifN (decide_eq_false (by rw [List.length_map]; omega)) ?_⟩
    refine ⟨_, rfl, a, rfl, ⟨_, hS⟩, fun D' nD => lc_it (walk_tup (xs := rooms.map V.int)) (Yes H D') ⟨Evl.Ex.new nD, upd_same⟩ (fun i H' _ pe => Evl.ex_t pe.1 hS) (fun i x H2 H3 hi pe y => ?_) (fun H' pe => yes_end pe q)⟩
    obtain ⟨rfl, ex⟩ := y
    obtain ⟨z, rfl, ez⟩ := int_at ex
    refine ⟨rfl, ?_⟩
    unfold tYes
    dsimp only
    rw [if_pos rfl]
    refine ⟨_, rfl, z, 1, rfl, ?_⟩
    rw [decide_eq_true (hp z (List.mem_of_getElem? ez))]
    rw [List.length_map] at hi
    exact yes_next nD (by omega) pe.1 pe.2
theorem ok_isLine {f : Addr} {fd : FuncData} {k : Nat} (F : Fun K "is_line" "is_line" (topS 7) f fd) (N : Names mg) (gR : ∃ u, mg "ROW" = some u ∧ L2.RelV (.str "row") u) (gG : ∃ u, mg "RING" = some u ∧ L2.RelV (.str "ring") u) (DT : Df P w K mg base "is_tuple_of" ["thing", "many"] 1 (spIsTup K)) (DA : Df P w K mg base "are_rooms" ["thing", "least_bins"] 3 (spAreRooms K)) :
    FnOk P w K mg base CX0 4 f fd ["thing"] (spIsLine K) := by
  refine F.ok s_isLine (fun vs H Q E h => ?_) (fun cdv A outer s H vs Q E hr h => ?_)
  · obtain ⟨v, row, rooms, rfl, ⟨a, r, rfl, h1, h2⟩, hn, hz, hp, q⟩ := h
    rfl
  · obtain ⟨v, row, rooms, rfl, ⟨a, r, rfl, h1, h2⟩, hn, hz, hp, q⟩ := h
    refine ⟨_, pss_cons (ps_if (pt_not (pt_val (pe_df DT (hr.mono (by decide)) (by rfl) (pa_cons (pv 0) (pa_cons pe_int pa_nil))))) (pss_one (ps_ret pe_bl)) pss_nil)
      (pss_cons (ps_asg (pv 0) (pg_tup rfl (pgs_cons (pg_name (i := 1) s_isLine.nd rfl (.inl rfl)) (pgs_cons (pg_name (i := 2) s_isLine.nd rfl (.inl rfl)) pgs_nil))))
      (pss_cons (ps_if (pt_cmpR op_eq (pv 1) (pe_con (v := .str "row") (by rfl) gR) (nomark _)) (pss_one (ps_ret (pe_df DA hr (by rfl) (pa_cons (pv 2) (pa_cons pe_int pa_nil))))) pss_nil)
      (pss_one (ps_ret (pe_and (pe_cmpR op_eq (pv 1) (pe_con (v := .str "ring") (by rfl) gG) (nomark _)) (pe_one (pe_df DA hr (by rfl) (pa_cons (pv 2) (pa_cons pe_int pa_nil))))))))), ?_⟩
    refine ⟨_, rfl, a, _, 2, rfl, h1, rfl, _, rfl, ifN rfl ?_⟩
    refine ⟨_, rfl, a, _, rfl, h1, rfl, _, _, rfl, _, [], rfl, rfl, ?_⟩
    refine ⟨_, rfl, rfl, _, rfl, ?_⟩
    rw [fT_row]
    cases row with
    | true =>
      rw [if_pos rfl] at hn
      exact iteT ⟨_, rfl, r, rooms, 1, rfl, h2, by omega, hz, hp, q⟩
    | false =>
      rw [if_neg Bool.false_ne_true] at hn
      refine iteF ⟨_, rfl, rfl, _, rfl, ifY (fT_ring false) ?_⟩
      exact ⟨_, rfl, r, rooms, 2, rfl, h2, by omega, hz, hp, q⟩
theorem ok_isWidths {f : Addr} {fd : FuncData} {k : Nat} (F : Fun K "is_widths" "is_widths" (topS 10) f fd) (N : Names mg) (D : Df P w K mg base "is_number_from" ["thing", "least"] 2 spIsFrom) (DT : Df P w K mg base "is_tuple_of" ["thing", "many"] 1 (spIsTup K)) (DG : Df P w K mg base "gates" ["line"] 1 (spGates K)) :
    FnOk P w K mg base CX0 3 f fd ["line", "thing"] (spIsWidths K) := by
  refine F.ok s_isWidths (fun vs H Q E h => ?_) (fun cdv A outer s H vs Q E hr h => ?_)
  · obtain ⟨v, u, row, rooms, ws, rfl, hL, ⟨a, rfl, hS⟩, hl, hz, hp, q⟩ := h
    rfl
  · obtain ⟨v, u, row, rooms, ws, rfl, hL, ⟨a, rfl, hS⟩, hl, hz, hp, q⟩ := h
    refine ⟨_, pss_cons (ps_if (pt_not (pt_val (pe_df DT (hr.mono (by decide)) (by rfl) (pa_cons (pv 1) (pa_cons (pe_df DG (hr.mono (by decide)) (by rfl) (pa_cons (pv 0) pa_nil)) pa_nil))))) (pss_one (ps_ret pe_bl)) pss_nil)
      (pss_one (ps_ret (pe_callB (cr_all rfl) (by rfl) N.all bt_all (pa_cons (pe_lc (own := [("width", 2)]) (g := gName 2) (tt := tYes) rfl s_isWidths.nd (pi_tup (pv 1)) (blkOk_by (N := ["line", "thing", "width"]) (sc := defScope (topS 10)) (by decide +kernel)) (fun _ _ _ _ _ => pg_name (i := 2) s_isWidths.nd rfl (.inl rfl)) (fun _ _ _ _ _ => pts_nil) (fun _ _ _ _ _ => L2.pe_or (pe_cmpR op_isN (pv 2) pe_non (nomark _)) (pe_one (pe_df D (hr.mono (by decide)) (by rfl) (pa_cons (pv 2) (pa_cons pe_int pa_nil)))))) pa_nil)))), ?_⟩
    refine ⟨_, rfl, _, rfl, true, v, row, rooms, rfl, hL, a, _, _, rfl, hS, by rw [← hl, List.length_map], _, rfl, ifN rfl ?_⟩
    refine ⟨_, rfl, a, rfl, ⟨_, hS⟩, fun D' nD => lc_it (walk_tup (xs := ws.map vO)) (Yes H D') ⟨Evl.Ex.new nD, upd_same⟩ (fun i H' _ pe => Evl.ex_t pe.1 hS) (fun i x H2 H3 hi pe y => ?_) (fun H' pe => yes_end pe q)⟩
    obtain ⟨rfl, ex⟩ := y
    rw [List.getElem?_map] at ex
    rw [List.length_map] at hi
    rw [List.getElem?_eq_getElem hi] at ex
    cases ex
    have hw := hp ws[i] (List.getElem_mem hi)
    refine ⟨rfl, ?_⟩
    unfold tYes
    dsimp only
    rw [if_pos rfl]
    cases e : ws[i] with
    | none =>
      refine ⟨_, rfl, rfl, _, rfl, ifY (decide_eq_true rfl) ?_⟩
      exact yes_next nD (by omega) pe.1 pe.2
    | some z =>
      refine ⟨_, rfl, rfl, _, rfl, ifN (decide_eq_false fun z => nomatch z) ?_⟩
      refine ⟨_, rfl, z, 0, rfl, ?_⟩
      rw [decide_eq_true (hw z e)]
      exact yes_next nD (by omega) pe.1 pe.2
theorem ok_isStanding {f : Addr} {fd : FuncData} {k : Nat} (F : Fun K "is_standing" "is_standing" (topS 11) f fd) (N : Names mg) (D : Df P w K mg base "is_number_from" ["thing", "least"] 2 spIsFrom) (DT : Df P w K mg base "is_tuple_of" ["thing", "many"] 1 (spIsTup K)) :
    FnOk P w K mg base CX0 3 f fd ["line", "thing"] (spIsStanding K) := by
  refine F.ok s_isStanding (fun vs H Q E h => ?_) (fun cdv A outer s H vs Q E hr h => ?_)
  · obtain ⟨v, u, row, rooms, held, rfl, ⟨a0, r, rfl, h1, h2⟩, ⟨a, rfl, hS⟩, hl, hz, hp, q⟩ := h
    rfl
  · obtain ⟨v, u, row, rooms, held, rfl, ⟨a0, r, rfl, h1, h2⟩, ⟨a, rfl, hS⟩, hl, hz, hp, q⟩ := h
    refine ⟨_, pss_cons (ps_asg (pv 0) (pg_tup rfl (pgs_cons (pg_name (i := 2) s_isStanding.nd rfl (.inl rfl)) (pgs_cons (pg_name (i := 3) s_isStanding.nd rfl (.inl rfl)) pgs_nil))))
      (pss_cons (ps_if (pt_not (pt_val (pe_df DT (hr.mono (by decide)) (by rfl) (pa_cons (pv 1) (pa_cons (pe_callB call_len_seq (by rfl) N.len PySem.boot_len (pa_cons (pv 3) pa_nil)) pa_nil))))) (pss_one (ps_ret pe_bl)) pss_nil)
      (pss_one (ps_ret (pe_callB (cr_all rfl) (by rfl) N.all bt_all (pa_cons (pe_lc (own := [("held", 4), ("room", 5)]) (g := gTup K 2 (gCons (gName 4) (gCons (gName 5) gNil))) (tt := tYes) rfl s_isStanding.nd (RZ.pi_zipA (by rfl) N.zip (pa_cons (pv 1) (pa_cons (pv 3) pa_nil))) (blkOk_by (N := ["line", "thing", "form", "rooms", "held", "room"]) (sc := defScope (topS 11)) (by decide +kernel)) (fun _ _ _ _ _ => pg_tup rfl (pgs_cons (pg_name (i := 4) s_isStanding.nd rfl (.inl rfl)) (pgs_cons (pg_name (i := 5) s_isStanding.nd rfl (.inl rfl)) pgs_nil))) (fun _ _ _ _ _ => pts_nil) (fun _ _ _ _ _ => pe_and (pe_df D (hr.mono (by decide)) (by rfl) (pa_cons (pv 4) (pa_cons pe_int pa_nil))) (pe_one (pe_cmpR op_le (pv 4) (pv 5) (nomark _))))) pa_nil))))), ?_⟩
    refine ⟨_, rfl, a0, _, rfl, h1, rfl, _, _, rfl, _, [], rfl, rfl, ?_⟩
    refine ⟨_, rfl, _, rfl, r, _, rfl, .inr h2, a, _, _, rfl, hS, by rw [List.length_map, List.length_map, hl], _, rfl, ifN rfl ?_⟩
    refine ⟨_, rfl, _, rfl, a, r, held.map V.int, rooms.map V.int, rfl, .inr ⟨hS, h2, fun D' nD => lc_it (walk_zipT (xs := held.map V.int) (ys := rooms.map V.int) rfl) (Yes H D') ⟨Evl.Ex.new nD, upd_same⟩
      (fun i H' _ pe => ⟨Evl.ex_t pe.1 hS, Evl.ex_t pe.1 h2⟩) (fun i x H2 H3 hi pe y => ?_) (fun H' pe => yes_end pe q)⟩⟩
    obtain ⟨T, x1, x2, rfl, nT, rfl, e1, e2⟩ := y
    obtain ⟨z1, rfl, g1⟩ := int_at e1
    obtain ⟨z2, rfl, g2⟩ := int_at e2
    obtain ⟨p1, p2⟩ := hp i z1 z2 g1 g2
    refine ⟨T, _, rfl, .inl (.inl upd_same), rfl, _, _, rfl, _, [], rfl, rfl, rfl, ?_⟩
    unfold tYes
    dsimp only
    rw [if_pos rfl]
    refine ⟨_, rfl, z1, 0, rfl, _, rfl, ifY (decide_eq_true p1) ?_⟩
    refine ⟨_, rfl, _, rfl, z1, z2, rfl, rfl, ?_⟩
    dsimp only
    rw [decide_eq_true p2]
    rw [List.length_map, List.length_map] at hi
    exact yes_next nD (by omega) (pe.1.trans (Evl.Ex.new nT)) (carry pe.2 nT)
end
end Kd
namespace Kd
open PySem PySem.Spec PyProof.Rows L2 Xg
theorem s_lists : FnScope ["_law_thing", "_law_one"] ["_law_thing"] (defScope (topS 22)) := ⟨rfl, rfl, rfl, by decide +kernel, rfl, by decide +kernel, by decide +kernel⟩
theorem s_wide : FnScope ["_law_box_here", "_law_bound"] ["_law_box_here", "_law_bound"] (defScope (topS 23)) := ⟨rfl, rfl, rfl, by decide +kernel, rfl, by decide +kernel, by decide +kernel⟩
theorem s_line : FnScope ["_law_box_here", "_law_most", "_law_size", "_law_homes", "_law_turn"] ["_law_box_here", "_law_most"] (defScope (topS 24)) := ⟨rfl, rfl, rfl, by decide +kernel, rfl, by decide +kernel, by decide +kernel⟩
theorem s_doors : FnScope ["_law_box_here", "_law_own", "_law_size", "_law_turn"] ["_law_box_here", "_law_own"] (defScope (topS 25)) := ⟨rfl, rfl, rfl, by decide +kernel, rfl, by decide +kernel, by decide +kernel⟩
theorem s_lies : FnScope ["_law_box_here", "_law_own", "_law_sort", "_law_home"] ["_law_box_here", "_law_own"] (defScope (topS 26)) := ⟨rfl, rfl, rfl, by decide +kernel, rfl, by decide +kernel, by decide +kernel⟩
theorem s_great : FnScope ["_law_box_here", "_law_most", "_law_size", "_law_homes", "_law_own", "_law_doors_here", "_law_gate", "_law_turn", "_law_home"] ["_law_box_here", "_law_most"] (defScope (topS 27)) := ⟨rfl, rfl, rfl, by decide +kernel, rfl, by decide +kernel, by decide +kernel⟩
/-- all but the box is as it was -/
def Kp (b : Addr) (H H' : Hp) : Prop := ∀ c o, c ≠ b → H c = some o → H' c = some o
/-- a box at b, at most m numbers drawn by reckoning -/
def Bx (H : Hp) (b : Addr) (m : Int) : Prop := ∃ x y z : Int, 0 ≤ x ∧ 0 ≤ y ∧ y < 1000000000000 ∧ 0 ≤ z ∧ z ≤ m ∧ H b = some (.lst [.int x, .int y, .int z])
theorem Kp.refl (b : Addr) (H : Hp) : Kp b H H := fun _ _ _ h => h
theorem Kp.trans {b : Addr} {H H1 H2 : Hp} (h : Kp b H H1) (g : Kp b H1 H2) : Kp b H H2 := fun c o n e => g c o n (h c o n e)
theorem Kp.ex {b : Addr} {H H' : Hp} (e : Evl.Ex H H') : Kp b H H' := fun c o _ h => e c o h
theorem Bx.ex {b : Addr} {H H' : Hp} {m : Int} (h : Bx H b m) (e : Evl.Ex H H') : Bx H' b m := let ⟨x, y, z, h1, h2, h3, h4, h5, h6⟩ := h; ⟨x, y, z, h1, h2, h3, h4, h5, e _ _ h6⟩
theorem Bx.le {b : Addr} {H : Hp} {m n : Int} (h : Bx H b m) (l : m ≤ n) : Bx H b n := let ⟨x, y, z, h1, h2, h3, h4, h5, h6⟩ := h; ⟨x, y, z, h1, h2, h3, h4, by omega, h6⟩
theorem Bx.ne {b c : Addr} {H : Hp} {m : Int} (h : Bx H b m) (n : H c = none) : c ≠ b := let ⟨_, _, _, _, _, _, _, _, e⟩ := h; (ne_of_none e n).symm
/-- a new object beside the box that changes -/
theorem Kp.mut {b : Addr} {H H' : Hp} {p : Addr} {o : HO} (e : Kp b H H') (h : H p = none) : Kp b H (upd H' p o) := fun a u n ha => by
  rw [upd_ne (ne_of_none ha h)]
  exact e a u n ha
theorem Bx.upd {b p : Addr} {H : Hp} {m : Int} {o : HO} (h : Bx H b m) (n : p ≠ b) : Bx (L2.upd H p o) b m := let ⟨x, y, z, h1, h2, h3, h4, h5, h6⟩ := h; ⟨x, y, z, h1, h2, h3, h4, h5, by rw [upd_ne n.symm]; exact h6⟩
theorem takeR {H : Hp} {b : Addr} {m n : Int} {Q : VK} {E : XK} (h : Bx H b m) (hm : m < 1000000000) (h1 : 0 < n) (h2 : n < 1073741824) (k : ∀ r H', 0 ≤ r → r < n → Kp b H H' → Bx H' b (m + 1) → Q (.int r) H') :
    spTake [.ref b, .int n] H Q E := by
  obtain ⟨x, y, z, g1, g2, g3, g4, g5, g6⟩ := h
  refine ⟨b, x, y, z, n, rfl, g6, g1, g2, g3, g4, by omega, h1, h2, fun r x' z' k1 k2 k3 k4 k5 => k r _ k1 k2 (fun c o hc e => ?_) ⟨x', y, z', k3, g2, g3, by omega, by omega, upd_same⟩⟩
  rw [upd_ne hc]
  exact e
section
variable {P : Program} {w : World} {K : PySem.W.Frag} {mg : Str → Option Value} {base : Heap}
def spWide : Sp := fun vs H Q _ => ∃ (b : Addr) (m n : Int), vs = [.ref b, .int n] ∧ Bx H b m ∧ m < 900000000 ∧ 0 < n ∧ ∀ r H', 0 ≤ r → r < n → Kp b H H' → Bx H' b (m + 2) → Q (.int r) H'
def spLine (K : PySem.W.Frag) : Sp := fun vs H Q _ => ∃ (b : Addr) (m n : Int), vs = [.ref b, .int n] ∧ Bx H b m ∧ m < 900000000 ∧ 1 ≤ n ∧ n ≤ 7 ∧
  ∀ v H' row (rooms : List Int), Kp b H H' → Bx H' b (m + 20) → LnV K true H' v row rooms → (if row = true then 1 else 2) ≤ rooms.length → (rooms.length : Int) ≤ n → (∀ r ∈ rooms, 1 ≤ r ∧ r ≤ 1000000000) → Q v H'
def spDoors (K : PySem.W.Frag) : Sp := fun vs H Q _ => ∃ (b : Addr) (m : Int) (v : V) (row : Bool) (rooms : List Int), vs = [.ref b, v] ∧ Bx H b m ∧ m < 900000000 ∧ LnV K true H v row rooms ∧ rooms.length ≤ 7 ∧
  ∀ u H' (ws : List (Option Int)), Kp b H H' → Bx H' b (m + 30) → TpV K true H' u (ws.map vO) → (ws.length : Int) = gts row rooms.length → (∀ x ∈ ws, ∀ i, x = some i → 0 ≤ i ∧ i ≤ 1000000000) → Q u H'
/-- as many as rooms, each within -/
def Fits (held rooms : List Int) : Prop := held.length = rooms.length ∧ ∀ (j : Nat) (h r : Int), held[j]? = some h → rooms[j]? = some r → 0 ≤ h ∧ h ≤ r
def spLies (K : PySem.W.Frag) : Sp := fun vs H Q _ => ∃ (b : Addr) (m : Int) (v : V) (row : Bool) (rooms : List Int), vs = [.ref b, v] ∧ Bx H b m ∧ m < 900000000 ∧ LnV K true H v row rooms ∧ rooms.length ≤ 7 ∧ (∀ r ∈ rooms, 1 ≤ r ∧ r ≤ 1000000000) ∧
  ∀ u H' (held : List Int), Kp b H H' → Bx H' b (m + 10) → TpV K true H' u (held.map V.int) → Fits held rooms → Q u H'
def spGreat (K : PySem.W.Frag) : Sp := fun vs H Q _ => ∃ (b : Addr) (m : Int), vs = [.ref b, .int 7] ∧ Bx H b m ∧ m < 800000000 ∧
  ∀ t H' v u z row (rooms held : List Int) (ws : List (Option Int)), Kp b H H' → Bx H' b (m + 80) → SqT K H' t [v, u, z] → LnV K true H' v row rooms → (if row = true then 1 else 2) ≤ rooms.length → rooms.length ≤ 7 →
    (∀ r ∈ rooms, 1 ≤ r ∧ r ≤ 1000000000) → TpV K true H' u (ws.map vO) → (ws.length : Int) = gts row rooms.length → (∀ x ∈ ws, ∀ i, x = some i → 0 ≤ i ∧ i ≤ 1000000000) → TpV K true H' z (held.map V.int) → Fits held rooms → Q (.ref t) H'
theorem ok_wide {f : Addr} {fd : FuncData} (F : Fun K "_law_wide" "_law_wide" (topS 23) f fd) (DT : Df P w K mg base "_law_take" ["_law_box_here", "_law_bound"] 1 spTake) :
    FnOk P w K mg base CX0 2 f fd ["_law_box_here", "_law_bound"] spWide := by
  refine F.ok s_wide (fun vs H Q E h => ?_) (fun cdv A outer s H vs Q E hr h => ?_)
  · obtain ⟨b, m, n, rfl, hb, hm, hn, q⟩ := h
    rfl
  · obtain ⟨b, m, n, rfl, hb, hm, hn, q⟩ := h
    refine ⟨_, pss_one (ps_ret (pe_op op_mod (pe_op op_add (pe_op op_mul (pe_df DT (hr.mono (by decide)) (by rfl) (pa_cons (pv 0) (pa_cons (pe_op op_pow pe_int pe_int) pa_nil))) (pe_op op_pow pe_int pe_int)) (pe_df DT (hr.mono (by decide)) (by rfl) (pa_cons (pv 0) (pa_cons (pe_op op_pow pe_int pe_int) pa_nil)))) (pv 1))), ?_⟩
    refine ⟨_, rfl, 10, 6, rfl, rfl, ⟨by decide, by decide, by decide⟩, ?_⟩
    dsimp only [tNil, tC, tCons]
    refine takeR hb (by omega) (by decide) (by decide) fun r H1 r0 r1 k1 b1 => ?_
    refine ⟨10, 6, rfl, rfl, ⟨by decide, by decide, by decide⟩, _, _, rfl, rfl, .inr ⟨by decide, by decide⟩, ?_⟩
    refine ⟨_, rfl, 10, 6, rfl, rfl, ⟨by decide, by decide, by decide⟩, ?_⟩
    dsimp only [tNil, tC, tCons]
    refine takeR b1 (by omega) (by decide) (by decide) fun r' H2 r2 r3 k2 b2 => ?_
    refine ⟨_, _, rfl, rfl, _, rfl, _, n, rfl, rfl, hn, ?_⟩
    have g := inRange (i := r * 10 ^ (6 : Int).toNat + r') hn
    exact q _ _ g.1 g.2 (k1.trans k2) (b2.le (by omega))
theorem pick4 {d r : Int} (h0 : 0 ≤ d) (h1 : d < 9) (r0 : 0 ≤ r) (r1 : r < 4) : ∃ z : Int, atI [V.int 1, V.int 2, V.int 3, V.int (1 + d)] r = some (.int z) ∧ 1 ≤ z ∧ z ≤ 1000000000 := by
  have c : r = 0 ∨ r = 1 ∨ r = 2 ∨ r = 3 := by omega
  rcases c with rfl | rfl | rfl | rfl
  · exact ⟨1, atI_nat (j := 0) rfl, by omega, by omega⟩
  · exact ⟨2, atI_nat (j := 1) rfl, by omega, by omega⟩
  · exact ⟨3, atI_nat (j := 2) rfl, by omega, by omega⟩
  · exact ⟨1 + d, atI_nat (j := 3) rfl, by omega, by omega⟩
theorem map_snoc (l : List Int) (z : Int) : l.map V.int ++ [V.int z] = (l ++ [z]).map V.int := by rw [List.map_append]; rfl
theorem mem_snoc {p : Int → Prop} {l : List Int} {z : Int} (h : ∀ r ∈ l, p r) (hz : p z) : ∀ r ∈ l ++ [z], p r := fun r hr => by
  rcases List.mem_append.mp hr with e | e
  · exact h r e
  · rw [List.mem_singleton.mp e]
    exact hz
theorem ok_line {f : Addr} {fd : FuncData} (F : Fun K "_law_line" "_law_line" (topS 24) f fd) (N : Names mg) (mrg : mg "range" = none) (DT : Df P w K mg base "_law_take" ["_law_box_here", "_law_bound"] 1 spTake) :
    FnOk P w K mg base CX0 2 f fd ["_law_box_here", "_law_most"] (spLine K) := by
  refine F.ok s_line (fun vs H Q E h => ?_) (fun cdv A outer s H vs Q E hr h => ?_)
  · obtain ⟨b, m, n, rfl, hb, hm, hn1, hn2, q⟩ := h
    rfl
  · obtain ⟨b, m, n, rfl, hb, hm, hn1, hn2, q⟩ := h
    refine ⟨_, pss_cons (ps_set (i := 2) s_line.nd rfl (.inl rfl) (pe_op op_add pe_int (pe_df DT (hr.mono (by decide)) (by rfl) (pa_cons (pv 0) (pa_cons (pv 1) pa_nil)))))
      (pss_cons (ps_set (i := 3) s_line.nd rfl (.inl rfl) (pe_tupleOf (by rfl) N.tup (pe_lc (own := [("_law_turn", 4)]) (g := gName 4) (tt := tYes) (te := tOp (rIxL K) (tLst (tCons (tC (.int 1)) (tCons (tC (.int 2)) (tCons (tC (.int 3)) (tCons (tOp (rI0 fun i j => V.int (i + j)) (tC (.int 1)) (tCallG spTake (tCons (tVar 0) (tCons (tC (.int 9)) tNil)))) tNil))))) (tCallG spTake (tCons (tVar 0) (tCons (tC (.int 4)) tNil)))) rfl s_line.nd (pi_range1 (by rfl) mrg (pa_cons (pv 2) pa_nil)) (blkOk_by (N := ["_law_box_here", "_law_most", "_law_size", "_law_homes", "_law_turn"]) (sc := defScope (topS 24)) (by decide +kernel)) (fun _ _ _ _ _ => pg_name (i := 4) s_line.nd rfl (.inl rfl)) (fun _ _ _ _ _ => pts_nil) (fun _ _ _ _ _ => pe_ix ix_list (pe_lst (pa_cons pe_int (pa_cons pe_int (pa_cons pe_int (pa_cons (pe_op op_add pe_int (pe_df DT (hr.mono (by decide)) (by rfl) (pa_cons (pv 0) (pa_cons pe_int pa_nil)))) pa_nil))))) (pe_df DT (hr.mono (by decide)) (by rfl) (pa_cons (pv 0) (pa_cons pe_int pa_nil))) (fun _ _ => rfl)))))
      (pss_one (ps_ret (pe_tup (pa_cons (pe_ifExp (pw_and (pt_cmpR op_gt (pv 2) pe_int (nomark _)) (pw_and1 (pt_cmpR op_eq (pe_df DT (hr.mono (by decide)) (by rfl) (pa_cons (pv 0) (pa_cons pe_int pa_nil))) pe_int (nomark _)))).pt pe_str pe_str) (pa_cons (pv 3) pa_nil)))))), ?_⟩
    refine ⟨_, rfl, _, rfl, ?_⟩
    dsimp only [tNil, tC, tCons]
    refine takeR hb (by omega) (by omega) (by omega) fun r H1 r0 r1 k1 b1 => ?_
    refine ⟨1, r, rfl, rfl, ?_⟩
    refine ⟨_, rfl, 1 + r, rfl, by omega, by omega, fun D nD => lc_range (lo := 0) (n := (1 + r).toNat) (fun i H' => ∃ l : List Int, Kp b H1 H' ∧ Bx H' b (m + 1 + 2 * i) ∧ H' D = some (.lst (l.map V.int)) ∧ l.length = i ∧ ∀ r ∈ l, 1 ≤ r ∧ r ≤ 1000000000)
      ⟨[], Kp.ex (Evl.Ex.new nD), (b1.upd (b1.ne nD)).le (by omega), upd_same, rfl, fun r hr => nomatch hr⟩ (fun i H' hi pe => ?_) (fun H' pe => ?_)⟩
    · obtain ⟨l, k2, b2, hD, hl, hp⟩ := pe
      refine ⟨rfl, ?_⟩
      unfold tYes
      dsimp only
      rw [if_pos rfl]
      refine ⟨_, rfl, ?_⟩
      dsimp only [tNil, tC, tCons]
      refine takeR b2 (by omega) (by decide) (by decide) fun d H2 d0 d1 k3 b3 => ?_
      refine ⟨1, d, rfl, rfl, show 4 ≤ sizeLine by decide, fun c nc => ?_⟩
      have hD2 := k3 D _ (b1.ne nD) hD
      refine ⟨_, rfl, ?_⟩
      dsimp only [tNil, tC, tCons]
      refine takeR (b3.upd (b3.ne nc)) (by omega) (by decide) (by decide) fun e H3 e0 e1 k4 b4 => ?_
      obtain ⟨z, ez, z1, z2⟩ := pick4 d0 d1 e0 e1
      have hc3 := k4 c _ (b3.ne nc) upd_same
      have hD3 := k4 D _ (b1.ne nD) (carry hD2 nc)
      refine ⟨c, _, _, _, rfl, rfl, .inl (.inl hc3), ez, _, hD3, ?_, l ++ [z], ?_, ?_, ?_, ?_, ?_⟩
      · rw [List.length_map]
        exact Evl.sz_lt (by omega)
      · exact Kp.mut (((k2.trans k3).trans (Kp.ex (Evl.Ex.new nc))).trans k4) nD
      · exact (b4.upd (b1.ne nD)).le (by omega)
      · rw [upd_same, map_snoc]
      · rw [List.length_append, hl]
        rfl
      · exact mem_snoc hp ⟨z1, z2⟩
    · obtain ⟨l, k2, b2, hD, hl, hp⟩ := pe
      refine .inl ⟨D, _, rfl, .inl (.inl hD), fun h nh => ?_⟩
      have x3 := Evl.Ex.new (o := .tup (l.map V.int)) nh
      have b3 := b2.ex x3
      have ln : l.length = (1 + r).toNat := hl
      have fin : ∀ (row : Bool) H4 (t : Addr), Kp b (L2.upd H' h (.tup (l.map V.int))) H4 → Bx H4 b (m + 20) → H4 t = none → (row = false → 1 < 1 + r) → Q (.ref t) (L2.upd H4 t (.tup [.str (fT row), .ref h])) := fun row H4 t k5 b5 nt hr => by
        have x5 := Evl.Ex.new (o := .tup [.str (fT row), .ref h]) nt
        have hh : H4 h = some (.tup (l.map V.int)) := k5 h _ (b2.ne nh) upd_same
        refine q _ _ row l (((((k1.trans k2).trans (Kp.ex x3)).trans k5)).trans (Kp.ex x5)) (b5.ex x5) ⟨t, h, rfl, .inl (.inl upd_same), .inl (.inl (x5 _ _ hh))⟩ ?_ (by omega) hp
        cases row with
        | true =>
          rw [if_pos rfl]
          omega
        | false =>
          have := hr rfl
          rw [if_neg Bool.false_ne_true]
          omega
      by_cases big : 1 < 1 + r
      · refine ⟨_, rfl, _, _, rfl, rfl, _, rfl, ifY (decide_eq_true big) ?_⟩
        refine ⟨_, rfl, ?_⟩
        dsimp only [tNil, tC, tCons]
        refine takeR b3 (by omega) (by decide) (by decide) fun e H4 e0 e1 k4 b4 => ?_
        refine ⟨rfl, _, rfl, ?_⟩
        by_cases z : V.int e = V.int 0
        · refine ifY (decide_eq_true z) ?_
          exact ⟨_, rfl, two_size, fun t nt => fin false H4 t k4 (b4.le (by omega)) nt fun _ => big⟩
        · refine ifN (decide_eq_false z) ?_
          exact ⟨_, rfl, two_size, fun t nt => fin true H4 t k4 (b4.le (by omega)) nt fun z => nomatch z⟩
      · refine ⟨_, rfl, _, _, rfl, rfl, _, rfl, ifN (decide_eq_false big) ?_⟩
        exact iteF ⟨_, rfl, two_size, fun t nt => fin true _ t (Kp.refl _ _) (b3.le (by omega)) nt fun z => nomatch z⟩
end
end Kd
namespace Kd
open PySem PySem.Spec PyProof.Rows L2 Xg
theorem sqt_kp {K : PySem.W.Frag} {b a : Addr} {H H' : Hp} {m : Int} {xs : List V} (h : SqT K H a xs) (hb : Bx H b m) (k : Kp b H H') : SqT K H' a xs := by
  obtain ⟨_, _, _, _, _, _, _, _, e⟩ := hb
  rcases h with (h | ⟨o, h⟩) | h
  · exact .inl (.inl (k a _ (ne_of h e fun z => nomatch z) h))
  · exact .inl (.inr ⟨o, k a _ (ne_of h e fun z => nomatch z) h⟩)
  · exact .inr h
theorem LnV.kp {K : PySem.W.Frag} {b : Addr} {H H' : Hp} {m : Int} {v : V} {row : Bool} {rooms : List Int} (h : LnV K true H v row rooms) (hb : Bx H b m) (k : Kp b H H') : LnV K true H' v row rooms :=
  let ⟨a, r, h1, h2, h3⟩ := h; ⟨a, r, h1, sqt_kp h2 hb k, sqt_kp h3 hb k⟩
theorem TpV.kp {K : PySem.W.Frag} {b : Addr} {H H' : Hp} {m : Int} {v : V} {xs : List V} (h : TpV K true H v xs) (hb : Bx H b m) (k : Kp b H H') : TpV K true H' v xs :=
  let ⟨a, h1, h2⟩ := h; ⟨a, h1, sqt_kp h2 hb k⟩
theorem wideR {H : Hp} {b : Addr} {m n : Int} {Q : VK} {E : XK} (h : Bx H b m) (hm : m < 900000000) (h1 : 0 < n) (k : ∀ r H', 0 ≤ r → r < n → Kp b H H' → Bx H' b (m + 2) → Q (.int r) H') :
    spWide [.ref b, .int n] H Q E := ⟨b, m, n, rfl, h, hm, h1, k⟩
theorem pick5 {d e r : Int} (h0 : 0 ≤ d) (h1 : d < 4) (g0 : 0 ≤ e) (g1 : e < 9) (r0 : 0 ≤ r) (r1 : r < 5) : ∃ x : Option Int, atI [V.non, V.int 0, V.int (1 + d), V.non, V.int e] r = some (vO x) ∧ ∀ i, x = some i → 0 ≤ i ∧ i ≤ 1000000000 := by
  have c : r = 0 ∨ r = 1 ∨ r = 2 ∨ r = 3 ∨ r = 4 := by omega
  rcases c with rfl | rfl | rfl | rfl | rfl
  · exact ⟨none, atI_nat (j := 0) rfl, fun i z => nomatch z⟩
  · exact ⟨some 0, atI_nat (j := 1) rfl, fun i z => by cases z; omega⟩
  · exact ⟨some (1 + d), atI_nat (j := 2) rfl, fun i z => by cases z; omega⟩
  · exact ⟨none, atI_nat (j := 3) rfl, fun i z => nomatch z⟩
  · exact ⟨some e, atI_nat (j := 4) rfl, fun i z => by cases z; omega⟩
theorem mapO_snoc (l : List (Option Int)) (z : Option Int) : l.map vO ++ [vO z] = (l ++ [z]).map vO := by rw [List.map_append]; rfl
theorem memO_snoc {p : Option Int → Prop} {l : List (Option Int)} {z : Option Int} (h : ∀ r ∈ l, p r) (hz : p z) : ∀ r ∈ l ++ [z], p r := fun r hr => by
  rcases List.mem_append.mp hr with e | e
  · exact h r e
  · rw [List.mem_singleton.mp e]
    exact hz
section
variable {P : Program} {w : World} {K : PySem.W.Frag} {mg : Str → Option Value} {base : Heap}
theorem ok_doors {f : Addr} {fd : FuncData} (F : Fun K "_law_doors" "_law_doors" (topS 25) f fd) (N : Names mg) (mrg : mg "range" = none) (DT : Df P w K mg base "_law_take" ["_law_box_here", "_law_bound"] 1 spTake) :
    FnOk P w K mg base CX0 2 f fd ["_law_box_here", "_law_own"] (spDoors K) := by
  refine F.ok s_doors (fun vs H Q E h => ?_) (fun cdv A outer s H vs Q E hr h => ?_)
  · obtain ⟨b, m, v, row, rooms, rfl, hb, hm, ⟨a, r, rfl, h1, h2⟩, hn, q⟩ := h
    rfl
  · obtain ⟨b, m, v, row, rooms, rfl, hb, hm, ⟨a, r, rfl, h1, h2⟩, hn, q⟩ := h
    refine ⟨_, pss_cons (ps_set (i := 2) s_doors.nd rfl (.inl rfl) (pe_op op_add (pe_callB call_len_seq (by rfl) N.len PySem.boot_len (pa_cons (pe_ix ix_tup (pv 1) pe_int (fun _ _ => rfl)) pa_nil)) (pe_callTy call_int1 (by rfl) N.int bt_int (pa_cons (pe_cmpR op_eq (pe_ix ix_tup (pv 1) pe_int (fun _ _ => rfl)) pe_str (nomark _)) pa_nil))))
      (pss_one (ps_ret (pe_tupleOf (by rfl) N.tup (pe_lc (own := [("_law_turn", 3)]) (g := gName 3) (tt := tYes) (te := tOp (rIxL K) (tLst (tCons (tC .non) (tCons (tC (.int 0)) (tCons (tOp (rI0 fun i j => V.int (i + j)) (tC (.int 1)) (tCallG spTake (tCons (tVar 0) (tCons (tC (.int 4)) tNil)))) (tCons (tC .non) (tCons (tCallG spTake (tCons (tVar 0) (tCons (tC (.int 9)) tNil))) tNil)))))) (tCallG spTake (tCons (tVar 0) (tCons (tC (.int 5)) tNil)))) rfl s_doors.nd (pi_range1 (by rfl) mrg (pa_cons (pv 2) pa_nil)) (blkOk_by (N := ["_law_box_here", "_law_own", "_law_size", "_law_turn"]) (sc := defScope (topS 25)) (by decide +kernel)) (fun _ _ _ _ _ => pg_name (i := 3) s_doors.nd rfl (.inl rfl)) (fun _ _ _ _ _ => pts_nil) (fun _ _ _ _ _ => pe_ix ix_list (pe_lst (pa_cons pe_non (pa_cons pe_int (pa_cons (pe_op op_add pe_int (pe_df DT (hr.mono (by decide)) (by rfl) (pa_cons (pv 0) (pa_cons pe_int pa_nil)))) (pa_cons pe_non (pa_cons (pe_df DT (hr.mono (by decide)) (by rfl) (pa_cons (pv 0) (pa_cons pe_int pa_nil))) pa_nil)))))) (pe_df DT (hr.mono (by decide)) (by rfl) (pa_cons (pv 0) (pa_cons pe_int pa_nil))) (fun _ _ => rfl)))))), ?_⟩
    refine ⟨_, rfl, a, _, 1, _, rfl, rfl, h1, atI_nat (j := 1) rfl, r, _, rfl, .inr h2, ?_⟩
    refine ⟨_, rfl, a, _, 0, _, rfl, rfl, h1, atI_nat (j := 0) rfl, rfl, .inr ⟨_, rfl, _, _, rfl, rfl, ?_⟩⟩
    have en : (((rooms.map V.int).length : Nat) : Int) + (if decide (V.str (fT row) = V.str "row") = true then 1 else 0) = gts row rooms.length := by
      rw [fT_row, List.length_map]
      cases row <;> simp [gts]
    have gn : 0 ≤ gts row rooms.length ∧ gts row rooms.length ≤ 8 := by
      cases row <;> simp [gts] <;> omega
    dsimp only
    rw [en]
    refine ⟨_, rfl, _, rfl, by omega, by omega, fun D nD => lc_range (lo := 0) (n := (gts row rooms.length).toNat) (fun i H' => ∃ l : List (Option Int), Kp b H H' ∧ Bx H' b (m + 3 * i) ∧ H' D = some (.lst (l.map vO)) ∧ l.length = i ∧ ∀ x ∈ l, ∀ i, x = some i → 0 ≤ i ∧ i ≤ 1000000000)
      ⟨[], Kp.ex (Evl.Ex.new nD), (hb.upd (hb.ne nD)).le (by omega), upd_same, rfl, fun r hr => nomatch hr⟩ (fun i H' hi pe => ?_) (fun H' pe => ?_)⟩
    · obtain ⟨l, k2, b2, hD, hl, hp⟩ := pe
      refine ⟨rfl, ?_⟩
      unfold tYes
      dsimp only
      rw [if_pos rfl]
      refine ⟨_, rfl, ?_⟩
      dsimp only [tNil, tC, tCons]
      refine takeR b2 (by omega) (by decide) (by decide) fun d H2 d0 d1 k3 b3 => ?_
      have hD2 := k3 D _ (hb.ne nD) hD
      refine ⟨1, d, rfl, rfl, _, rfl, ?_⟩
      dsimp only [tNil, tC, tCons]
      refine takeR b3 (by omega) (by decide) (by decide) fun e H3 e0 e1 k4 b4 => ?_
      have hD3 := k4 D _ (hb.ne nD) hD2
      refine ⟨show 5 ≤ sizeLine by decide, fun c nc => ?_⟩
      refine ⟨_, rfl, ?_⟩
      dsimp only [tNil, tC, tCons]
      refine takeR (b4.upd (b4.ne nc)) (by omega) (by decide) (by decide) fun g H4 g0 g1 k5 b5 => ?_
      obtain ⟨z, ez, hz⟩ := pick5 d0 d1 e0 e1 g0 g1
      have hc5 := k5 c _ (b4.ne nc) upd_same
      have hD5 := k5 D _ (hb.ne nD) (carry hD3 nc)
      refine ⟨c, _, _, _, rfl, rfl, .inl (.inl hc5), ez, _, hD5, ?_, l ++ [z], ?_, ?_, ?_, ?_, ?_⟩
      · rw [List.length_map]
        exact Evl.sz_lt (by omega)
      · exact Kp.mut ((((k2.trans k3).trans k4).trans (Kp.ex (Evl.Ex.new nc))).trans k5) nD
      · exact (b5.upd (hb.ne nD)).le (by omega)
      · rw [upd_same, mapO_snoc]
      · rw [List.length_append, hl]
        rfl
      · exact memO_snoc hp hz
    · obtain ⟨l, k2, b2, hD, hl, hp⟩ := pe
      refine .inl ⟨D, _, rfl, .inl (.inl hD), fun h nh => ?_⟩
      have x3 := Evl.Ex.new (o := .tup (l.map vO)) nh
      exact q _ _ l (k2.trans (Kp.ex x3)) ((b2.ex x3).le (by omega)) ⟨h, rfl, .inl (.inl upd_same)⟩ (by omega) hp
/-- the first i of them fit the first i rooms -/
def Fit (l rooms : List Int) (i : Nat) : Prop := l.length = i ∧ ∀ (j : Nat) (h r : Int), l[j]? = some h → rooms[j]? = some r → 0 ≤ h ∧ h ≤ r
theorem Fit.snoc {l rooms : List Int} {i : Nat} {z r : Int} (h : Fit l rooms i) (hr : rooms[i]? = some r) (h0 : 0 ≤ z) (h1 : z ≤ r) : Fit (l ++ [z]) rooms (i + 1) := by
  obtain ⟨hl, hp⟩ := h
  refine ⟨by rw [List.length_append, hl]; rfl, fun j x y ex ey => ?_⟩
  by_cases c : j < l.length
  · rw [List.getElem?_append_left c] at ex
    exact hp j x y ex ey
  · by_cases e : j = i
    · subst e
      rw [List.getElem?_append_right (by omega), hl, Nat.sub_self] at ex
      cases ex
      rw [hr] at ey
      cases ey
      exact ⟨h0, h1⟩
    · rw [List.getElem?_eq_none (by rw [List.length_append, List.length_singleton]; omega)] at ex
      cases ex
theorem ok_lies {f : Addr} {fd : FuncData} (F : Fun K "_law_lies" "_law_lies" (topS 26) f fd) (N : Names mg) (DT : Df P w K mg base "_law_take" ["_law_box_here", "_law_bound"] 1 spTake) :
    FnOk P w K mg base CX0 2 f fd ["_law_box_here", "_law_own"] (spLies K) := by
  refine F.ok s_lies (fun vs H Q E h => ?_) (fun cdv A outer s H vs Q E hr h => ?_)
  · obtain ⟨b, m, v, row, rooms, rfl, hb, hm, ⟨a, r, rfl, h1, h2⟩, hn, hp, q⟩ := h
    rfl
  · obtain ⟨b, m, v, row, rooms, rfl, hb, hm, ⟨a, r, rfl, h1, h2⟩, hn, hp, q⟩ := h
    refine ⟨_, pss_cons (ps_set (i := 2) s_lies.nd rfl (.inr rfl) (pe_df DT (hr.mono (by decide)) (by rfl) (pa_cons (pv 0) (pa_cons pe_int pa_nil))))
      (pss_cons (ps_if (pt_cmpR op_lt (pv 2) pe_int (nomark _)) (pss_one (ps_ret (pe_tupleOf (by rfl) N.tup (pe_lc (own := [("_law_home", 3)]) (g := gName 3) (tt := tYes) rfl s_lies.nd (pi_tup (pe_ix ix_tup (pv 1) pe_int (fun _ _ => rfl))) (blkOk_by (N := ["_law_box_here", "_law_own", "_law_sort", "_law_home"]) (sc := defScope (topS 26)) (by decide +kernel)) (fun _ _ _ _ _ => pg_name (i := 3) s_lies.nd rfl (.inl rfl)) (fun _ _ _ _ _ => pts_nil) (fun _ _ _ _ _ => pe_op op_mul (pv 3) (pv 2)))))) pss_nil)
      (pss_one (ps_ret (pe_tupleOf (by rfl) N.tup (pe_lc (own := [("_law_home", 3)]) (g := gName 3) (tt := tYes) (te := tCallG spTake (tCons (tVar 0) (tCons (tOp (rI0 fun i j => V.int (i + j)) (tVar 3) (tC (.int 1))) tNil))) rfl s_lies.nd (pi_tup (pe_ix ix_tup (pv 1) pe_int (fun _ _ => rfl))) (blkOk_by (N := ["_law_box_here", "_law_own", "_law_sort", "_law_home"]) (sc := defScope (topS 26)) (by decide +kernel)) (fun _ _ _ _ _ => pg_name (i := 3) s_lies.nd rfl (.inl rfl)) (fun _ _ _ _ _ => pts_nil) (fun _ _ _ _ _ => (pe_df DT (hr.mono (by decide)) (by rfl) (pa_cons (pv 0) (pa_cons (pe_op op_add (pv 3) pe_int) pa_nil))))))))), ?_⟩
    refine ⟨_, rfl, ?_⟩
    dsimp only [tNil, tC, tCons]
    refine takeR hb (by omega) (by decide) (by decide) fun so H1 s0 s1 k1 b1 => ?_
    have h11 := sqt_kp h1 hb k1
    have h21 := sqt_kp h2 hb k1
    refine ⟨_, rfl, _, _, rfl, rfl, _, rfl, ite2 (fun c => ?_) (fun c => ?_)⟩
    · have c1 : so < 2 := of_decide_eq_true c
      refine ⟨_, rfl, a, _, 1, _, rfl, rfl, h11, atI_nat (j := 1) rfl, r, rfl, ⟨_, h21⟩, fun D nD => lc_it (walk_tup (xs := rooms.map V.int)) (fun i H' => ∃ l : List Int, Evl.Ex H1 H' ∧ H' D = some (.lst (l.map V.int)) ∧ Fit l rooms i)
        ⟨[], Evl.Ex.new nD, upd_same, rfl, fun j h r e _ => by simp at e⟩ (fun i H' _ pe => Evl.ex_t pe.choose_spec.1 h21) (fun i x H2 H3 hi pe y => ?_) (fun H' pe => ?_)⟩
      · obtain ⟨l, x2, hD, hf⟩ := pe
        obtain ⟨rfl, ex⟩ := y
        obtain ⟨ro, rfl, er⟩ := int_at ex
        have hro := hp ro (List.mem_of_getElem? er)
        refine ⟨rfl, ?_⟩
        unfold tYes
        dsimp only
        rw [if_pos rfl]
        have m0 : 0 ≤ ro * so := Int.mul_nonneg (by omega) s0
        have m1 : ro * so ≤ ro := by
          have c2 : so = 0 ∨ so = 1 := by omega
          rcases c2 with rfl | rfl
          · rw [Int.mul_zero]
            omega
          · rw [Int.mul_one]
            exact Int.le_refl _
        rw [List.length_map] at hi
        refine ⟨_, rfl, _, rfl, ro, so, rfl, rfl, .inr ⟨by omega, by omega⟩, _, hD, ?_, l ++ [ro * so], Evl.Ex.mut x2 nD, ?_, hf.snoc er m0 m1⟩
        · rw [List.length_map, hf.1]
          exact Evl.sz_lt (by omega)
        · rw [upd_same, map_snoc]
      · obtain ⟨l, x2, hD, hf⟩ := pe
        rw [List.length_map] at hf
        refine .inl ⟨D, _, rfl, .inl (.inl hD), fun h nh => ?_⟩
        have x3 := x2.trans (Evl.Ex.new (o := .tup (l.map V.int)) nh)
        exact q _ _ l (k1.trans (Kp.ex x3)) ((b1.ex x3).le (by omega)) ⟨h, rfl, .inl (.inl upd_same)⟩ hf
    · refine ⟨_, rfl, a, _, 1, _, rfl, rfl, h11, atI_nat (j := 1) rfl, r, rfl, ⟨_, h21⟩, fun D nD => lc_it (walk_tup (xs := rooms.map V.int)) (fun i H' => ∃ l : List Int, Kp b H1 H' ∧ Bx H' b (m + 1 + i) ∧ H' D = some (.lst (l.map V.int)) ∧ Fit l rooms i)
        ⟨[], Kp.ex (Evl.Ex.new nD), (b1.upd (b1.ne nD)).le (by omega), upd_same, rfl, fun j h r e _ => by simp at e⟩ (fun i H' _ pe => sqt_kp h21 b1 pe.choose_spec.1) (fun i x H2 H3 hi pe y => ?_) (fun H' pe => ?_)⟩
      · obtain ⟨l, k2, b2, hD, hf⟩ := pe
        obtain ⟨rfl, ex⟩ := y
        obtain ⟨ro, rfl, er⟩ := int_at ex
        have hro := hp ro (List.mem_of_getElem? er)
        rw [List.length_map] at hi
        refine ⟨rfl, ?_⟩
        unfold tYes
        dsimp only
        rw [if_pos rfl]
        refine ⟨_, rfl, _, rfl, ro, 1, rfl, rfl, ?_⟩
        dsimp only [tNil, tC, tCons]
        refine takeR b2 (by omega) (by omega) (by omega) fun d H4 d0 d1 k3 b3 => ?_
        refine ⟨_, k3 D _ (b1.ne nD) hD, ?_, l ++ [d], Kp.mut (k2.trans k3) nD, (b3.upd (b1.ne nD)).le (by omega), ?_, hf.snoc er d0 (by omega)⟩
        · rw [List.length_map, hf.1]
          exact Evl.sz_lt (by omega)
        · rw [upd_same, map_snoc]
      · obtain ⟨l, k2, b2, hD, hf⟩ := pe
        rw [List.length_map] at hf b2
        refine .inl ⟨D, _, rfl, .inl (.inl hD), fun h nh => ?_⟩
        have x3 := Evl.Ex.new (o := .tup (l.map V.int)) nh
        exact q _ _ l ((k1.trans k2).trans (Kp.ex x3)) ((b2.ex x3).le (by omega)) ⟨h, rfl, .inl (.inl upd_same)⟩ hf
end
end Kd
namespace Kd
open PySem PySem.Spec PyProof.Rows L2 Xg
theorem pick6 {r : Int} (r0 : 0 ≤ r) (r1 : r < 6) : ∃ k : Int, atI [V.int 0, V.int 0, V.int 1, V.int 1, V.int 2, V.int 3] r = some (.int k) ∧ 0 ≤ k ∧ k < 4 := by
  have c : r = 0 ∨ r = 1 ∨ r = 2 ∨ r = 3 ∨ r = 4 ∨ r = 5 := by omega
  rcases c with rfl | rfl | rfl | rfl | rfl | rfl
  · exact ⟨0, atI_nat (j := 0) rfl, by omega, by omega⟩
  · exact ⟨0, atI_nat (j := 1) rfl, by omega, by omega⟩
  · exact ⟨1, atI_nat (j := 2) rfl, by omega, by omega⟩
  · exact ⟨1, atI_nat (j := 3) rfl, by omega, by omega⟩
  · exact ⟨2, atI_nat (j := 4) rfl, by omega, by omega⟩
  · exact ⟨3, atI_nat (j := 5) rfl, by omega, by omega⟩
theorem pickD {d e r : Int} (h0 : 0 ≤ d) (h1 : d < 1000000000) (g0 : 0 ≤ e) (g1 : e < 9) (r0 : 0 ≤ r) (r1 : r < 4) : ∃ x : Option Int, atI [V.non, V.int d, V.int (1 + e), V.int 0] r = some (vO x) ∧ ∀ i, x = some i → 0 ≤ i ∧ i ≤ 1000000000 := by
  have c : r = 0 ∨ r = 1 ∨ r = 2 ∨ r = 3 := by omega
  rcases c with rfl | rfl | rfl | rfl
  · exact ⟨none, atI_nat (j := 0) rfl, fun i z => nomatch z⟩
  · exact ⟨some d, atI_nat (j := 1) rfl, fun i z => by cases z; omega⟩
  · exact ⟨some (1 + e), atI_nat (j := 2) rfl, fun i z => by cases z; omega⟩
  · exact ⟨some 0, atI_nat (j := 3) rfl, fun i z => by cases z; omega⟩
section
variable {P : Program} {w : World} {K : PySem.W.Frag} {mg : Str → Option Value} {base : Heap}
theorem ok_great {f : Addr} {fd : FuncData} (F : Fun K "_law_great_line" "_law_great_line" (topS 27) f fd) (N : Names mg) (mrg : mg "range" = none) (DT : Df P w K mg base "_law_take" ["_law_box_here", "_law_bound"] 1 spTake) (DW : Df P w K mg base "_law_wide" ["_law_box_here", "_law_bound"] 2 spWide) :
    FnOk P w K mg base CX0 3 f fd ["_law_box_here", "_law_most"] (spGreat K) := by
  refine F.ok s_great (fun vs H Q E h => ?_) (fun cdv A outer s H vs Q E hr h => ?_)
  · obtain ⟨b, m, rfl, hb, hm, q⟩ := h
    rfl
  · obtain ⟨b, m, rfl, hb, hm, q⟩ := h
    refine ⟨_, pss_cons (ps_set (i := 2) s_great.nd rfl (.inl rfl) (pe_op op_add pe_int (pe_df DT (hr.mono (by decide)) (by rfl) (pa_cons (pv 0) (pa_cons (pe_op op_sub (pv 1) pe_int) pa_nil)))))
      (pss_cons (ps_set (i := 3) s_great.nd rfl (.inl rfl) (pe_tupleOf (by rfl) N.tup (pe_lc (own := [("_law_turn", 7)]) (g := gName 7) (tt := tYes) rfl s_great.nd (pi_range1 (by rfl) mrg (pa_cons (pv 2) pa_nil)) (blkOk_by (N := ["_law_box_here", "_law_most", "_law_size", "_law_homes", "_law_own", "_law_doors_here", "_law_gate", "_law_turn", "_law_home"]) (sc := defScope (topS 27)) (by decide +kernel)) (fun _ _ _ _ _ => pg_name (i := 7) s_great.nd rfl (.inl rfl)) (fun _ _ _ _ _ => pts_nil) (fun _ _ _ _ _ => pe_op op_add pe_int (pe_df DW (hr.mono (by decide)) (by rfl) (pa_cons (pv 0) (pa_cons (pe_op op_pow pe_int pe_int) pa_nil)))))))
      (pss_cons (ps_set (i := 4) s_great.nd rfl (.inl rfl) (pe_tup (pa_cons (pe_ifExp (pt_cmpR op_eq (pe_df DT (hr.mono (by decide)) (by rfl) (pa_cons (pv 0) (pa_cons pe_int pa_nil))) pe_int (nomark _)) pe_str pe_str) (pa_cons (pv 3) pa_nil))))
      (pss_cons (ps_set (i := 5) s_great.nd rfl (.inl rfl) (pe_lst pa_nil))
      (pss_cons (ps_for PassesOwn.never rfl (pi_range1 (by rfl) mrg (pa_cons (pe_op op_add (pv 2) (pe_callTy call_int1 (by rfl) N.int bt_int (pa_cons (pe_cmpR op_eq (pe_ix ix_tup (pv 4) pe_int (fun _ _ => rfl)) pe_str (nomark _)) pa_nil))) pa_nil)) (pg_name (i := 6) s_great.nd rfl (.inl rfl)) (pss_one (ps_expr (pe_bm PySem.F.plainAttrs_list PySem.F.slot_list_append PySem.F.type_list_append mt_append (pv 5) (pa_cons (pe_ix ix_list (pe_lst (pa_cons pe_non (pa_cons (pe_df DW (hr.mono (by decide)) (by rfl) (pa_cons (pv 0) (pa_cons (pe_op op_pow pe_int pe_int) pa_nil))) (pa_cons (pe_op op_add pe_int (pe_df DT (hr.mono (by decide)) (by rfl) (pa_cons (pv 0) (pa_cons pe_int pa_nil)))) (pa_cons pe_int pa_nil))))) (pe_ix ix_list (pe_lst (pa_cons pe_int (pa_cons pe_int (pa_cons pe_int (pa_cons pe_int (pa_cons pe_int (pa_cons pe_int pa_nil))))))) (pe_df DT (hr.mono (by decide)) (by rfl) (pa_cons (pv 0) (pa_cons pe_int pa_nil))) (fun _ _ => rfl)) (fun _ _ => rfl)) pa_nil)))))
      (pss_one (ps_ret (pe_tup (pa_cons (pv 4) (pa_cons (pe_tupleOf (by rfl) N.tup (pv 5)) (pa_cons (pe_tupleOf (by rfl) N.tup (pe_lc (own := [("_law_home", 8)]) (g := gName 8) (tt := tYes) rfl s_great.nd (pi_tup (pv 3)) (blkOk_by (N := ["_law_box_here", "_law_most", "_law_size", "_law_homes", "_law_own", "_law_doors_here", "_law_gate", "_law_turn", "_law_home"]) (sc := defScope (topS 27)) (by decide +kernel)) (fun _ _ _ _ _ => pg_name (i := 8) s_great.nd rfl (.inl rfl)) (fun _ _ _ _ _ => pts_nil) (fun _ _ _ _ _ => (pe_df DW (hr.mono (by decide)) (by rfl) (pa_cons (pv 0) (pa_cons (pe_op op_add (pv 8) pe_int) pa_nil)))))) pa_nil)))))))))), ?_⟩
    refine ⟨_, rfl, _, rfl, 7, 1, rfl, rfl, ?_⟩
    dsimp only [tNil, tC, tCons]
    refine takeR hb (by omega) (by decide) (by decide) fun r H1 r0 r1 k1 b1 => ?_
    refine ⟨2, r, rfl, rfl, ?_⟩
    have r2 : r < 6 := r1
    refine ⟨_, rfl, 2 + r, rfl, by omega, by omega, fun D nD => lc_range (lo := 0) (n := (2 + r).toNat) (fun i H' => ∃ l : List Int, Kp b H1 H' ∧ Bx H' b (m + 1 + 2 * i) ∧ H' D = some (.lst (l.map V.int)) ∧ l.length = i ∧ ∀ r ∈ l, 1 ≤ r ∧ r ≤ 1000000000)
      ⟨[], Kp.ex (Evl.Ex.new nD), (b1.upd (b1.ne nD)).le (by omega), upd_same, rfl, fun r hr => nomatch hr⟩ (fun i H' hi pe => ?_) (fun H' pe => ?_)⟩
    · obtain ⟨l, k2, b2, hD, hl, hp⟩ := pe
      refine ⟨rfl, ?_⟩
      unfold tYes
      dsimp only
      rw [if_pos rfl]
      refine ⟨_, rfl, 10, 9, rfl, rfl, ⟨by decide, by decide, by decide⟩, ?_⟩
      dsimp only [tNil, tC, tCons]
      refine wideR b2 (by omega) (by decide) fun d H2 d0 d1 k3 b3 => ?_
      have d2 : d < 1000000000 := d1
      refine ⟨1, d, rfl, rfl, _, k3 D _ (b1.ne nD) hD, ?_, l ++ [1 + d], Kp.mut (k2.trans k3) nD, (b3.upd (b1.ne nD)).le (by omega), ?_, ?_, mem_snoc hp ⟨by omega, by omega⟩⟩
      · rw [List.length_map]
        exact Evl.sz_lt (by omega)
      · rw [upd_same, map_snoc]
      · rw [List.length_append, hl]
        rfl
    obtain ⟨rooms, k2, b2, hD, hl, hp⟩ := pe
    have hl7 : rooms.length ≤ 7 ∧ 2 ≤ rooms.length := by omega
    refine .inl ⟨D, _, rfl, .inl (.inl hD), fun hm' nh => ?_⟩
    have x3 := Evl.Ex.new (o := .tup (rooms.map V.int)) nh
    have b3 := b2.ex x3
    have nhb := b2.ne nh
    refine ⟨_, rfl, ?_⟩
    dsimp only [tNil, tC, tCons]
    refine takeR b3 (by omega) (by decide) (by decide) fun e H4 e0 e1 k4 b4 => ?_
    have hh4 : H4 hm' = some (.tup (rooms.map V.int)) := k4 hm' _ nhb upd_same
    have k14 := ((k1.trans k2).trans (Kp.ex x3)).trans k4
    refine ⟨rfl, _, rfl, ?_⟩
    cases decide (V.int e = V.int 0) with
    | true =>
      refine iteT ?_
      refine ⟨_, rfl, two_size, fun o no => ?_⟩
      have x5 := Evl.Ex.new (o := .tup [.str (fT false), .ref hm']) no
      have b5 := b4.ex x5
      refine ⟨Nat.zero_le _, fun dh nd => ?_⟩
      have x6 := Evl.Ex.new (o := .lst []) nd
      have b6 := b5.ex x6
      have ndb := b5.ne nd
      have ho5 : (L2.upd H4 o (.tup [.str (fT false), .ref hm'])) o = some (.tup [.str (fT false), .ref hm']) := upd_same
      have hh5 : (L2.upd H4 o (.tup [.str (fT false), .ref hm'])) hm' = some (.tup (rooms.map V.int)) := carry hh4 no
      have nob := b4.ne no
      refine ⟨_, rfl, _, rfl, o, _, 0, _, rfl, rfl, .inl (.inl (carry upd_same nd)), atI_nat (j := 0) rfl, rfl, .inr ⟨_, rfl, _, _, rfl, rfl, ?_⟩⟩
      have en : 2 + r + (if decide (V.str (fT false) = V.str "row") = true then 1 else 0) = gts false rooms.length := by
        rw [fT_row]
        simp [gts]
        omega
      have gn : 0 ≤ gts false rooms.length ∧ gts false rooms.length ≤ 8 := by
        simp [gts]
        omega
      refine ⟨_, congrArg (fun z => [V.int z]) en, by omega, by omega, for_range (lo := 0) (n := (gts false rooms.length).toNat) (fun i σ H' => ∃ (y6 : Option V) (l : List (Option Int)),
        σ = [some (.ref b), some (.int 7), some (.int (2 + r)), some (.ref hm'), some (.ref o), some (.ref dh), y6, none, none] ∧ Kp b (L2.upd H4 o (.tup [.str (fT false), .ref hm'])) H' ∧ Bx H' b (m + 20 + 4 * i) ∧
        H' dh = some (.lst (l.map vO)) ∧ l.length = i ∧ ∀ x ∈ l, ∀ i, x = some i → 0 ≤ i ∧ i ≤ 1000000000)
        ⟨none, [], rfl, Kp.ex x6, b6.le (by omega), upd_same, rfl, fun r hr => nomatch hr⟩ (fun i σ H' hi pe => ?_) (fun σ H' pe => ?_)⟩
      · obtain ⟨y6, l, rfl, k6, b7, hdh, ll, lp⟩ := pe
        refine ⟨.ref dh, rfl, .inl ⟨rfl, _, .inl (.inl hdh)⟩, ?_⟩
        refine ⟨_, rfl, 10, 9, rfl, rfl, ⟨by decide, by decide, by decide⟩, ?_⟩
        dsimp only [tNil, tC, tCons]
        refine wideR b7 (by omega) (by decide) fun d H7 d0 d1 k7 b8 => ?_
        have d2 : d < 1000000000 := d1
        refine ⟨_, rfl, ?_⟩
        dsimp only [tNil, tC, tCons]
        refine takeR b8 (by omega) (by decide) (by decide) fun e2 H8 e3 e4 k8 b9 => ?_
        refine ⟨1, e2, rfl, rfl, show 4 ≤ sizeLine by decide, fun c nc => ?_⟩
        refine ⟨show 6 ≤ sizeLine by decide, fun c2 nc2 => ?_⟩
        have xc := Evl.Ex.new (o := .lst [.non, .int d, .int (1 + e2), .int 0]) nc
        have xc2 := Evl.Ex.new (o := .lst [.int 0, .int 0, .int 1, .int 1, .int 2, .int 3]) nc2
        have b10 := (b9.ex xc).ex xc2
        have nc2b := (b9.ex xc).ne nc2
        refine ⟨_, rfl, ?_⟩
        dsimp only [tNil, tC, tCons]
        refine takeR b10 (by omega) (by decide) (by decide) fun g H9 g0 g1 k9 b11 => ?_
        obtain ⟨z, ez, z0, z1⟩ := pick6 g0 g1
        obtain ⟨x, ex, hx⟩ := pickD d0 d2 e3 e4 z0 z1
        have hc9 := k9 c _ (b9.ne nc) (carry upd_same nc2)
        have hc29 := k9 c2 _ nc2b upd_same
        have hdh9 := k9 dh _ ndb (carry (carry (k8 dh _ ndb (k7 dh _ ndb hdh)) nc) nc2)
        refine ⟨c2, _, _, _, rfl, rfl, .inl (.inl hc29), ez, c, _, _, _, rfl, rfl, .inl (.inl hc9), ex, dh, _, _, rfl, rfl, hdh9, ?_, _, l ++ [x], rfl, ?_, ?_, ?_, ?_, ?_⟩
        · rw [List.length_map]
          exact Evl.sz_lt (by omega)
        · exact Kp.mut (((((k6.trans k7).trans k8).trans (Kp.ex xc)).trans (Kp.ex xc2)).trans k9) nd
        · exact (b11.upd ndb).le (by omega)
        · rw [upd_same, mapO_snoc]
        · rw [List.length_append, ll]
          rfl
        · exact memO_snoc lp hx
      · obtain ⟨y6, ws, rfl, k6, b7, hdh, ll, lp⟩ := pe
        refine ⟨_, rfl, _, rfl, .inl ⟨dh, _, rfl, .inl (.inl hdh), fun td ntd => ?_⟩⟩
        have x7 := Evl.Ex.new (o := .tup (ws.map vO)) ntd
        have b8 := b7.ex x7
        have k7 := k6.trans (Kp.ex x7)
        have ntdb := b7.ne ntd
        have hh8 : SqT K (L2.upd H' td (.tup (ws.map vO))) hm' (rooms.map V.int) := .inl (.inl (k7 hm' _ nhb hh5))
        refine ⟨_, rfl, hm', rfl, ⟨_, hh8⟩, fun Dl nDl => lc_it (walk_tup (xs := rooms.map V.int)) (fun i H2 => ∃ l : List Int, Kp b (L2.upd H' td (.tup (ws.map vO))) H2 ∧ Bx H2 b (m + 20 + 4 * (gts false rooms.length).toNat + 2 * i) ∧ H2 Dl = some (.lst (l.map V.int)) ∧ Fit l rooms i)
          ⟨[], Kp.ex (Evl.Ex.new nDl), (b8.upd (b8.ne nDl)).le (by omega), upd_same, rfl, fun j h r e _ => by simp at e⟩ (fun i H2 _ pe => sqt_kp hh8 b8 pe.choose_spec.1) (fun i x H2 H3 hi pe y => ?_) (fun H2 pe => ?_)⟩
        · obtain ⟨l, k8, b9, hD2, hf⟩ := pe
          obtain ⟨rfl, ex⟩ := y
          obtain ⟨ro, rfl, er⟩ := int_at ex
          have hro := hp ro (List.mem_of_getElem? er)
          rw [List.length_map] at hi
          refine ⟨rfl, ?_⟩
          unfold tYes
          dsimp only
          rw [if_pos rfl]
          refine ⟨_, rfl, _, rfl, ro, 1, rfl, rfl, ?_⟩
          dsimp only [tNil, tC, tCons]
          refine wideR b9 (by omega) (by omega) fun d H5 d0 d1 k9 b10 => ?_
          refine ⟨_, k9 Dl _ (b8.ne nDl) hD2, ?_, l ++ [d], Kp.mut (k8.trans k9) nDl, (b10.upd (b8.ne nDl)).le (by omega), ?_, hf.snoc er d0 (by omega)⟩
          · rw [List.length_map, hf.1]
            exact Evl.sz_lt (by omega)
          · rw [upd_same, map_snoc]
        · obtain ⟨l, k8, b9, hD2, hf⟩ := pe
          rw [List.length_map] at hf b9
          refine .inl ⟨Dl, _, rfl, .inl (.inl hD2), fun tl ntl => ⟨show 3 ≤ sizeLine by decide, fun t nt => ?_⟩⟩
          have x9 := (Evl.Ex.new (o := .tup (l.map V.int)) ntl).trans (Evl.Ex.new (o := .tup [.ref o, .ref td, .ref tl]) nt)
          have kall := (((k14.trans (Kp.ex x5)).trans k7).trans k8).trans (Kp.ex x9)
          have ho9 := x9 _ _ (k8 o _ nob (k7 o _ nob ho5))
          have hm9 := x9 _ _ (k8 hm' _ nhb (k7 hm' _ nhb hh5))
          have ht9 := x9 _ _ (k8 td _ ntdb upd_same)
          refine q t _ (.ref o) (.ref td) (.ref tl) false rooms l ws kall ((b9.ex x9).le (by omega)) (.inl (.inl upd_same)) ⟨o, hm', rfl, .inl (.inl ho9), .inl (.inl hm9)⟩ ?_ hl7.1 hp ⟨td, rfl, .inl (.inl ht9)⟩ (by omega) lp ⟨tl, rfl, .inl (.inl (carry upd_same nt))⟩ hf
          have := hl7.2
          rw [if_neg Bool.false_ne_true]
          omega
    | false =>
      refine iteF ?_
      refine ⟨_, rfl, two_size, fun o no => ?_⟩
      have x5 := Evl.Ex.new (o := .tup [.str (fT true), .ref hm']) no
      have b5 := b4.ex x5
      refine ⟨Nat.zero_le _, fun dh nd => ?_⟩
      have x6 := Evl.Ex.new (o := .lst []) nd
      have b6 := b5.ex x6
      have ndb := b5.ne nd
      have ho5 : (L2.upd H4 o (.tup [.str (fT true), .ref hm'])) o = some (.tup [.str (fT true), .ref hm']) := upd_same
      have hh5 : (L2.upd H4 o (.tup [.str (fT true), .ref hm'])) hm' = some (.tup (rooms.map V.int)) := carry hh4 no
      have nob := b4.ne no
      refine ⟨_, rfl, _, rfl, o, _, 0, _, rfl, rfl, .inl (.inl (carry upd_same nd)), atI_nat (j := 0) rfl, rfl, .inr ⟨_, rfl, _, _, rfl, rfl, ?_⟩⟩
      have en : 2 + r + (if decide (V.str (fT true) = V.str "row") = true then 1 else 0) = gts true rooms.length := by
        rw [fT_row]
        simp [gts]
        omega
      have gn : 0 ≤ gts true rooms.length ∧ gts true rooms.length ≤ 8 := by
        simp [gts]
        omega
      refine ⟨_, congrArg (fun z => [V.int z]) en, by omega, by omega, for_range (lo := 0) (n := (gts true rooms.length).toNat) (fun i σ H' => ∃ (y6 : Option V) (l : List (Option Int)),
        σ = [some (.ref b), some (.int 7), some (.int (2 + r)), some (.ref hm'), some (.ref o), some (.ref dh), y6, none, none] ∧ Kp b (L2.upd H4 o (.tup [.str (fT true), .ref hm'])) H' ∧ Bx H' b (m + 20 + 4 * i) ∧
        H' dh = some (.lst (l.map vO)) ∧ l.length = i ∧ ∀ x ∈ l, ∀ i, x = some i → 0 ≤ i ∧ i ≤ 1000000000)
        ⟨none, [], rfl, Kp.ex x6, b6.le (by omega), upd_same, rfl, fun r hr => nomatch hr⟩ (fun i σ H' hi pe => ?_) (fun σ H' pe => ?_)⟩
      · obtain ⟨y6, l, rfl, k6, b7, hdh, ll, lp⟩ := pe
        refine ⟨.ref dh, rfl, .inl ⟨rfl, _, .inl (.inl hdh)⟩, ?_⟩
        refine ⟨_, rfl, 10, 9, rfl, rfl, ⟨by decide, by decide, by decide⟩, ?_⟩
        dsimp only [tNil, tC, tCons]
        refine wideR b7 (by omega) (by decide) fun d H7 d0 d1 k7 b8 => ?_
        have d2 : d < 1000000000 := d1
        refine ⟨_, rfl, ?_⟩
        dsimp only [tNil, tC, tCons]
        refine takeR b8 (by omega) (by decide) (by decide) fun e2 H8 e3 e4 k8 b9 => ?_
        refine ⟨1, e2, rfl, rfl, show 4 ≤ sizeLine by decide, fun c nc => ?_⟩
        refine ⟨show 6 ≤ sizeLine by decide, fun c2 nc2 => ?_⟩
        have xc := Evl.Ex.new (o := .lst [.non, .int d, .int (1 + e2), .int 0]) nc
        have xc2 := Evl.Ex.new (o := .lst [.int 0, .int 0, .int 1, .int 1, .int 2, .int 3]) nc2
        have b10 := (b9.ex xc).ex xc2
        have nc2b := (b9.ex xc).ne nc2
        refine ⟨_, rfl, ?_⟩
        dsimp only [tNil, tC, tCons]
        refine takeR b10 (by omega) (by decide) (by decide) fun g H9 g0 g1 k9 b11 => ?_
        obtain ⟨z, ez, z0, z1⟩ := pick6 g0 g1
        obtain ⟨x, ex, hx⟩ := pickD d0 d2 e3 e4 z0 z1
        have hc9 := k9 c _ (b9.ne nc) (carry upd_same nc2)
        have hc29 := k9 c2 _ nc2b upd_same
        have hdh9 := k9 dh _ ndb (carry (carry (k8 dh _ ndb (k7 dh _ ndb hdh)) nc) nc2)
        refine ⟨c2, _, _, _, rfl, rfl, .inl (.inl hc29), ez, c, _, _, _, rfl, rfl, .inl (.inl hc9), ex, dh, _, _, rfl, rfl, hdh9, ?_, _, l ++ [x], rfl, ?_, ?_, ?_, ?_, ?_⟩
        · rw [List.length_map]
          exact Evl.sz_lt (by omega)
        · exact Kp.mut (((((k6.trans k7).trans k8).trans (Kp.ex xc)).trans (Kp.ex xc2)).trans k9) nd
        · exact (b11.upd ndb).le (by omega)
        · rw [upd_same, mapO_snoc]
        · rw [List.length_append, ll]
          rfl
        · exact memO_snoc lp hx
      · obtain ⟨y6, ws, rfl, k6, b7, hdh, ll, lp⟩ := pe
        refine ⟨_, rfl, _, rfl, .inl ⟨dh, _, rfl, .inl (.inl hdh), fun td ntd => ?_⟩⟩
        have x7 := Evl.Ex.new (o := .tup (ws.map vO)) ntd
        have b8 := b7.ex x7
        have k7 := k6.trans (Kp.ex x7)
        have ntdb := b7.ne ntd
        have hh8 : SqT K (L2.upd H' td (.tup (ws.map vO))) hm' (rooms.map V.int) := .inl (.inl (k7 hm' _ nhb hh5))
        refine ⟨_, rfl, hm', rfl, ⟨_, hh8⟩, fun Dl nDl => lc_it (walk_tup (xs := rooms.map V.int)) (fun i H2 => ∃ l : List Int, Kp b (L2.upd H' td (.tup (ws.map vO))) H2 ∧ Bx H2 b (m + 20 + 4 * (gts true rooms.length).toNat + 2 * i) ∧ H2 Dl = some (.lst (l.map V.int)) ∧ Fit l rooms i)
          ⟨[], Kp.ex (Evl.Ex.new nDl), (b8.upd (b8.ne nDl)).le (by omega), upd_same, rfl, fun j h r e _ => by simp at e⟩ (fun i H2 _ pe => sqt_kp hh8 b8 pe.choose_spec.1) (fun i x H2 H3 hi pe y => ?_) (fun H2 pe => ?_)⟩
        · obtain ⟨l, k8, b9, hD2, hf⟩ := pe
          obtain ⟨rfl, ex⟩ := y
          obtain ⟨ro, rfl, er⟩ := int_at ex
          have hro := hp ro (List.mem_of_getElem? er)
          rw [List.length_map] at hi
          refine ⟨rfl, ?_⟩
          unfold tYes
          dsimp only
          rw [if_pos rfl]
          refine ⟨_, rfl, _, rfl, ro, 1, rfl, rfl, ?_⟩
          dsimp only [tNil, tC, tCons]
          refine wideR b9 (by omega) (by omega) fun d H5 d0 d1 k9 b10 => ?_
          refine ⟨_, k9 Dl _ (b8.ne nDl) hD2, ?_, l ++ [d], Kp.mut (k8.trans k9) nDl, (b10.upd (b8.ne nDl)).le (by omega), ?_, hf.snoc er d0 (by omega)⟩
          · rw [List.length_map, hf.1]
            exact Evl.sz_lt (by omega)
          · rw [upd_same, map_snoc]
        · obtain ⟨l, k8, b9, hD2, hf⟩ := pe
          rw [List.length_map] at hf b9
          refine .inl ⟨Dl, _, rfl, .inl (.inl hD2), fun tl ntl => ⟨show 3 ≤ sizeLine by decide, fun t nt => ?_⟩⟩
          have x9 := (Evl.Ex.new (o := .tup (l.map V.int)) ntl).trans (Evl.Ex.new (o := .tup [.ref o, .ref td, .ref tl]) nt)
          have kall := (((k14.trans (Kp.ex x5)).trans k7).trans k8).trans (Kp.ex x9)
          have ho9 := x9 _ _ (k8 o _ nob (k7 o _ nob ho5))
          have hm9 := x9 _ _ (k8 hm' _ nhb (k7 hm' _ nhb hh5))
          have ht9 := x9 _ _ (k8 td _ ntdb upd_same)
          refine q t _ (.ref o) (.ref td) (.ref tl) true rooms l ws kall ((b9.ex x9).le (by omega)) (.inl (.inl upd_same)) ⟨o, hm', rfl, .inl (.inl ho9), .inl (.inl hm9)⟩ ?_ hl7.1 hp ⟨td, rfl, .inl (.inl ht9)⟩ (by omega) lp ⟨tl, rfl, .inl (.inl (carry upd_same nt))⟩ hf
          have := hl7.2
          rw [if_pos rfl]
          omega

end
end Kd
namespace Kd
open PySem PySem.Spec PyProof.Rows L2 Xg
def dO : Option Int → PyData
  | none => .none
  | some i => .int i
def dL (row : Bool) (rooms : List Int) : PyData := .tuple [.str (fT row), .tuple (rooms.map PyData.int)]
def dAll (row : Bool) (rooms : List Int) (ws : List (Option Int)) (held : List Int) : PyData := .list [dL row rooms, .tuple (ws.map dO), .tuple (held.map PyData.int)]
/-- leaves that are short -/
structure Lf (d : PyData) : Prop where
  sh : d.showable = true
  di : d.hasDict = false
  dp : d.depth = 0
  lv : d.leavesShort 13 = true
  wt : d.weight ≤ 40
theorem lf_int {i : Int} (h : 0 ≤ i ∧ i ≤ 1000000000) : Lf (.int i) := by
  have hn : i.natAbs < 2 ^ 30 := by omega
  have hlog : i.natAbs.log2 < 30 := by
    by_cases z : i.natAbs = 0
    · rw [z]
      decide
    · exact (Nat.log2_lt z).mpr hn
  refine ⟨?_, by simp [PyData.hasDict], by simp [PyData.depth], ?_, ?_⟩
  · rw [PyData.showable]
    exact decide_eq_true (by omega)
  · rw [PyData.leavesShort]
    exact decide_eq_true (PyData.shown_int_le (by omega))
  · rw [PyData.weight]
    split <;> omega
theorem lf_none : Lf .none := ⟨by simp [PyData.showable], by simp [PyData.hasDict], by simp [PyData.depth], by decide +kernel, by decide +kernel⟩
theorem lf_all {α : Type} (c : α → PyData) : ∀ l : List α, (∀ a ∈ l, Lf (c a)) → PyData.showableAll (l.map c) = true ∧ PyData.hasDictAll (l.map c) = false ∧ PyData.depthAll (l.map c) = 0 ∧ PyData.leavesShortAll 13 (l.map c) = true ∧ PyData.weightAll (l.map c) ≤ 41 * l.length
  | [], _ => ⟨by simp [PyData.showableAll], by simp [PyData.hasDictAll], by simp [PyData.depthAll], by simp [PyData.leavesShortAll], by simp [PyData.weightAll]⟩
  | a :: l, h => by
    obtain ⟨g1, g2, g3, g4, g5⟩ := lf_all c l fun x hx => h x (List.mem_cons_of_mem _ hx)
    obtain ⟨f1, f2, f3, f4, f5⟩ := h a List.mem_cons_self
    refine ⟨?_, ?_, ?_, ?_, ?_⟩
    · rw [List.map_cons, PyData.showableAll, f1, g1]
      rfl
    · rw [List.map_cons, PyData.hasDictAll, f2, g2]
      rfl
    · rw [List.map_cons, PyData.depthAll, f3, g3]
      rfl
    · rw [List.map_cons, PyData.leavesShortAll, f4, g4]
      rfl
    · rw [List.map_cons, PyData.weightAll, List.length_cons]
      omega
theorem lf_ints {l : List Int} (h : ∀ r ∈ l, 0 ≤ r ∧ r ≤ 1000000000) : ∀ a ∈ l, Lf (PyData.int a) := fun a ha => lf_int (h a ha)
theorem lf_opts {l : List (Option Int)} (h : ∀ x ∈ l, ∀ i, x = some i → 0 ≤ i ∧ i ≤ 1000000000) : ∀ a ∈ l, Lf (dO a) := fun a ha => by
  cases e : a with
  | none => exact lf_none
  | some i => exact lf_int (h a ha i e)
theorem dAll_ok {row : Bool} {rooms held : List Int} {ws : List (Option Int)} (h1 : ∀ r ∈ rooms, 0 ≤ r ∧ r ≤ 1000000000) (h2 : ∀ x ∈ ws, ∀ i, x = some i → 0 ≤ i ∧ i ≤ 1000000000) (h3 : ∀ r ∈ held, 0 ≤ r ∧ r ≤ 1000000000)
    (l1 : rooms.length ≤ 10) (l2 : ws.length ≤ 10) (l3 : held.length ≤ 10) :
    (dAll row rooms ws held).showable = true ∧ (dAll row rooms ws held).hasDict = false ∧ (dAll row rooms ws held).depth ≤ 60 ∧ (dAll row rooms ws held).shown.length ≤ sizeLine := by
  obtain ⟨a1, a2, a3, a4, a5⟩ := lf_all PyData.int rooms (lf_ints h1)
  obtain ⟨b1, b2, b3, b4, b5⟩ := lf_all dO ws (lf_opts h2)
  obtain ⟨c1, c2, c3, c4, c5⟩ := lf_all PyData.int held (lf_ints h3)
  have f1 : (PyData.str (fT row)).leavesShort 13 = true := by cases row <;> decide +kernel
  have f2 : (PyData.str (fT row)).weight ≤ 4 := by cases row <;> decide +kernel
  refine ⟨?_, ?_, ?_, PyData.shown_fits (B := 13) (by decide) (by decide) ?_ ?_⟩
  · simp [dAll, dL, PyData.showable, PyData.showableAll, a1, b1, c1]
  · simp [dAll, dL, PyData.hasDict, PyData.hasDictAll, a2, b2, c2]
  · simp [dAll, dL, PyData.depth, PyData.depthAll, a3, b3, c3]
  · rw [PyData.leavesShort] at f1
    simp only [dAll, dL, PyData.leavesShort, PyData.leavesShortAll, a4, b4, c4, f1]
    rfl
  · rw [PyData.weight] at f2
    simp only [dAll, dL, PyData.weight, PyData.weightAll]
    omega
theorem shal_int (n : Nat) (i : Int) : shal n (.int i) = true := by cases n <;> simp [shal]
theorem shal_str (n : Nat) (z : Str) : shal n (.str z) = true := by cases n <;> simp [shal]
theorem shal_opt (n : Nat) (x : Option Int) : shal n (dO x) = true := by cases x <;> cases n <;> simp [shal, dO]
theorem shal_tup (n : Nat) (ds : List PyData) (h : ds.length ≤ 1000) (g : ∀ d ∈ ds, shal n d = true) : shal (n + 1) (.tuple ds) = true := by
  rw [shal, Bool.and_eq_true_iff]
  exact ⟨decide_eq_true h, List.all_eq_true.mpr g⟩
theorem shal_lst (n : Nat) (ds : List PyData) (h : ds.length ≤ 1000) (g : ∀ d ∈ ds, shal n d = true) : shal (n + 1) (.list ds) = true := by
  rw [shal, Bool.and_eq_true_iff]
  exact ⟨decide_eq_true h, List.all_eq_true.mpr g⟩
theorem shal_ints (n : Nat) (l : List Int) (h : l.length ≤ 1000) : shal (n + 1) (.tuple (l.map PyData.int)) = true := shal_tup n _ (by rw [List.length_map]; exact h) fun d hd => by
  obtain ⟨i, _, rfl⟩ := List.mem_map.mp hd
  exact shal_int n i
theorem shal_opts (n : Nat) (l : List (Option Int)) (h : l.length ≤ 1000) : shal (n + 1) (.tuple (l.map dO)) = true := shal_tup n _ (by rw [List.length_map]; exact h) fun d hd => by
  obtain ⟨i, _, rfl⟩ := List.mem_map.mp hd
  exact shal_opt n i
theorem shal_line (n : Nat) (row : Bool) (l : List Int) (h : l.length ≤ 1000) : shal (n + 2) (dL row l) = true := by
  refine shal_tup (n + 1) _ (by show 2 ≤ 1000; decide) fun d hd => ?_
  rcases List.mem_cons.mp hd with e | e
  · rw [e]
    exact shal_str _ _
  · rw [List.mem_singleton.mp e]
    exact shal_ints n l h
theorem dp_opts {K : PySem.W.Frag} {H : Hp} : ∀ l : List (Option Int), DpAll K H (l.map vO) (l.map dO)
  | [] => .nil
  | none :: r => .cons .non (dp_opts r)
  | some i :: r => .cons (.int i) (dp_opts r)
section
variable {K : PySem.W.Frag} {H : Hp} {v : V}
theorem TpV.ints {l : List Int} (h : TpV K true H v (l.map V.int)) : Dp K H v (.tuple (l.map PyData.int)) := by
  obtain ⟨a, rfl, h⟩ := h
  exact .tup h (dp_ints l)
theorem TpV.opts {l : List (Option Int)} (h : TpV K true H v (l.map vO)) : Dp K H v (.tuple (l.map dO)) := by
  obtain ⟨a, rfl, h⟩ := h
  exact .tup h (dp_opts l)
theorem LnV.dp {row : Bool} {rooms : List Int} (h : LnV K true H v row rooms) : Dp K H v (dL row rooms) := by
  obtain ⟨a, r, rfl, h1, h2⟩ := h
  exact .tup h1 (.cons (.str _) (.cons (.tup h2 (dp_ints rooms)) .nil))
end
section
variable {P : Program} {w : World} {K : PySem.W.Frag} {mg : Str → Option Value} {base : Heap}
theorem FnOk.or {f : Addr} {fd : FuncData} {k : Nat} {ps : List Str} {sp1 sp2 : Sp} (a : FnOk P w K mg base CX0 k f fd ps sp1) (b : FnOk P w K mg base CX0 k f fd ps sp2) : FnOk P w K mg base CX0 k f fd ps (fun vs H Q E => sp1 vs H Q E ∨ sp2 vs H Q E) :=
  ⟨fun vs H Q E h => h.elim (a.len vs H Q E) (b.len vs H Q E), fun A outer s H args us vs Q E hr he hb hv h => h.elim (a.run A outer s H args us vs Q E hr he hb hv) (b.run A outer s H args us vs Q E hr he hb hv)⟩
def spL1 : Sp := fun vs H Q _ => ∃ v : V, vs = [v] ∧ ((∃ i, v = .int i) ∨ ∃ z, v = .str z) ∧ ∀ H', Evl.Ex H H' → Q v H'
def spL2 (K : PySem.W.Frag) : Sp := fun vs H Q _ => ∃ (a : Addr) (l : List Int), vs = [.ref a] ∧ SqT K H a (l.map V.int) ∧ l.length ≤ 1000 ∧ ∀ p H', Evl.Ex H H' → H' p = some (.lst (l.map V.int)) → Q (.ref p) H'
def spL3 (K : PySem.W.Frag) : Sp := fun vs H Q _ => ∃ (v : V) (row : Bool) (rooms : List Int), vs = [v] ∧ LnV K true H v row rooms ∧ rooms.length ≤ 1000 ∧ ∀ u H', Evl.Ex H H' → LnV K false H' u row rooms → Q u H'
theorem ok_l1 {f : Addr} {fd : FuncData} (F : Fun K "_law_lists" "_law_lists" (topS 22) f fd) (bd : L2.Binds K fd ["_law_thing"] []) (gs : mg "_law_lists" = some (.ref f)) (N : Names mg) :
    FnOk P w K mg base CX0 1 f fd ["_law_thing"] spL1 := by
  have G : FnOk P w K mg base CX0 0 f fd ["_law_thing"] (fun _ _ _ _ => False) := ⟨fun _ _ _ _ h => h.elim, fun _ _ _ _ _ _ _ _ _ _ _ _ _ h => h.elim⟩
  refine F.ok s_lists (fun vs H Q E h => ?_) (fun cdv A outer s H vs Q E hr h => ?_)
  · obtain ⟨v, rfl, hv, q⟩ := h
    rfl
  · obtain ⟨v, rfl, hv, q⟩ := h
    refine ⟨_, pss_one (ps_ret (pe_ifExp (pt_val (pe_callB call_isiT (by rfl) N.isi bt_isi (pa_cons (pv 0) (pa_cons (pe_tup (pa_cons (pe_bltn (v := .ty "list") (by rfl) N.lst bt_lst rfl) (pa_cons (pe_bltn (v := .ty "tuple") (by rfl) N.tup bt_tup rfl) pa_nil))) pa_nil)))) (pe_lc (own := [("_law_one", 1)]) (g := gName 1) (tt := tYes) rfl s_lists.nd (pi_tup (pv 0)) (blkOk_by (N := ["_law_thing", "_law_one"]) (sc := defScope (topS 22)) (by decide +kernel)) (fun _ _ _ _ _ => pg_name (i := 1) s_lists.nd rfl (.inl rfl)) (fun _ _ _ _ _ => pts_nil) (fun _ _ _ _ _ => pe_call G hr (by rfl) gs F.kp bd .nil pass0 (pa_cons (pv 1) pa_nil))) (pv 0))), ?_⟩
    refine ⟨_, rfl, two_size, fun t nt => ?_⟩
    have e0 : Evl.Ex H (upd H t (.tup [.ty "list", .ty "tuple"])) := Evl.Ex.new nt
    rcases hv with ⟨i, rfl⟩ | ⟨z, rfl⟩
    · refine ⟨_, t, _, _, _, false, rfl, upd_same, two_cls, .base (.int i), kit2 (b := false) (c := false) (by decide +kernel) (by decide +kernel), _, rfl, iteF ?_⟩
      exact ⟨_, rfl, q _ e0⟩
    · refine ⟨_, t, _, _, _, false, rfl, upd_same, two_cls, .base (.str z), kit2 (b := false) (c := false) (by decide +kernel) (by decide +kernel), _, rfl, iteF ?_⟩
      exact ⟨_, rfl, q _ e0⟩
theorem ok_l2 {f : Addr} {fd : FuncData} (F : Fun K "_law_lists" "_law_lists" (topS 22) f fd) (bd : L2.Binds K fd ["_law_thing"] []) (gs : mg "_law_lists" = some (.ref f)) (N : Names mg) :
    FnOk P w K mg base CX0 2 f fd ["_law_thing"] (spL2 K) := by
  have G : FnOk P w K mg base CX0 1 f fd ["_law_thing"] spL1 := ok_l1 F bd gs N
  refine F.ok s_lists (fun vs H Q E h => ?_) (fun cdv A outer s H vs Q E hr h => ?_)
  · obtain ⟨a, l, rfl, hS, hl, q⟩ := h
    rfl
  · obtain ⟨a, l, rfl, hS, hl, q⟩ := h
    refine ⟨_, pss_one (ps_ret (pe_ifExp (pt_val (pe_callB call_isiT (by rfl) N.isi bt_isi (pa_cons (pv 0) (pa_cons (pe_tup (pa_cons (pe_bltn (v := .ty "list") (by rfl) N.lst bt_lst rfl) (pa_cons (pe_bltn (v := .ty "tuple") (by rfl) N.tup bt_tup rfl) pa_nil))) pa_nil)))) (pe_lc (own := [("_law_one", 1)]) (g := gName 1) (tt := tYes) rfl s_lists.nd (pi_tup (pv 0)) (blkOk_by (N := ["_law_thing", "_law_one"]) (sc := defScope (topS 22)) (by decide +kernel)) (fun _ _ _ _ _ => pg_name (i := 1) s_lists.nd rfl (.inl rfl)) (fun _ _ _ _ _ => pts_nil) (fun _ _ _ _ _ => pe_call G hr (by rfl) gs F.kp bd .nil pass0 (pa_cons (pv 1) pa_nil))) (pv 0))), ?_⟩
    refine ⟨_, rfl, two_size, fun t nt => ?_⟩
    have e0 : Evl.Ex H (upd H t (.tup [.ty "list", .ty "tuple"])) := Evl.Ex.new nt
    have h0 := Evl.ex_t e0 hS
    refine ⟨_, t, _, _, _, true, rfl, upd_same, two_cls, tyx_t h0, kit2 (b := false) (c := true) (by decide +kernel) (by decide +kernel), _, rfl, iteT ?_⟩
    refine ⟨_, rfl, a, rfl, ⟨_, h0⟩, fun D nD => lc_it (walk_tup (xs := l.map V.int)) (fun i H' => Evl.Ex (upd H t (.tup [.ty "list", .ty "tuple"])) H' ∧ H' D = some (.lst ((l.take i).map V.int))) ⟨Evl.Ex.new nD, upd_same⟩ (fun i H' _ pe => Evl.ex_t pe.1 h0) (fun i x H2 H3 hi pe y => ?_) (fun H' pe => ?_)⟩
    · obtain ⟨rfl, ex⟩ := y
      obtain ⟨z, rfl, ez⟩ := int_at ex
      refine ⟨rfl, ?_⟩
      unfold tYes
      dsimp only
      rw [if_pos rfl]
      refine ⟨_, rfl, .int z, rfl, .inl ⟨z, rfl⟩, fun H4 e4 => ?_⟩
      rw [List.length_map] at hi
      refine ⟨_, e4 _ _ pe.2, ?_, Evl.Ex.mut (pe.1.trans e4) nD, ?_⟩
      · rw [List.length_map, List.length_take]
        exact Evl.sz_lt (by omega)
      · rw [upd_same, List.take_add_one, ez, List.map_append]
        rfl
    · rw [List.length_map, List.take_of_length_le (Nat.le_refl _)] at pe
      exact q D _ (e0.trans pe.1) pe.2
theorem ok_l3 {f : Addr} {fd : FuncData} (F : Fun K "_law_lists" "_law_lists" (topS 22) f fd) (bd : L2.Binds K fd ["_law_thing"] []) (gs : mg "_law_lists" = some (.ref f)) (N : Names mg) :
    FnOk P w K mg base CX0 3 f fd ["_law_thing"] (spL3 K) := by
  have G : FnOk P w K mg base CX0 2 f fd ["_law_thing"] (fun vs H Q E => spL1 vs H Q E ∨ spL2 K vs H Q E) := FnOk.or (L2.FnOk.mono (ok_l1 F bd gs N) (by decide)) (ok_l2 F bd gs N)
  refine F.ok s_lists (fun vs H Q E h => ?_) (fun cdv A outer s H vs Q E hr h => ?_)
  · obtain ⟨v, row, rooms, rfl, ⟨a, r, rfl, h1, h2⟩, hl, q⟩ := h
    rfl
  · obtain ⟨v, row, rooms, rfl, ⟨a, r, rfl, h1, h2⟩, hl, q⟩ := h
    refine ⟨_, pss_one (ps_ret (pe_ifExp (pt_val (pe_callB call_isiT (by rfl) N.isi bt_isi (pa_cons (pv 0) (pa_cons (pe_tup (pa_cons (pe_bltn (v := .ty "list") (by rfl) N.lst bt_lst rfl) (pa_cons (pe_bltn (v := .ty "tuple") (by rfl) N.tup bt_tup rfl) pa_nil))) pa_nil)))) (pe_lc (own := [("_law_one", 1)]) (g := gName 1) (tt := tYes) rfl s_lists.nd (pi_tup (pv 0)) (blkOk_by (N := ["_law_thing", "_law_one"]) (sc := defScope (topS 22)) (by decide +kernel)) (fun _ _ _ _ _ => pg_name (i := 1) s_lists.nd rfl (.inl rfl)) (fun _ _ _ _ _ => pts_nil) (fun _ _ _ _ _ => pe_call G hr (by rfl) gs F.kp bd .nil pass0 (pa_cons (pv 1) pa_nil))) (pv 0))), ?_⟩
    refine ⟨_, rfl, two_size, fun t nt => ?_⟩
    have e0 : Evl.Ex H (upd H t (.tup [.ty "list", .ty "tuple"])) := Evl.Ex.new nt
    have g1 := Evl.ex_t e0 h1
    have g2 := Evl.ex_t e0 h2
    refine ⟨_, t, _, _, _, true, rfl, upd_same, two_cls, tyx_t g1, kit2 (b := false) (c := true) (by decide +kernel) (by decide +kernel), _, rfl, iteT ?_⟩
    refine ⟨_, rfl, a, rfl, ⟨_, g1⟩, fun D nD => lc_it (walk_tup (xs := [.str (fT row), .ref r])) (fun i H' => Evl.Ex (upd H t (.tup [.ty "list", .ty "tuple"])) H' ∧
      (match i with
        | 0 => H' D = some (.lst [])
        | 1 => H' D = some (.lst [.str (fT row)])
        | _ => ∃ p, H' D = some (.lst [.str (fT row), .ref p]) ∧ H' p = some (.lst (rooms.map V.int))))
      ⟨Evl.Ex.new nD, upd_same⟩ (fun i H' _ pe => Evl.ex_t pe.1 g1) (fun i x H2 H3 hi pe y => ?_) (fun H' pe => ?_)⟩
    · obtain ⟨rfl, ex⟩ := y
      match i, ex, pe with
      | 0, ex, pe =>
        cases ex
        refine ⟨rfl, ?_⟩
        unfold tYes
        dsimp only
        rw [if_pos rfl]
        refine ⟨_, rfl, .inl ⟨_, rfl, .inr ⟨_, rfl⟩, fun H4 e4 => ?_⟩⟩
        exact ⟨[], e4 _ _ pe.2, show 0 < sizeLine by decide, Evl.Ex.mut (pe.1.trans e4) nD, upd_same⟩
      | 1, ex, pe =>
        cases ex
        refine ⟨rfl, ?_⟩
        unfold tYes
        dsimp only
        rw [if_pos rfl]
        refine ⟨_, rfl, .inr ⟨r, rooms, rfl, Evl.ex_t pe.1 g2, hl, fun p H4 e4 hp => ?_⟩⟩
        have hD4 := e4 _ _ pe.2
        refine ⟨[.str (fT row)], hD4, show 1 < sizeLine by decide, Evl.Ex.mut (pe.1.trans e4) nD, p, upd_same, ?_⟩
        rw [upd_ne (ne_of hp hD4 ?_)]
        · exact hp
        · intro z
          injection z with z
          cases rooms with
          | nil => cases z
          | cons a b =>
            injection z with z1 z2
            cases z1
    · obtain ⟨e1, p, hD, hp⟩ := pe
      exact q _ _ (e0.trans e1) ⟨D, p, rfl, .inl (.inl hD), .inl (.inl hp)⟩
end
end Kd
namespace Kd
open PySem PySem.Spec PyProof.Rows L2 Xg
theorem s_right : FnScope ["_law_box_here", "_law_own", "_law_doors_here", "_law_lies_here", "_law_form", "_law_homes", "_law_size", "_law_kept", "_law_many", "_law_back", "_law_its", "_law_over", "_law_lack", "_law_pond", "_law_some", "_law_ways", "_law_found", "_law_due", "_law_told", "_law_at", "_law_home", "_law_held"] ["_law_box_here"] (defScope (topS 28)) := ⟨rfl, rfl, rfl, by decide +kernel, rfl, by decide +kernel, by decide +kernel⟩
/-- a def that may be called by keywords, too -/
structure DfK (P : Program) (w : World) (K : PySem.W.Frag) (mg : Str → Option Value) (base : Heap) (x : Str) (ps ks : List Str) (g : {α : Type} → List α → List α) (k : Nat) (sp : Sp) : Prop where
  ex : ∃ (f : Addr) (fd : FuncData), FnOk P w K mg base CX0 k f fd ps sp ∧ mg x = some (.ref f) ∧ PySem.W.keepIn K (.ref f) = true ∧ L2.Binds K fd ps [] ∧ KwOnly K fd ps ks g
theorem DfK.df {P : Program} {w : World} {K : PySem.W.Frag} {mg : Str → Option Value} {base : Heap} {x : Str} {ps ks : List Str} {g : {α : Type} → List α → List α} {k : Nat} {sp : Sp} (D : DfK P w K mg base x ps ks g k sp) : Df P w K mg base x ps k sp :=
  let ⟨f, fd, a, b, c, d, _⟩ := D.ex; ⟨f, fd, a, b, c, d⟩
theorem vals_rev2 {zs : List V} {ws : List Value} (h : Vals zs ws) : Vals zs.reverse ws.reverse := h.reverse
theorem pe_dfk {X : Cx} {x : Str} {ps ks : List Str} {g : {α : Type} → List α → List α} {k : Nat} {sp : Sp} {p pos : Pos} {kws : List Keyword} {tk : TA} (D : DfK X.prog X.w X.K X.mg X.base x ps ks g k sp) (hr : Room k X.A) (hg : Gl X x)
    (hrel : ∀ {zs : List V} {ws : List Value}, Vals zs ws → Vals (g zs) (g ws)) (hkw : PK X kws tk)
    (hall : (backToKw pos (keywordEach kws X.env)).all (·.1.isSome) = true := by rfl) (hks : (backToKw pos (keywordEach kws X.env)).filterMap (·.1) = ks := by rfl)
    (hdb : (x == ("__debug__" : Str)) = false := by decide) (hpl : ((backTo pos (starEach [] X.env)).any (·.1) || (backToKw pos (keywordEach kws X.env)).any (·.1.isNone)) = false := by rfl) :
    PE X (.Call (.Name x p) [] kws pos) (tKw ks.length sp g tk) := by
  obtain ⟨f, fd, G, gm, kp, b, kb⟩ := D.ex
  exact pe_kw G hr hg gm kp kb hrel hkw hall hks hdb hpl
/-- all that _law_right leans on -/
structure Rf (P : Program) (w : World) (K : PySem.W.Frag) (mg : Str → Option Value) (base : Heap) : Prop where
  N : Names mg
  range : mg "range" = none
  repr : mg "repr" = none
  take : Df P w K mg base "_law_take" ["_law_box_here", "_law_bound"] 1 spTake
  same : Df P w K mg base "_law_same" ["_law_found", "_law_due"] 4 (spSame K 3)
  line : Df P w K mg base "_law_line" ["_law_box_here", "_law_most"] 2 (spLine K)
  doors : Df P w K mg base "_law_doors" ["_law_box_here", "_law_own"] 2 (spDoors K)
  lies : Df P w K mg base "_law_lies" ["_law_box_here", "_law_own"] 2 (spLies K)
  great : Df P w K mg base "_law_great_line" ["_law_box_here", "_law_most"] 3 (spGreat K)
  lists : Df P w K mg base "_law_lists" ["_law_thing"] 3 (spL3 K)
  gates : DfK P w K mg base "gates" ["line"] ["line"] (fun l => l) 1 (spGates K)
  bare : Df P w K mg base "bare" ["line"] 1 (spBare K)
  full : Df P w K mg base "full" ["line"] 1 (spFull K)
  lacking : DfK P w K mg base "lacking" ["line", "standing"] ["standing", "line"] List.reverse 1 (spLacking K)
  turnedLine : Df P w K mg base "turned_line" ["line"] 1 (spTurnedLine K)
  turned : DfK P w K mg base "turned" ["line", "standing"] ["standing", "line"] List.reverse 1 (spTurned K)
  turnedWidths : DfK P w K mg base "turned_widths" ["line", "widths"] ["widths", "line"] List.reverse 1 (spTurnedWidths K)
  isLine : Df P w K mg base "is_line" ["thing"] 4 (spIsLine K)
  isWidths : Df P w K mg base "is_widths" ["line", "thing"] 3 (spIsWidths K)
  isStanding : Df P w K mg base "is_standing" ["line", "thing"] 3 (spIsStanding K)
section
variable {P : Program} {w : World} {K : PySem.W.Frag} {mg : Str → Option Value} {base : Heap}
def spRight : Sp := fun vs H Q _ => ∃ (b : Addr) (m : Int), vs = [.ref b] ∧ Bx H b m ∧ m < 700000000 ∧ ∀ H', Kp b H H' → Bx H' b (m + 200) → Q (.bl true) H'
/-- what is drawn -/
structure Ld (K : PySem.W.Frag) (H : Hp) (vo vd vl : V) (row : Bool) (rooms : List Int) (ws : List (Option Int)) (held : List Int) : Prop where
  ln : LnV K true H vo row rooms
  lo : (if row = true then 1 else 2) ≤ rooms.length
  hi : rooms.length ≤ 7
  rm : ∀ r ∈ rooms, 1 ≤ r ∧ r ≤ 1000000000
  dr : TpV K true H vd (ws.map vO)
  dn : (ws.length : Int) = gts row rooms.length
  dp : ∀ x ∈ ws, ∀ i, x = some i → 0 ≤ i ∧ i ≤ 1000000000
  ly : TpV K true H vl (held.map V.int)
  ft : Fits held rooms
theorem Ld.mono {H H' : Hp} {vo vd vl : V} {row : Bool} {rooms held : List Int} {ws : List (Option Int)} (h : Ld K H vo vd vl row rooms ws held) (e : Evl.Ex H H') : Ld K H' vo vd vl row rooms ws held :=
  ⟨h.ln.mono e, h.lo, h.hi, h.rm, h.dr.mono e, h.dn, h.dp, h.ly.mono e, h.ft⟩
theorem Ld.pos {H : Hp} {vo vd vl : V} {row : Bool} {rooms held : List Int} {ws : List (Option Int)} (h : Ld K H vo vd vl row rooms ws held) : 1 ≤ rooms.length := by
  have := h.lo
  cases row <;> simp at this <;> omega
theorem Ld.wlen {H : Hp} {vo vd vl : V} {row : Bool} {rooms held : List Int} {ws : List (Option Int)} (h : Ld K H vo vd vl row rooms ws held) : 2 ≤ ws.length ∧ ws.length ≤ 8 := by
  have h1 := h.lo
  have h2 := h.dn
  have h3 := h.hi
  cases row <;> simp [gts] at h1 h2 <;> omega
theorem Ld.held {H : Hp} {vo vd vl : V} {row : Bool} {rooms held : List Int} {ws : List (Option Int)} (h : Ld K H vo vd vl row rooms ws held) : ∀ x ∈ held, 0 ≤ x ∧ x ≤ 1000000000 := fun x hx => by
  obtain ⟨j, hj, e⟩ := List.getElem_of_mem hx
  have hl := h.ft.1
  have e1 : held[j]? = some x := by rw [List.getElem?_eq_getElem hj, e]
  have e2 : rooms[j]? = some (rooms[j]'(by omega)) := List.getElem?_eq_getElem _
  have := h.ft.2 j _ _ e1 e2
  have := h.rm _ (List.getElem_mem (l := rooms) (n := j) (by omega))
  omega
theorem Ld.sizes {H : Hp} {vo vd vl : V} {row : Bool} {rooms held : List Int} {ws : List (Option Int)} (h : Ld K H vo vd vl row rooms ws held) :
    (dAll row rooms ws held).showable = true ∧ (dAll row rooms ws held).hasDict = false ∧ (dAll row rooms ws held).depth ≤ 60 ∧ (dAll row rooms ws held).shown.length ≤ sizeLine := by
  have h1 := h.hi
  have h2 := h.wlen
  have h3 := h.ft.1
  exact dAll_ok (fun r hr => ⟨by have := h.rm r hr; omega, (h.rm r hr).2⟩) h.dp h.held (by omega) (by omega) (by omega)
theorem Ld.data {H : Hp} {vo vd vl : V} {row : Bool} {rooms held : List Int} {ws : List (Option Int)} (h : Ld K H vo vd vl row rooms ws held) {l : Addr} (hl : H l = some (.lst [vo, vd, vl])) : Dp K H (.ref l) (dAll row rooms ws held) :=
  .lst (.inl (.inl hl)) (.cons h.ln.dp (.cons h.dr.opts (.cons h.ly.ints .nil)))
def abO (row : Bool) (ws : List (Option Int)) : List (Option Int) := if row = true then ws.reverse else ws.take 1 ++ (ws.drop 1).reverse
theorem about_map (row : Bool) (ws : List (Option Int)) : about row (ws.map vO) = (abO row ws).map vO := by
  unfold about abO
  cases row with
  | true => rw [if_pos rfl, if_pos rfl, List.map_reverse]
  | false => rw [if_neg Bool.false_ne_true, if_neg Bool.false_ne_true, List.map_append, List.map_reverse, List.map_take, List.map_drop]
theorem abO_len (row : Bool) (ws : List (Option Int)) : (abO row ws).length = ws.length := by
  unfold abO
  cases row with
  | true => rw [if_pos rfl, List.length_reverse]
  | false =>
    rw [if_neg Bool.false_ne_true, List.length_append, List.length_reverse, List.length_take, List.length_drop]
    omega
theorem abO_abO (row : Bool) (ws : List (Option Int)) : abO row (abO row ws) = ws := by
  cases row with
  | true =>
    unfold abO
    rw [if_pos rfl, if_pos rfl, List.reverse_reverse]
  | false =>
    cases ws with
    | nil => rfl
    | cons x r =>
      show [x] ++ (r.reverse).reverse = x :: r
      rw [List.reverse_reverse]
      rfl
theorem abO_mem {row : Bool} {ws : List (Option Int)} {x : Option Int} (h : x ∈ abO row ws) : x ∈ ws := by
  unfold abO at h
  cases row with
  | true =>
    rw [if_pos rfl] at h
    exact List.mem_reverse.mp h
  | false =>
    rw [if_neg Bool.false_ne_true] at h
    rcases List.mem_append.mp h with e | e
    · exact List.mem_of_mem_take e
    · exact List.mem_of_mem_drop (List.mem_reverse.mp e)
theorem abO_row {ws : List (Option Int)} {n i : Nat} (h : ws.length = n + 1) (hi : i ≤ n) : (abO true ws)[i]? = ws[n - i]? := by
  unfold abO
  rw [if_pos rfl, List.getElem?_reverse (by omega), h]
  rw [show n + 1 - 1 - i = n - i by omega]
theorem abO_ring {ws : List (Option Int)} {n i : Nat} (h : ws.length = n) (hn : 1 ≤ n) (hi : i < n) : (abO false ws)[i]? = ws[(n - i) % n]? := by
  unfold abO
  rw [if_neg Bool.false_ne_true]
  cases i with
  | zero =>
    rw [Nat.sub_zero, Nat.mod_self]
    cases ws with
    | nil => simp at h; omega
    | cons x r => rfl
  | succ i =>
    rw [Nat.mod_eq_of_lt (by omega)]
    cases ws with
    | nil => simp at h; omega
    | cons x r =>
      rw [List.length_cons] at h
      show (x :: (r.reverse))[i + 1]? = (x :: r)[n - (i + 1)]?
      rw [List.getElem?_cons_succ, List.getElem?_reverse (by omega), show n - (i + 1) = (r.length - 1 - i) + 1 by omega, List.getElem?_cons_succ]
theorem less_less : ∀ (hs rs : List Int), hs.length = rs.length → less (less hs rs) rs = hs
  | [], [], _ => rfl
  | h :: hs, r :: rs, e => by
    show (r - (r - h)) :: less (less hs rs) rs = h :: hs
    rw [less_less hs rs (by simpa using e), show r - (r - h) = h by omega]
theorem Fits.rev {hs rs : List Int} (h : Fits hs rs) : Fits hs.reverse rs.reverse := by
  obtain ⟨hl, hp⟩ := h
  refine ⟨by rw [List.length_reverse, List.length_reverse, hl], fun j x y ex ey => ?_⟩
  have lt : j < rs.length := by
    by_cases c : j < rs.length
    · exact c
    · rw [List.getElem?_eq_none (by rw [List.length_reverse]; omega)] at ey
      cases ey
  rw [List.getElem?_reverse (by omega)] at ex
  rw [List.getElem?_reverse lt] at ey
  rw [hl] at ex
  exact hp _ x y ex ey
theorem Fits.less {hs rs : List Int} (h : Fits hs rs) : Fits (less hs rs) rs := by
  obtain ⟨hl, hp⟩ := h
  have ll := less_len hs rs
  refine ⟨by omega, fun j x y ex ey => ?_⟩
  have lt : j < rs.length := by
    by_cases c : j < rs.length
    · exact c
    · rw [List.getElem?_eq_none (by omega)] at ey
      cases ey
  have eh : hs[j]? = some (hs[j]'(by omega)) := List.getElem?_eq_getElem _
  rw [less_at hs rs j _ y eh ey] at ex
  cases ex
  have := hp j _ y eh ey
  omega
theorem Fits.self {rs : List Int} (h : ∀ r ∈ rs, 1 ≤ r ∧ r ≤ 1000000000) : Fits rs rs := ⟨rfl, fun j x y ex ey => by
  rw [ex] at ey
  cases ey
  have := h x (List.mem_of_getElem? ex)
  omega⟩
/-- tuple([te for at in range(n)]), the i-th of it the i-th of ys -/
theorem lc_pick {σ : L2.St} {H : Hp} {Q : VK} {te : TE} {j : Nat} {n : Nat} (ys : List V) (hl : ys.length = n) (hn : n ≤ 1000) (hj : σ[j]? = some (some (.int (n : Int)))) (hw : ∀ x, wipe ((wipe σ [19]).set 19 (some x)) [19] = wipe σ [19])
    (hp : ∀ (i : Nat) H', Evl.Ex H H' → i < n → ∀ Q' : VK, (∀ v, ys[i]? = some v → Q' v H') → te ((wipe σ [19]).set 19 (some (.int (i : Int)))) H' Q')
    (go : ∀ p H', Evl.Ex H H' → H' p = some (.tup ys) → Q (.ref p) H') : tThen (tLc (iRng1 (tCons (tVar j) tNil)) (gName 19) tYes te [19]) (kTup K) σ H Q := by
  refine ⟨_, hj, (n : Int), rfl, by omega, by omega, fun D nD => lc_range (lo := 0) (n := (n : Int).toNat) (fun i H' => Evl.Ex H H' ∧ H' D = some (.lst (ys.take i))) ⟨Evl.Ex.new nD, upd_same⟩ (fun i H' hi pe => ?_) (fun H' pe => ?_)⟩
  · have e0 : (0 : Int) + (i : Nat) = (i : Nat) := Int.zero_add _
    rw [e0]
    refine ⟨hw _, ?_⟩
    unfold tYes
    dsimp only
    rw [if_pos rfl]
    refine hp i H' pe.1 (by omega) _ fun v hv => ⟨_, pe.2, ?_, Evl.Ex.mut pe.1 nD, ?_⟩
    · rw [List.length_take]
      exact Evl.sz_lt (by omega)
    · rw [upd_same, List.take_add_one, hv]
      rfl
  · have e1 : ys.take (n : Int).toNat = ys := List.take_of_length_le (by omega)
    rw [e1] at pe
    exact .inl ⟨D, _, rfl, .inl (.inl pe.2), fun p np => go p _ (pe.1.trans (Evl.Ex.new np)) upd_same⟩
theorem rev_pick {l : List V} {n i : Nat} (hl : l.length = n) (hi : i < n) : l[n - 1 - i]? = l.reverse[i]? := by rw [List.getElem?_reverse (by omega), hl]
theorem rep_ints (k : Nat) : List.replicate k (V.int 0) = (List.replicate k (0 : Int)).map V.int := by rw [List.map_replicate]
theorem zer_read {σ : L2.St} {H : Hp} {Q : VK} {n : Nat} (hσ : σ[6]? = some (some (.int (n : Int)))) (h1 : 1 ≤ n) (h2 : n ≤ 1000) (k : ∀ u H', Evl.Ex H H' → TpV K true H' u ((List.replicate n (0 : Int)).map V.int) → Q u H') :
    tOp (fun x y H Q => rRepT K x y H Q ∨ rRep1 K x y H Q) (tTup (tCons (tC (.int 0)) tNil)) (tVar 6) σ H Q := by
  refine ⟨show 1 ≤ sizeLine by decide, fun t nt => ⟨_, hσ, ?_⟩⟩
  have e1 := Evl.Ex.new (o := .tup [.int 0]) nt
  by_cases e : n = 1
  · subst e
    exact .inr ⟨t, _, rfl, rfl, .inl (.inl upd_same), k _ _ e1 ⟨t, rfl, .inl (.inl upd_same)⟩⟩
  · refine .inl ⟨t, _, _, rfl, rfl, .inl (.inl upd_same), by simp, by omega, by omega, by show 1 ≤ 1000; decide, fun p np => ?_⟩
    refine k _ _ (e1.trans (Evl.Ex.new np)) ⟨p, rfl, .inl (.inl ?_)⟩
    rw [upd_same, Int.toNat_natCast, rep_flat, rep_ints]
theorem eqv_bools : ∀ bs : List Bool, PyData.eqvAll (bs.map PyData.bool) (bs.map PyData.bool) = true
  | [] => by simp [PyData.eqvAll]
  | b :: r => by
    rw [List.map_cons, PyData.eqvAll, eqv_bools r]
    simp [PyData.eqv]
theorem dp_bools {H : Hp} : ∀ bs : List Bool, DpAll K H (bs.map V.bl) (bs.map PyData.bool)
  | [] => .nil
  | m :: r => .cons (.bl m) (dp_bools r)
theorem fm {α : Type} {p : α → Prop} {a : α} {l : List α} (h : p a) (g : ∀ x ∈ l, p x) : ∀ x ∈ a :: l, p x := fun x hx => by
  rcases List.mem_cons.mp hx with e | e
  · rw [e]
    exact h
  · exact g x e
theorem fn0 {α : Type} {p : α → Prop} : ∀ x ∈ ([] : List α), p x := fun x hx => nomatch hx
theorem ok_right {f : Addr} {fd : FuncData} (F : Fun K "_law_right" "_law_right" (topS 28) f fd) (R : Rf P w K mg base) : FnG P w K mg base 5 f fd ["_law_box_here"] spRight := by
  refine okG F s_right (fun vs H Q h => ?_) (fun cdv A outer s H vs Q hG hr h => ?_)
  · obtain ⟨b, m, rfl, _⟩ := h
    rfl
  · obtain ⟨b, m, rfl, hb, hm, q⟩ := h
    refine ⟨_, (pss_cons (ps_set (i := 1) s_right.nd rfl (.inl rfl) (pe_df R.line (hr.mono (by decide)) (by rfl) (pa_cons (pv 0) (pa_cons pe_int pa_nil))))
      (pss_cons (ps_asg (pe_tup (pa_cons (pe_df R.doors (hr.mono (by decide)) (by rfl) (pa_cons (pv 0) (pa_cons (pv 1) pa_nil))) (pa_cons (pe_df R.lies (hr.mono (by decide)) (by rfl) (pa_cons (pv 0) (pa_cons (pv 1) pa_nil))) pa_nil))) (pg_tup rfl (pgs_cons (pg_name (i := 2) s_right.nd rfl (.inr rfl)) (pgs_cons (pg_name (i := 3) s_right.nd rfl (.inr rfl)) pgs_nil))))
      (Evl.pss_cut (ps_if (pt_cmpR op_eq (pe_df R.take (hr.mono (by decide)) (by rfl) (pa_cons (pv 0) (pa_cons pe_int pa_nil))) pe_int (nomark _)) (pss_one (ps_asg (pe_df R.great (hr.mono (by decide)) (by rfl) (pa_cons (pv 0) (pa_cons pe_int pa_nil))) (pg_tup rfl (pgs_cons (pg_name (i := 1) s_right.nd rfl (.inl rfl)) (pgs_cons (pg_name (i := 2) s_right.nd rfl (.inr rfl)) (pgs_cons (pg_name (i := 3) s_right.nd rfl (.inr rfl)) pgs_nil)))))) pss_nil)
      (pss_cons (ps_asg (pv 1) (pg_tup rfl (pgs_cons (pg_name (i := 4) s_right.nd rfl (.inr rfl)) (pgs_cons (pg_name (i := 5) s_right.nd rfl (.inr rfl)) pgs_nil))))
      (pss_cons (ps_asg (pe_tup (pa_cons (pe_callB call_len_seq (by rfl) R.N.len PySem.boot_len (pa_cons (pv 5) pa_nil)) (pa_cons (pe_callB (call_reprD hG hr.units) (by rfl) R.repr bt_repr (pa_cons (pe_lst (pa_cons (pv 1) (pa_cons (pv 2) (pa_cons (pv 3) pa_nil)))) pa_nil)) pa_nil))) (pg_tup rfl (pgs_cons (pg_name (i := 6) s_right.nd rfl (.inr rfl)) (pgs_cons (pg_name (i := 7) s_right.nd rfl (.inl rfl)) pgs_nil))))
      (pss_cons (ps_set (i := 8) s_right.nd rfl (.inl rfl) (pe_ifExp (pt_cmpR op_eq (pv 4) pe_str (nomark _)) (pe_op op_add (pv 6) pe_int) (pv 6)))
      (pss_cons (ps_set (i := 9) s_right.nd rfl (.inl rfl) (pe_tup (pa_cons (pv 4) (pa_cons (pe_tupleOf (by rfl) R.N.tup (pe_lc (own := [("_law_at", 19)]) (g := gName 19) (tt := tYes) (te := tOp (rIxT K) (tVar 5) (tOp (rI0 fun i j => V.int (i - j)) (tOp (rI0 fun i j => V.int (i - j)) (tVar 6) (tC (.int 1))) (tVar 19))) rfl s_right.nd (pi_range1 (by rfl) R.range (pa_cons (pv 6) pa_nil)) (blkOk_by (N := ["_law_box_here", "_law_own", "_law_doors_here", "_law_lies_here", "_law_form", "_law_homes", "_law_size", "_law_kept", "_law_many", "_law_back", "_law_its", "_law_over", "_law_lack", "_law_pond", "_law_some", "_law_ways", "_law_found", "_law_due", "_law_told", "_law_at", "_law_home", "_law_held"]) (sc := defScope (topS 28)) (by decide +kernel)) (fun _ _ _ _ _ => pg_name (i := 19) s_right.nd rfl (.inl rfl)) (fun _ _ _ _ _ => pts_nil) (fun _ _ _ _ _ => pe_ix ix_tup (pv 5) (pe_op op_sub (pe_op op_sub (pv 6) pe_int) (pv 19)) (fun _ _ => rfl)))) pa_nil))))
      (pss_cons (ps_set (i := 10) s_right.nd rfl (.inl rfl) (pe_tupleOf (by rfl) R.N.tup (pe_lc (own := [("_law_at", 19)]) (g := gName 19) (tt := tYes) (te := tOp (rIxT K) (tVar 3) (tOp (rI0 fun i j => V.int (i - j)) (tOp (rI0 fun i j => V.int (i - j)) (tVar 6) (tC (.int 1))) (tVar 19))) rfl s_right.nd (pi_range1 (by rfl) R.range (pa_cons (pv 6) pa_nil)) (blkOk_by (N := ["_law_box_here", "_law_own", "_law_doors_here", "_law_lies_here", "_law_form", "_law_homes", "_law_size", "_law_kept", "_law_many", "_law_back", "_law_its", "_law_over", "_law_lack", "_law_pond", "_law_some", "_law_ways", "_law_found", "_law_due", "_law_told", "_law_at", "_law_home", "_law_held"]) (sc := defScope (topS 28)) (by decide +kernel)) (fun _ _ _ _ _ => pg_name (i := 19) s_right.nd rfl (.inl rfl)) (fun _ _ _ _ _ => pts_nil) (fun _ _ _ _ _ => pe_ix ix_tup (pv 3) (pe_op op_sub (pe_op op_sub (pv 6) pe_int) (pv 19)) (fun _ _ => rfl)))))
      (pss_cons (ps_set (i := 11) s_right.nd rfl (.inl rfl) (pe_tupleOf (by rfl) R.N.tup (pe_lc (own := [("_law_at", 19)]) (g := gName 19) (tt := tYes) (te := tOp (rIxT K) (tVar 2) (tIf (tTest (tOp rEq (tVar 4) (tC (.str "row")))) (tOp (rI0 fun i j => V.int (i - j)) (tVar 6) (tVar 19)) (tOp (rI (fun x j => 0 < j) fun i j => V.int (i % j)) (tOp (rI0 fun i j => V.int (i - j)) (tVar 6) (tVar 19)) (tVar 6)))) rfl s_right.nd (pi_range1 (by rfl) R.range (pa_cons (pv 8) pa_nil)) (blkOk_by (N := ["_law_box_here", "_law_own", "_law_doors_here", "_law_lies_here", "_law_form", "_law_homes", "_law_size", "_law_kept", "_law_many", "_law_back", "_law_its", "_law_over", "_law_lack", "_law_pond", "_law_some", "_law_ways", "_law_found", "_law_due", "_law_told", "_law_at", "_law_home", "_law_held"]) (sc := defScope (topS 28)) (by decide +kernel)) (fun _ _ _ _ _ => pg_name (i := 19) s_right.nd rfl (.inl rfl)) (fun _ _ _ _ _ => pts_nil) (fun _ _ _ _ _ => pe_ix ix_tup (pv 2) (pe_ifExp (pt_cmpR op_eq (pv 4) pe_str (nomark _)) (pe_op op_sub (pv 6) (pv 19)) (pe_op op_mod (pe_op op_sub (pv 6) (pv 19)) (pv 6))) (fun _ _ => rfl)))))
      (pss_cons (ps_set (i := 12) s_right.nd rfl (.inl rfl) (pe_tupleOf (by rfl) R.N.tup (pe_lc (own := [("_law_home", 20), ("_law_held", 21)]) (g := gTup K 2 (gCons (gName 20) (gCons (gName 21) gNil))) (tt := tYes) rfl s_right.nd (RZ.pi_zipA (by rfl) R.N.zip (pa_cons (pv 5) (pa_cons (pv 3) pa_nil))) (blkOk_by (N := ["_law_box_here", "_law_own", "_law_doors_here", "_law_lies_here", "_law_form", "_law_homes", "_law_size", "_law_kept", "_law_many", "_law_back", "_law_its", "_law_over", "_law_lack", "_law_pond", "_law_some", "_law_ways", "_law_found", "_law_due", "_law_told", "_law_at", "_law_home", "_law_held"]) (sc := defScope (topS 28)) (by decide +kernel)) (fun _ _ _ _ _ => pg_tup rfl (pgs_cons (pg_name (i := 20) s_right.nd rfl (.inl rfl)) (pgs_cons (pg_name (i := 21) s_right.nd rfl (.inl rfl)) pgs_nil))) (fun _ _ _ _ _ => pts_nil) (fun _ _ _ _ _ => pe_op op_sub (pv 20) (pv 21)))))
      (Evl.pss_cut (ps_for PassesOwn.never rfl (pi_tup (pe_tup (pa_cons (pe_tup (pa_cons (pv 1) (pa_cons (pv 3) (pa_cons (pv 2) pa_nil)))) (pa_cons (pe_tup (pa_cons (pe_df R.lists (hr.mono (by decide)) (by rfl) (pa_cons (pv 1) pa_nil)) (pa_cons (pe_callTy call_list_of (by rfl) R.N.lst bt_lst (pa_cons (pv 3) pa_nil)) (pa_cons (pe_callTy call_list_of (by rfl) R.N.lst bt_lst (pa_cons (pv 2) pa_nil)) pa_nil)))) pa_nil)))) (pg_tup rfl (pgs_cons (pg_name (i := 13) s_right.nd rfl (.inl rfl)) (pgs_cons (pg_name (i := 14) s_right.nd rfl (.inl rfl)) (pgs_cons (pg_name (i := 15) s_right.nd rfl (.inl rfl)) pgs_nil)))) (pss_cons (ps_set (i := 16) s_right.nd rfl (.inl rfl) (pe_lst (pa_cons (pe_df R.gates.df (hr.mono (by decide)) (by rfl) (pa_cons (pv 13) pa_nil)) (pa_cons (pe_df R.bare (hr.mono (by decide)) (by rfl) (pa_cons (pv 13) pa_nil)) (pa_cons (pe_df R.full (hr.mono (by decide)) (by rfl) (pa_cons (pv 13) pa_nil)) (pa_cons (pe_df R.lacking.df (hr.mono (by decide)) (by rfl) (pa_cons (pv 13) (pa_cons (pv 14) pa_nil))) (pa_cons (pe_df R.turnedLine (hr.mono (by decide)) (by rfl) (pa_cons (pv 13) pa_nil)) pa_nil)))))))
      (pss_cons (ps_set (i := 16) s_right.nd rfl (.inl rfl) (pe_op op_cat (pv 16) (pe_lst (pa_cons (pe_df R.turned.df (hr.mono (by decide)) (by rfl) (pa_cons (pv 13) (pa_cons (pv 14) pa_nil))) (pa_cons (pe_df R.turnedWidths.df (hr.mono (by decide)) (by rfl) (pa_cons (pv 13) (pa_cons (pv 15) pa_nil))) (pa_cons (pe_dfk R.lacking (hr.mono (by decide)) (by rfl) vals_rev2 (pk_cons (pv 14) (pk_cons (pv 13) pk_nil))) pa_nil))))))
      (pss_cons (ps_set (i := 16) s_right.nd rfl (.inl rfl) (pe_op op_cat (pv 16) (pe_lst (pa_cons (pe_dfk R.turned (hr.mono (by decide)) (by rfl) vals_rev2 (pk_cons (pv 14) (pk_cons (pv 13) pk_nil))) (pa_cons (pe_dfk R.turnedWidths (hr.mono (by decide)) (by rfl) vals_rev2 (pk_cons (pv 15) (pk_cons (pv 13) pk_nil))) (pa_cons (pe_dfk R.gates (hr.mono (by decide)) (by rfl) (fun h => h) (pk_cons (pv 13) pk_nil)) pa_nil))))))
      (pss_cons (ps_set (i := 17) s_right.nd rfl (.inl rfl) (pe_lst (pa_cons (pv 8) (pa_cons (pe_op (op_or op_repT op_rep1) (pe_tup (pa_cons pe_int pa_nil)) (pv 6)) (pa_cons (pv 5) (pa_cons (pv 12) (pa_cons (pv 9) (pa_cons (pv 10) (pa_cons (pv 11) (pa_cons (pv 12) (pa_cons (pv 10) (pa_cons (pv 11) (pa_cons (pv 8) pa_nil)))))))))))))
      (pss_one (ps_if (pt_not (pt_val (pe_df R.same (hr.mono (by decide)) (by rfl) (pa_cons (pv 16) (pa_cons (pv 17) pa_nil))))) (pss_one (ps_ret pe_bl)) pss_nil)))))))
      (pss_cons (ps_set (i := 16) s_right.nd rfl (.inl rfl) (pe_lst (pa_cons (pe_df R.turnedLine (hr.mono (by decide)) (by rfl) (pa_cons (pv 9) pa_nil)) (pa_cons (pe_df R.turned.df (hr.mono (by decide)) (by rfl) (pa_cons (pv 9) (pa_cons (pv 10) pa_nil))) (pa_cons (pe_df R.turnedWidths.df (hr.mono (by decide)) (by rfl) (pa_cons (pv 9) (pa_cons (pv 11) pa_nil))) (pa_cons (pe_df R.lacking.df (hr.mono (by decide)) (by rfl) (pa_cons (pv 1) (pa_cons (pv 12) pa_nil))) pa_nil))))))
      (pss_cons (ps_if (pw_or (pt_not (pt_val (pe_df R.same (hr.mono (by decide)) (by rfl) (pa_cons (pv 16) (pa_cons (pe_lst (pa_cons (pv 1) (pa_cons (pv 3) (pa_cons (pv 2) (pa_cons (pv 3) pa_nil))))) pa_nil))))) (pw_or1 (pt_cmpR op_ne (pe_callB (call_reprD hG hr.units) (by rfl) R.repr bt_repr (pa_cons (pe_lst (pa_cons (pv 1) (pa_cons (pv 2) (pa_cons (pv 3) pa_nil)))) pa_nil)) (pv 7) (nomark _)))).pt (pss_one (ps_ret pe_bl)) pss_nil)
      (pss_cons (ps_set (i := 18) s_right.nd rfl (.inl rfl) (pe_lst (pa_cons (pe_df R.isLine (hr.mono (by decide)) (by rfl) (pa_cons (pv 9) pa_nil)) (pa_cons (pe_df R.isStanding (hr.mono (by decide)) (by rfl) (pa_cons (pv 9) (pa_cons (pv 10) pa_nil))) (pa_cons (pe_df R.isWidths (hr.mono (by decide)) (by rfl) (pa_cons (pv 9) (pa_cons (pv 11) pa_nil))) (pa_cons (pe_df R.isStanding (hr.mono (by decide)) (by rfl) (pa_cons (pv 1) (pa_cons (pv 12) pa_nil))) pa_nil))))))
      (pss_one (ps_ret (pe_cmpR (op_eqD hr.units) (pe_op op_cat (pv 18) (pe_lst (pa_cons (pe_df R.isStanding (hr.mono (by decide)) (by rfl) (pa_cons (pv 1) (pa_cons (pv 5) pa_nil))) pa_nil))) (pe_op op_rep (pe_lst (pa_cons pe_bl pa_nil)) pe_int) (nomark _)))))))))))))))))), ?_⟩
    refine ⟨_, rfl, b, m, 7, rfl, hb, by omega, by decide, by decide, fun vo1 H1 row1 rooms1 k1 b1 hL1 hn1 hn2 hp1 => ?_⟩
    have hi1 : rooms1.length ≤ 7 := by omega
    refine ⟨_, rfl, _, rfl, b, _, vo1, row1, rooms1, rfl, b1, by omega, hL1, hi1, fun vd1 H2 ws1 k2 b2 hT1 hw1 hwp1 => ?_⟩
    refine ⟨_, rfl, _, rfl, b, _, vo1, row1, rooms1, rfl, b2, by omega, hL1.kp b1 k2, hi1, hp1, fun vl1 H3 held1 k3 b3 hT2 hf1 => ?_⟩
    have ld1 : Ld K H3 vo1 vd1 vl1 row1 rooms1 ws1 held1 := ⟨(hL1.kp b1 k2).kp b2 k3, hn1, hi1, hp1, hT1.kp b2 k3, hw1, hwp1, hT2, hf1⟩
    refine ⟨two_size, fun t3 n3 => ⟨t3, _, rfl, .inl (.inl upd_same), rfl, _, _, rfl, _, [], rfl, rfl, ?_⟩⟩
    have x4 := Evl.Ex.new (o := .tup [vd1, vl1]) n3
    have b4 := b3.ex x4
    have k4 := ((k1.trans k2).trans k3).trans (Kp.ex x4)
    refine ⟨fun σ' H' => ∃ (vo vd vl : V) (row : Bool) (rooms held : List Int) (ws : List (Option Int)), σ' = [some (.ref b), some vo, some vd, some vl, none, none, none, none, none, none, none, none, none, none, none, none, none, none, none, none, none, none] ∧
      Kp b H H' ∧ Bx H' b (m + 180) ∧ Ld K H' vo vd vl row rooms ws held, ?_, fun σ' H' hmid => ?_⟩
    · refine ⟨_, rfl, ?_⟩
      dsimp only [tNil, tC, tCons]
      refine takeR b4 (by omega) (by decide) (by decide) fun e H5 e0 e1 k5 b5 => ?_
      refine ⟨rfl, _, rfl, ite2 (fun _ => ?_) (fun _ => ?_)⟩
      · refine ⟨_, rfl, b, _, rfl, b5, by omega, fun t H6 vo vd vl row rooms held ws k6 b6 hS hL h1 h2 h3 hD hdn hdp hl hf => ?_⟩
        refine ⟨t, _, rfl, hS, rfl, _, _, rfl, _, _, rfl, _, [], rfl, rfl, ?_⟩
        exact ⟨vo, vd, vl, row, rooms, held, ws, rfl, (k4.trans k5).trans k6, b6.le (by omega), ⟨hL, h1, h2, h3, hD, hdn, hdp, hl, hf⟩⟩
      · have l4 := ld1.mono x4
        exact ⟨vo1, vd1, vl1, row1, rooms1, held1, ws1, rfl, k4.trans k5, b5.le (by omega), ⟨l4.ln.kp b4 k5, l4.lo, l4.hi, l4.rm, l4.dr.kp b4 k5, l4.dn, l4.dp, l4.ly.kp b4 k5, l4.ft⟩⟩
    obtain ⟨vo, vd, vl, row, rooms, held, ws, rfl, kH, bH, ld⟩ := hmid
    obtain ⟨ao, ar, rfl, hao, har⟩ := ld.ln
    obtain ⟨ad, rfl, had⟩ := ld.dr
    obtain ⟨al, rfl, hal⟩ := ld.ly
    have hpos := ld.pos
    have hhi := ld.hi
    have hwl := ld.wlen
    have hdn := ld.dn
    have hfl := ld.ft.1
    obtain ⟨n, en⟩ : ∃ n, n = rooms.length := ⟨_, rfl⟩
    refine ⟨_, rfl, ao, _, rfl, hao, rfl, _, _, rfl, _, [], rfl, rfl, ?_⟩
    refine ⟨_, rfl, ar, _, rfl, .inr har, ?_⟩
    refine ⟨_, rfl, _, rfl, _, rfl, show 3 ≤ sizeLine by decide, fun l5 n5 => ?_⟩
    have x5 := Evl.Ex.new (o := .lst [.ref ao, .ref ad, .ref al]) n5
    obtain ⟨z1, z2, z3, z4⟩ := ld.sizes
    refine ⟨l5, _, rfl, (ld.mono x5).data upd_same, z1, z2, z3, z4, two_size, fun t5 nt5 => ?_⟩
    have x6 := x5.trans (Evl.Ex.new (o := .tup [.int (((rooms.map V.int).length : Nat) : Int), .str (dAll row rooms ws held).shown]) nt5)
    refine ⟨t5, _, rfl, .inl (.inl upd_same), rfl, _, _, rfl, _, [], rfl, rfl, ?_⟩
    have eln : (((rooms.map V.int).length : Nat) : Int) = (n : Nat) := by rw [List.length_map, en]
    rw [eln] at x6 ⊢
    generalize (upd (upd H' l5 (.lst [.ref ao, .ref ad, .ref al])) t5 (.tup [.int (n : Nat), .str (dAll row rooms ws held).shown])) = H6 at x6 ⊢
    dsimp only
    refine Evl.q_asg (v := .int (gts row n)) (fun H1 e1 Q1 q1 => ?_) fun H7 x7 => ?_
    · refine ⟨_, rfl, rfl, _, rfl, ?_⟩
      rw [fT_row]
      cases row with
      | true => exact iteT ⟨_, rfl, _, 1, rfl, rfl, q1 _ (Evl.Ex.refl _)⟩
      | false => exact iteF ⟨_, rfl, q1 _ (Evl.Ex.refl _)⟩
    have e7 := x6.trans x7
    have l7 := ld.mono e7
    have har7 : SqT K H7 ar (rooms.map V.int) := Evl.ex_t e7 har
    have hal7 : SqT K H7 al (held.map V.int) := Evl.ex_t e7 hal
    have had7 : SqT K H7 ad (ws.map vO) := Evl.ex_t e7 had
    have pk1 : ∀ (l : List V) (j : Nat) (ax : Addr) (σ : L2.St) (H8 : Hp) (i : Nat) (Q' : VK), l.length = n → i < n → SqT K H8 ax l → σ[j]? = some (some (.ref ax)) → σ[6]? = some (some (.int (n : Nat))) → σ[19]? = some (some (.int (i : Nat))) →
        (∀ v, l.reverse[i]? = some v → Q' v H8) → tOp (rIxT K) (tVar j) (tOp (rI0 fun i j => V.int (i - j)) (tOp (rI0 fun i j => V.int (i - j)) (tVar 6) (tC (.int 1))) (tVar 19)) σ H8 Q' := fun l j ax σ H8 i Q' hl hi hS h1 h2 h3 k => by
      have lt : n - 1 - i < l.length := by omega
      have gv : l[n - 1 - i]? = some l[n - 1 - i] := List.getElem?_eq_getElem lt
      refine ⟨_, h1, _, h2, (n : Nat), 1, rfl, rfl, _, h3, _, (i : Nat), rfl, rfl, ax, l, _, l[n - 1 - i], rfl, rfl, hS, at_of (j := n - 1 - i) (by omega) gv, k _ ?_⟩
      rw [← rev_pick hl hi]
      exact gv
    refine ⟨_, rfl, lc_pick (j := 6) (n := n) (rooms.map V.int).reverse (by rw [List.length_reverse, List.length_map, en]) (by omega) rfl (fun _ => rfl) (fun i H8 e8 hi Q' k => pk1 (rooms.map V.int) 5 ar _ H8 i Q' (by rw [List.length_map, en]) hi (Evl.ex_t e8 har7) rfl rfl rfl k) fun p9 H9 x9 hp9 => ?_⟩
    refine ⟨two_size, fun t9 nt9 => ?_⟩
    have x9' := x9.trans (Evl.Ex.new (o := .tup [.str (fT row), .ref p9]) nt9)
    have lb : LnV K true (upd H9 t9 (.tup [.str (fT row), .ref p9])) (.ref t9) row rooms.reverse := ⟨t9, p9, rfl, .inl (.inl upd_same), .inl (.inl (by rw [carry hp9 nt9, List.map_reverse]))⟩
    generalize (upd H9 t9 (.tup [.str (fT row), .ref p9])) = H10 at x9' lb ⊢
    have hal10 := Evl.ex_t x9' hal7
    refine lc_pick (j := 6) (n := n) (held.map V.int).reverse (by rw [List.length_reverse, List.length_map, hfl, en]) (by omega) rfl (fun _ => rfl) (fun i H8 e8 hi Q' k => pk1 (held.map V.int) 3 al _ H8 i Q' (by rw [List.length_map, hfl, en]) hi (Evl.ex_t e8 hal10) rfl rfl rfl k) fun p10 H11 x11 hp10 => ?_
    have ti : TpV K true H11 (.ref p10) (held.reverse.map V.int) := ⟨p10, rfl, .inl (.inl (by rw [hp10, List.map_reverse]))⟩
    have had11 := Evl.ex_t (x9'.trans x11) had7
    refine lc_pick (j := 8) (n := ws.length) ((abO row ws).map vO) (by rw [List.length_map, abO_len]) (by omega) (by rw [hdn, ← en]; rfl) (fun _ => rfl) (fun i H8 e8 hi Q' k => ?_) fun p11 H12 x12 hp11 => ?_
    · have key : ∀ (j : Nat) (z : Int), j < ws.length → z = (j : Int) → (abO row ws)[i]? = ws[j]? → ∃ v, atI (ws.map vO) z = some v ∧ ((abO row ws).map vO)[i]? = some v := fun j z hj hz ha => by
        have gv : (ws.map vO)[j]? = some (vO ws[j]) := by rw [List.getElem?_map, List.getElem?_eq_getElem hj]; rfl
        refine ⟨_, at_of hz gv, ?_⟩
        rw [List.getElem?_map, ha, List.getElem?_eq_getElem hj]
        rfl
      refine ⟨_, rfl, _, rfl, rfl, _, rfl, ?_⟩
      rw [fT_row]
      cases row with
      | true =>
        have hw1 : ws.length = n + 1 := by
          simp [gts] at hdn
          omega
        obtain ⟨v, hv1, hv2⟩ := key (n - i) ((n : Int) - (i : Int)) (by omega) (by omega) (abO_row hw1 (by omega))
        exact iteT ⟨_, rfl, _, rfl, (n : Nat), (i : Nat), rfl, rfl, ad, _, _, v, rfl, rfl, Evl.ex_t e8 had11, hv1, k v hv2⟩
      | false =>
        have hw1 : ws.length = n := by
          simp [gts] at hdn
          omega
        obtain ⟨v, hv1, hv2⟩ := key ((n - i) % n) (((n : Int) - (i : Int)) % (n : Int)) (by rw [hw1]; exact Nat.mod_lt _ (by omega)) (by rw [Int.natCast_emod]; congr 1; omega) (abO_ring hw1 (by omega) (by omega))
        exact iteF ⟨_, rfl, _, rfl, (n : Nat), (i : Nat), rfl, rfl, _, rfl, _, (n : Nat), rfl, rfl, (by show (0 : Int) < (n : Nat); omega), ad, _, _, v, rfl, rfl, Evl.ex_t e8 had11, hv1, k v hv2⟩
    have tov : TpV K true H12 (.ref p11) ((abO row ws).map vO) := ⟨p11, rfl, .inl (.inl hp11)⟩
    have e12 := (x9'.trans x11).trans x12
    have har12 := Evl.ex_t e12 har7
    have hal12 := Evl.ex_t e12 hal7
    refine ⟨_, rfl, _, rfl, ar, al, rooms.map V.int, held.map V.int, rfl, .inr ⟨har12, hal12, fun D nD => lc_it (walk_zipT (xs := rooms.map V.int) (ys := held.map V.int) rfl)
      (fun i H8 => Evl.Ex H12 H8 ∧ H8 D = some (.lst (((less held rooms).take i).map V.int))) ⟨Evl.Ex.new nD, upd_same⟩ (fun i H8 _ pe => ⟨Evl.ex_t pe.1 har12, Evl.ex_t pe.1 hal12⟩) (fun i x H8 H9 hi pe y => ?_) (fun H13 pe => ?_)⟩⟩
    · obtain ⟨T, x1, x2, rfl, nT, rfl, e1, e2⟩ := y
      obtain ⟨r0, rfl, g1⟩ := int_at e1
      obtain ⟨h0, rfl, g2⟩ := int_at e2
      rw [List.length_map, List.length_map] at hi
      refine ⟨T, _, rfl, .inl (.inl upd_same), rfl, _, _, rfl, _, [], rfl, rfl, rfl, ?_⟩
      unfold tYes
      dsimp only
      rw [if_pos rfl]
      refine ⟨_, rfl, _, rfl, r0, h0, rfl, rfl, _, carry pe.2 nT, ?_, Evl.Ex.mut (pe.1.trans (Evl.Ex.new nT)) nD, ?_⟩
      · rw [List.length_map, List.length_take]
        exact Evl.sz_lt (by omega)
      · rw [upd_same, List.take_add_one, less_at held rooms i h0 r0 g2 g1, List.map_append]
        rfl
    have ll := less_len held rooms
    have pe2 : H13 D = some (.lst ((less held rooms).map V.int)) := by
      have z := pe.2
      rw [List.length_map, List.length_map, List.take_of_length_le (by omega)] at z
      exact z
    refine .inl ⟨D, _, rfl, .inl (.inl pe2), fun p12 n12 => ?_⟩
    have x14 := pe.1.trans (Evl.Ex.new (o := .tup ((less held rooms).map V.int)) n12)
    have tlk : TpV K true (upd H13 p12 (.tup ((less held rooms).map V.int))) (.ref p12) ((less held rooms).map V.int) := ⟨p12, rfl, .inl (.inl upd_same)⟩
    generalize (upd H13 p12 (.tup ((less held rooms).map V.int))) = HB at x14 tlk ⊢
    have lB := l7.mono (e12.trans x14)
    have lbB := lb.mono ((x11.trans x12).trans x14)
    have tiB := ti.mono (x12.trans x14)
    have tovB := tov.mono x14
    have kB : Evl.Ex H' HB := (e7.trans e12).trans x14
    clear pe pe2 x14 tov ti lb e12 har12 hal12 had11 hal10 x11 x12 x9' x9 hp9 hp10 hp11 x7 x6 x5
    refine ⟨fun σ' H' => ∃ (y13 y14 y15 y16 y17 : Option V), σ' = [some (.ref b), some (.ref ao), some (.ref ad), some (.ref al), some (.str (fT row)), some (.ref ar), some (.int (n : Nat)), some (.str (dAll row rooms ws held).shown), some (.int (gts row n)),
      some (.ref t9), some (.ref p10), some (.ref p11), some (.ref p12), y13, y14, y15, y16, y17, none, none, none, none] ∧ Evl.Ex HB H', ?_, fun σ' HC hmid => ?_⟩
    · subst en
      refine ⟨_, rfl, _, rfl, _, rfl, show 3 ≤ sizeLine by decide, fun t1 n1 => ?_⟩
      have y1 := Evl.Ex.new (o := .tup [.ref ao, .ref al, .ref ad]) n1
      refine ⟨_, rfl, .ref ao, row, rooms, rfl, (lB.mono y1).ln, by omega, fun vq H2 y2 hq => ?_⟩
      have y12 := y1.trans y2
      obtain ⟨al', eal, hal2⟩ := (lB.mono y12).ly
      cases eal
      refine ⟨_, rfl, al, _, rfl, .inr hal2, fun l2 nl2 => ?_⟩
      have y3 := Evl.Ex.new (o := .lst (held.map V.int)) nl2
      obtain ⟨ad', ead, had3⟩ := (lB.mono (y12.trans y3)).dr
      cases ead
      refine ⟨_, rfl, ad, _, rfl, .inr had3, fun l3 nl3 => ?_⟩
      have y4 := Evl.Ex.new (o := .lst (ws.map vO)) nl3
      refine ⟨show 3 ≤ sizeLine by decide, fun t2 n2 => ?_⟩
      have y5 := Evl.Ex.new (o := .tup [vq, .ref l2, .ref l3]) n2
      refine ⟨two_size, fun t n => ?_⟩
      have y6 := Evl.Ex.new (o := .tup [.ref t1, .ref t2]) n
      have y26 := ((y3.trans y4).trans y5).trans y6
      have y16 := y12.trans y26
      have st1 := y26 _ _ (y2 _ _ (show (upd HB t1 (.tup [.ref ao, .ref al, .ref ad])) t1 = some (.tup [.ref ao, .ref al, .ref ad]) from upd_same))
      have st2 : (upd (upd (upd (upd H2 l2 (.lst (held.map V.int))) l3 (.lst (ws.map vO))) t2 (.tup [vq, .ref l2, .ref l3])) t (.tup [.ref t1, .ref t2])) t2 = some (.tup [vq, .ref l2, .ref l3]) := y6 _ _ upd_same
      have sl2 := ((y4.trans y5).trans y6) _ _ (show (upd H2 l2 (.lst (held.map V.int))) l2 = some (.lst (held.map V.int)) from upd_same)
      have sl3 := (y5.trans y6) _ _ (show (upd (upd H2 l2 (.lst (held.map V.int))) l3 (.lst (ws.map vO))) l3 = some (.lst (ws.map vO)) from upd_same)
      have sq := hq.mono y26
      have stt : (upd (upd (upd (upd H2 l2 (.lst (held.map V.int))) l3 (.lst (ws.map vO))) t2 (.tup [vq, .ref l2, .ref l3])) t (.tup [.ref t1, .ref t2])) t = some (.tup [.ref t1, .ref t2]) := upd_same
      have lT := lB.mono y16
      obtain ⟨HT, eHT⟩ : ∃ HT, (upd (upd (upd (upd H2 l2 (.lst (held.map V.int))) l3 (.lst (ws.map vO))) t2 (.tup [vq, .ref l2, .ref l3])) t (.tup [.ref t1, .ref t2])) = HT := ⟨_, rfl⟩
      rw [eHT] at y16 st1 st2 sl2 sl3 sq stt lT ⊢
      refine ⟨t, rfl, ⟨_, .inl (.inl stt)⟩, for_it (walk_tup (xs := [.ref t1, .ref t2])) (fun i σ H' => ∃ (y13 y14 y15 y16 y17 : Option V), σ = [some (.ref b), some (.ref ao), some (.ref ad), some (.ref al), some (.str (fT row)), some (.ref ar), some (.int (rooms.length : Nat)), some (.str (dAll row rooms ws held).shown), some (.int (gts row rooms.length)), some (.ref t9), some (.ref p10), some (.ref p11), some (.ref p12), y13, y14, y15, y16, y17, none, none, none, none] ∧ Evl.Ex HT H')
        ⟨none, none, none, none, none, rfl, Evl.Ex.refl _⟩ (fun i σ H' _ h => ?_) (fun i x σ H7 H8 hi h y => ?_) (fun σ H' h => ?_)⟩
      · obtain ⟨y13, y14, y15, y16', y17, rfl, y7⟩ := h
        exact .inl (.inl (y7 _ _ stt))
      · obtain ⟨y13, y14, y15, y16', y17, rfl, y7⟩ := h
        obtain ⟨rfl, ex⟩ := y
        have got : ∃ (tt : Addr) (bk : Bool) (vp vs vw : V), x = .ref tt ∧ SqT K H8 tt [vp, vs, vw] ∧ LnV K bk H8 vp row rooms ∧ TpV K bk H8 vs (held.map V.int) ∧ TpV K bk H8 vw (ws.map vO) := by
          have l8 := lT.mono y7
          match i, ex with
          | 0, ex =>
            cases ex
            exact ⟨t1, true, _, _, _, rfl, .inl (.inl (y7 _ _ st1)), l8.ln, l8.ly, l8.dr⟩
          | 1, ex =>
            cases ex
            exact ⟨t2, false, _, _, _, rfl, .inl (.inl (y7 _ _ st2)), sq.mono y7, ⟨l2, rfl, .inl (.inl (y7 _ _ sl2))⟩, ⟨l3, rfl, .inl (.inl (y7 _ _ sl3))⟩⟩
        obtain ⟨tt, bk, vp, vs, vw, rfl, stt8, L8, S8, W8⟩ := got
        have hB8 := y16.trans y7
        have l8 := lB.mono hB8
        refine ⟨tt, _, rfl, stt8, rfl, _, _, rfl, _, _, rfl, _, [], rfl, rfl, ?_⟩
        refine ⟨_, rfl, bk, vp, row, rooms, rfl, L8, ?_⟩
        refine ⟨_, rfl, bk, vp, row, rooms, rfl, L8, hpos, by omega, fun u1 G1 e1 r1 => ?_⟩
        refine ⟨_, rfl, bk, vp, row, rooms, rfl, L8.mono e1, fun u2 G2 e2 r2 => ?_⟩
        have f2 := e1.trans e2
        refine ⟨_, rfl, _, rfl, bk, vp, vs, row, rooms, held, rfl, L8.mono f2, S8.mono f2, hfl, by omega, fun u3 G3 e3 r3 => ?_⟩
        have f3 := f2.trans e3
        refine ⟨_, rfl, bk, vp, row, rooms, rfl, L8.mono f3, hpos, by omega, fun u4 G4 e4 r4 => ?_⟩
        refine ⟨show 5 ≤ sizeLine by decide, fun c1 nc1 => ?_⟩
        have e5 := Evl.Ex.new (o := .lst [.int (gts row rooms.length), u1, u2, u3, u4]) nc1
        have f5 := (f3.trans e4).trans e5
        refine ⟨_, rfl, _, rfl, _, rfl, bk, vp, vs, held.map V.int, rfl, S8.mono f5, by rw [List.length_map]; omega, by rw [List.length_map]; omega, fun u5 G6 e6 r5 => ?_⟩
        have f6 := f5.trans e6
        refine ⟨_, rfl, _, rfl, bk, vp, vw, row, rooms, ws.map vO, rfl, L8.mono f6, W8.mono f6, by rw [List.length_map]; omega, by rw [List.length_map]; omega, fun u6 G7 e7' r6 => ?_⟩
        have f7 := f6.trans e7'
        refine ⟨_, rfl, _, rfl, rfl, bk, vp, vs, row, rooms, held, rfl, L8.mono f7, S8.mono f7, hfl, by omega, fun u7 G8 e8 r7 => ?_⟩
        refine ⟨show 3 ≤ sizeLine by decide, fun c2 nc2 => ?_⟩
        have e9 := Evl.Ex.new (o := .lst [u5, u6, u7]) nc2
        refine ⟨c1, c2, _, _, rfl, rfl, e9 _ _ (e8 _ _ (e7' _ _ (e6 _ _ upd_same))), upd_same, show 8 ≤ sizeLine by decide, fun c3 nc3 => ?_⟩
        have e10 := Evl.Ex.new (o := .lst [.int (gts row rooms.length), u1, u2, u3, u4, u5, u6, u7]) nc3
        have f10 := ((f7.trans e8).trans e9).trans e10
        refine ⟨_, rfl, _, rfl, _, rfl, rfl, bk, vp, vs, held.map V.int, rfl, S8.mono f10, by rw [List.length_map]; omega, by rw [List.length_map]; omega, fun u8 G11 e11 r8 => ?_⟩
        have f11 := f10.trans e11
        refine ⟨_, rfl, _, rfl, rfl, bk, vp, vw, row, rooms, ws.map vO, rfl, L8.mono f11, W8.mono f11, by rw [List.length_map]; omega, by rw [List.length_map]; omega, fun u9 G12 e12 r9 => ?_⟩
        have f12 := f11.trans e12
        refine ⟨_, rfl, rfl, bk, vp, row, rooms, rfl, L8.mono f12, ?_⟩
        refine ⟨show 3 ≤ sizeLine by decide, fun c4 nc4 => ?_⟩
        have e13 := Evl.Ex.new (o := .lst [u8, u9, .int (gts row rooms.length)]) nc4
        refine ⟨c3, c4, _, _, rfl, rfl, e13 _ _ (e12 _ _ (e11 _ _ upd_same)), upd_same, show 11 ≤ sizeLine by decide, fun c5 nc5 => ?_⟩
        have e14 := Evl.Ex.new (o := .lst [.int (gts row rooms.length), u1, u2, u3, u4, u5, u6, u7, u8, u9, .int (gts row rooms.length)]) nc5
        have g14 := e13.trans e14
        have f14 := f12.trans g14
        have g12 := e12.trans g14
        have g11 := e11.trans g12
        have g10 := (e9.trans e10).trans g11
        have g8 := e8.trans g10
        have g7 := e7'.trans g8
        have g6 := e6.trans g7
        have g5 := e5.trans g6
        have R1 := r1.mono (((e2.trans e3).trans e4).trans g5)
        have R2 := r2.mono ((e3.trans e4).trans g5)
        have R3 := r3.mono (e4.trans g5)
        have R4 := r4.mono g5
        have R5 := r5.mono g7
        have R6 := r6.mono g8
        have R7 := r7.mono g10
        have R8 := r8.mono g12
        have R9 := r9.mono g14
        refine ⟨_, rfl, zer_read rfl hpos (by omega) fun u10 G16 e16 r10 => ?_⟩
        have lE := l8.mono (f14.trans e16)
        have hBE := (hB8.trans f14).trans e16
        obtain ⟨ao', ar', eao, hao', har'⟩ := lE.ln
        refine ⟨_, rfl, _, rfl, _, rfl, _, rfl, _, rfl, _, rfl, _, rfl, _, rfl, _, rfl, show 11 ≤ sizeLine by decide, fun c6 nc6 => ?_⟩
        have e17 := Evl.Ex.new (o := .lst [.int (gts row rooms.length), u10, .ref ar, .ref p12, .ref t9, .ref p10, .ref p11, .ref p12, .ref p10, .ref p11, .int (gts row rooms.length)]) nc6
        have har17 := Evl.ex_t (((kB.trans hBE).trans e17)) har
        have h17 := hBE.trans e17
        rw [rep_ints] at R1
        rw [← List.map_reverse] at R5 R8
        rw [about_map] at R6 R9
        have z16 := e16.trans e17
        refine ⟨_, rfl, _, rfl, .ref c5, .ref c6, .list [.int (gts row rooms.length), .tuple ((List.replicate rooms.length (0 : Int)).map PyData.int), .tuple (rooms.map PyData.int), .tuple ((less held rooms).map PyData.int), dL row rooms.reverse, .tuple (held.reverse.map PyData.int), .tuple ((abO row ws).map dO), .tuple ((less held rooms).map PyData.int), .tuple (held.reverse.map PyData.int), .tuple ((abO row ws).map dO), .int (gts row rooms.length)], rfl,
          .lst (.inl (.inl (z16 _ _ upd_same))) (.cons (.int _) (.cons (R1.mono z16).ints (.cons (R2.mono z16).ints (.cons (R3.mono z16).ints (.cons (R4.mono z16).dp (.cons (R5.mono z16).ints (.cons (R6.mono z16).opts (.cons (R7.mono z16).ints (.cons (R8.mono z16).ints (.cons (R9.mono z16).opts (.cons (.int _) .nil))))))))))),
          .lst (.inl (.inl upd_same)) (.cons (.int _) (.cons (r10.mono e17).ints (.cons (.tup har17 (dp_ints rooms)) (.cons (tlk.mono h17).ints (.cons (lbB.mono h17).dp (.cons (tiB.mono h17).ints (.cons (tovB.mono h17).opts (.cons (tlk.mono h17).ints (.cons (tiB.mono h17).ints (.cons (tovB.mono h17).opts (.cons (.int _) .nil))))))))))),
          shal_lst 2 _ (show 11 ≤ 1000 by decide) (fm (shal_int _ _) (fm (shal_ints 1 _ (by rw [List.length_replicate]; omega)) (fm (shal_ints 1 _ (by omega)) (fm (shal_ints 1 _ (by omega)) (fm (shal_line 0 _ _ (by rw [List.length_reverse]; omega)) (fm (shal_ints 1 _ (by rw [List.length_reverse]; omega)) (fm (shal_opts 1 _ (by rw [abO_len]; omega)) (fm (shal_ints 1 _ (by omega)) (fm (shal_ints 1 _ (by rw [List.length_reverse]; omega)) (fm (shal_opts 1 _ (by rw [abO_len]; omega)) (fm (shal_int _ _) fn0))))))))))), fun G18 e18 => ?_⟩
        refine ⟨_, rfl, ifN rfl ?_⟩
        exact ⟨_, _, _, _, _, rfl, y7.trans ((f14.trans z16).trans e18)⟩
      · obtain ⟨y13, y14, y15, y16', y17, rfl, y7⟩ := h
        exact ⟨_, _, _, _, _, rfl, y16.trans y7⟩
    · subst en
      obtain ⟨y13, y14, y15, y16, y17, rfl, xC⟩ := hmid
      have lC := lB.mono xC
      have lbC := lbB.mono xC
      have tiC := tiB.mono xC
      have tovC := tovB.mono xC
      have tlkC := tlk.mono xC
      have lrev : rooms.reverse.length = rooms.length := List.length_reverse
      have hrev : held.reverse.length = held.length := List.length_reverse
      have alen := abO_len row ws
      refine ⟨_, rfl, true, _, row, rooms.reverse, rfl, lbC, by omega, by omega, fun u1 G1 e1 r1 => ?_⟩
      refine ⟨_, rfl, _, rfl, true, _, _, held.reverse.map V.int, rfl, tiC.mono e1, by rw [List.length_map]; omega, by rw [List.length_map]; omega, fun u2 G2 e2 r2 => ?_⟩
      have f2 := e1.trans e2
      refine ⟨_, rfl, _, rfl, true, _, _, row, rooms.reverse, (abO row ws).map vO, rfl, lbC.mono f2, tovC.mono f2, by rw [List.length_map]; omega, by rw [List.length_map]; omega, fun u3 G3 e3 r3 => ?_⟩
      have f3 := f2.trans e3
      refine ⟨_, rfl, _, rfl, true, _, _, row, rooms, less held rooms, rfl, lC.ln.mono f3, tlkC.mono f3, by omega, by omega, fun u4 G4 e4 r4 => ?_⟩
      refine ⟨show 4 ≤ sizeLine by decide, fun c1 nc1 => ?_⟩
      have e5 := Evl.Ex.new (o := .lst [u1, u2, u3, u4]) nc1
      have f5 := (f3.trans e4).trans e5
      refine ⟨_, rfl, _, rfl, _, rfl, _, rfl, _, rfl, show 4 ≤ sizeLine by decide, fun c2 nc2 => ?_⟩
      have e6 := Evl.Ex.new (o := .lst [.ref ao, .ref al, .ref ad, .ref al]) nc2
      have f6 := f5.trans e6
      have l6 := lC.mono f6
      have R1 := r1.mono (((e2.trans e3).trans e4).trans (e5.trans e6))
      have R2 := r2.mono ((e3.trans e4).trans (e5.trans e6))
      have R3 := r3.mono (e4.trans (e5.trans e6))
      have R4 := r4.mono (e5.trans e6)
      rw [List.reverse_reverse] at R1
      rw [← List.map_reverse, List.reverse_reverse] at R2
      rw [about_map, abO_abO] at R3
      rw [less_less held rooms hfl] at R4
      refine ⟨.ref c1, .ref c2, .list [dL row rooms, .tuple (held.map PyData.int), .tuple (ws.map dO), .tuple (held.map PyData.int)], rfl, .lst (.inl (.inl (carry upd_same nc2))) (.cons R1.dp (.cons R2.ints (.cons R3.opts (.cons R4.ints .nil)))),
        .lst (.inl (.inl upd_same)) (.cons l6.ln.dp (.cons l6.ly.ints (.cons l6.dr.opts (.cons l6.ly.ints .nil)))),
        shal_lst 2 _ (show 4 ≤ 1000 by decide) (fm (shal_line 0 _ _ (by omega)) (fm (shal_ints 1 _ (by omega)) (fm (shal_opts 1 _ (by omega)) (fm (shal_ints 1 _ (by omega)) fn0)))), fun G7 e7' => ?_⟩
      refine ⟨_, rfl, ifN rfl ?_⟩
      have f7 := f6.trans e7'
      refine ⟨_, rfl, _, rfl, _, rfl, show 3 ≤ sizeLine by decide, fun c3 nc3 => ?_⟩
      have e8 := Evl.Ex.new (o := .lst [.ref ao, .ref ad, .ref al]) nc3
      have f8 := f7.trans e8
      obtain ⟨w1, w2, w3, w4⟩ := lC.sizes
      refine ⟨c3, _, rfl, (lC.mono f8).data upd_same, w1, w2, w3, w4, _, rfl, rfl, _, rfl, ifN (by rw [decide_eq_true rfl]; rfl) ?_⟩
      have rmr : ∀ x ∈ rooms.reverse, 1 ≤ x := fun x hx => (lC.rm x (List.mem_reverse.mp hx)).1
      refine ⟨_, rfl, _, row, rooms.reverse, rfl, lbC.mono f8, by rw [lrev]; exact lC.lo, by omega, rmr, fun G9 e9 => ?_⟩
      have f9 := f8.trans e9
      have fr := lC.ft.rev
      refine ⟨_, rfl, _, rfl, _, _, row, rooms.reverse, held.reverse, rfl, lbC.mono f9, tiC.mono f9, fr.1, by omega, fr.2, fun G10 e10 => ?_⟩
      have f10 := f9.trans e10
      refine ⟨_, rfl, _, rfl, _, _, row, rooms.reverse, abO row ws, rfl, lbC.mono f10, tovC.mono f10, by rw [alen, lrev]; exact hdn, by omega, fun x hx i hi => (lC.dp x (abO_mem hx) i hi).1, fun G11 e11 => ?_⟩
      have f11 := f10.trans e11
      have fl := lC.ft.less
      refine ⟨_, rfl, _, rfl, _, _, row, rooms, less held rooms, rfl, lC.ln.mono f11, tlkC.mono f11, fl.1, by omega, fl.2, fun G12 e12 => ?_⟩
      have f12 := f11.trans e12
      refine ⟨show 4 ≤ sizeLine by decide, fun c4 nc4 => ?_⟩
      have e13 := Evl.Ex.new (o := .lst [.bl true, .bl true, .bl true, .bl true]) nc4
      have f13 := f12.trans e13
      have fs := Fits.self lC.rm
      refine ⟨_, rfl, _, rfl, _, rfl, _, _, row, rooms, rooms, rfl, lC.ln.mono f13, ⟨ar, rfl, Evl.ex_t ((kB.trans xC).trans f13) har⟩, rfl, by omega, fs.2, fun G14 e14 => ?_⟩
      refine ⟨show 1 ≤ sizeLine by decide, fun c5 nc5 => ?_⟩
      have e15 := Evl.Ex.new (o := .lst [.bl true]) nc5
      refine ⟨c4, c5, _, _, rfl, rfl, e15 _ _ (e14 _ _ upd_same), upd_same, show 5 ≤ sizeLine by decide, fun c6 nc6 => ?_⟩
      have e16 := Evl.Ex.new (o := .lst [.bl true, .bl true, .bl true, .bl true, .bl true]) nc6
      refine ⟨show 1 ≤ sizeLine by decide, fun c7 nc7 => ?_⟩
      have e17 := Evl.Ex.new (o := .lst [.bl true]) nc7
      refine ⟨c7, 5, _, rfl, rfl, upd_same, by decide, by decide, show 5 ≤ sizeLine by decide, fun c8 nc8 => ?_⟩
      have e18 := Evl.Ex.new (o := .lst [.bl true, .bl true, .bl true, .bl true, .bl true]) nc8
      refine ⟨.list ([true, true, true, true, true].map PyData.bool), .list ([true, true, true, true, true].map PyData.bool), .lst (.inl (.inl (carry (carry upd_same nc7) nc8))) (dp_bools [true, true, true, true, true]),
        .lst (.inl (.inl upd_same)) (dp_bools [true, true, true, true, true]), by decide +kernel, by decide +kernel, ?_⟩
      rw [PyData.eqv, eqv_bools]
      have fin := ((((f13.trans e14).trans e15).trans e16).trans e17).trans e18
      exact q _ (kH.trans (Kp.ex ((kB.trans xC).trans fin))) ((bH.ex ((kB.trans xC).trans fin)).le (by omega))
end
end Kd
namespace Kd
open PySem PySem.Spec PyProof.Rows L2 Xg
theorem s_law : FnScope ["_law_script", "_law_k", "_law_box_here", "_law_turn"] ["_law_script"] (defScope (topS 29)) := ⟨rfl, rfl, rfl, by decide +kernel, rfl, by decide +kernel, by decide +kernel⟩
theorem bt_max : bootBuiltins "max" = some (.builtin "max") := by decide +kernel
theorem bt_min : bootBuiltins "min" = some (.builtin "min") := by decide +kernel
section
variable {P : Program} {w : World} {K : PySem.W.Frag} {mg : Str → Option Value} {base : Heap}
def spLaw (K : PySem.W.Frag) : Sp := fun vs H Q _ => ∃ (a : Addr) (ns : List Int), vs = [.ref a] ∧ SqL K H a (ns.map V.int) ∧ ns.length ≤ 63 ∧ ∀ H', Q (.bl true) H'
theorem ok_law {f fR : Addr} {fd fdR : FuncData} (F : Fun K "law" "law" (topS 29) f fd) (N : Names mg) (mrg : mg "range" = none) (mmax : mg "max" = none) (mmin : mg "min" = none)
    (DX : Df P w K mg base "_law_box" ["_law_script", "_law_k"] 1 (spBox K)) (GR : FnG P w K mg base 5 fR fdR ["_law_box_here"] spRight) (gR : mg "_law_right" = some (.ref fR)) (kR : PySem.W.keepIn K (.ref fR) = true) (bR : L2.Binds K fdR ["_law_box_here"] []) :
    FnG P w K mg base 6 f fd ["_law_script"] (spLaw K) := by
  refine okG F s_law (fun vs H Q h => ?_) (fun cdv A outer s H vs Q hG hr h => ?_)
  · obtain ⟨a, ns, rfl, _⟩ := h
    rfl
  · obtain ⟨a, ns, rfl, hS, hlen, q⟩ := h
    refine ⟨_, pss_cons (ps_for PassesOwn.never rfl (pi_range1 (by rfl) mrg (pa_cons (pe_callB (call_max2 rfl) (by rfl) mmax bt_max (pa_cons pe_int (pa_cons (pe_callB (call_min2 rfl) (by rfl) mmin bt_min (pa_cons pe_int (pa_cons (pe_callB call_len_seq (by rfl) N.len PySem.boot_len (pa_cons (pv 0) pa_nil)) pa_nil))) pa_nil))) pa_nil)) (pg_name (i := 1) s_law.nd rfl (.inl rfl))
        (pss_cons (ps_set (i := 2) s_law.nd rfl (.inr rfl) (pe_df DX (hr.mono (by decide)) (by rfl) (pa_cons (pv 0) (pa_cons (pv 1) pa_nil))))
        (pss_one (ps_if (pt_not (pt_val (pe_callB (cr_all rfl) (by rfl) N.all bt_all (pa_cons (pe_lc (own := [("_law_turn", 3)]) (g := gName 3) (tt := tYes) rfl s_law.nd (pi_range1 (by rfl) mrg (pa_cons pe_int pa_nil)) (blkOk_by (N := ["_law_script", "_law_k", "_law_box_here", "_law_turn"]) (sc := defScope (topS 29)) (by decide +kernel)) (fun _ _ _ _ _ => pg_name (i := 3) s_law.nd rfl (.inl rfl)) (fun _ _ _ _ _ => pts_nil) (fun _ _ _ _ _ => pe_callG GR hG hr (by rfl) gR kR bR (pa_cons (pv 2) pa_nil))) pa_nil)))) (pss_one (ps_ret pe_bl)) pss_nil))))
      (pss_one (ps_ret pe_bl)), ?_⟩
    refine ⟨_, rfl, a, _, rfl, .inl hS, 3, _, rfl, 1, _, rfl, ?_⟩
    obtain ⟨c, ec⟩ : ∃ c : Int, c = (if (if (((ns.map V.int).length : Nat) : Int) < 3 then (((ns.map V.int).length : Nat) : Int) else 3) > 1 then (if (((ns.map V.int).length : Nat) : Int) < 3 then (((ns.map V.int).length : Nat) : Int) else 3) else 1) := ⟨_, rfl⟩
    have hc : 0 ≤ c ∧ c ≤ 3 := by
      rw [ec]
      split <;> split <;> omega
    rw [← ec]
    refine ⟨c, rfl, by omega, by omega, for_range (lo := 0) (n := c.toNat) (fun i σ H' => ∃ y1 y2 : Option V, σ = [some (.ref a), y1, y2, none] ∧ Evl.Ex H H') ⟨none, none, rfl, Evl.Ex.refl _⟩ (fun i σ H' hi pe => ?_) (fun σ H' pe => q _)⟩
    obtain ⟨y1, y2, rfl, x1⟩ := pe
    refine ⟨_, rfl, _, rfl, a, ns, i, by rw [Int.zero_add], Evl.ex_l x1 hS, by omega, fun p x y np hx hy hy2 => ?_⟩
    have xb := Evl.Ex.new (o := .lst [.int x, .int y, .int 0]) np
    have b0 : Bx (L2.upd H' p (.lst [.int x, .int y, .int 0])) p 0 := ⟨x, y, 0, hx, hy, hy2, by decide, by decide, upd_same⟩
    refine ⟨6, rfl, by decide, by decide, fun D nD => lc_range (lo := 0) (n := 6) (fun j H2 => Kp p (L2.upd H' p (.lst [.int x, .int y, .int 0])) H2 ∧ Bx H2 p (200 * j) ∧ H2 D = some (.lst ((List.replicate j true).map V.bl)))
      ⟨Kp.ex (Evl.Ex.new nD), b0.upd (b0.ne nD), upd_same⟩ (fun j H2 hj pe => ?_) (fun H2 pe => ?_)⟩
    · obtain ⟨k2, b2, hD⟩ := pe
      refine ⟨rfl, ?_⟩
      unfold tYes
      dsimp only
      rw [if_pos rfl]
      refine ⟨_, rfl, p, _, rfl, b2, by omega, fun H3 k3 b3 => ?_⟩
      have nDp := b0.ne nD
      refine ⟨_, k3 D _ nDp hD, ?_, Kp.mut (k2.trans k3) nD, (b3.upd nDp).le (by omega), ?_⟩
      · rw [List.length_map, List.length_replicate]
        exact Evl.sz_lt (by omega)
      · rw [upd_same, List.replicate_succ', List.map_append]
        rfl
    · obtain ⟨k2, b2, hD⟩ := pe
      refine ⟨D, _, rfl, .inl (.inl hD), ?_⟩
      rw [all_yes]
      refine ⟨_, rfl, ifN rfl ?_⟩
      refine ⟨_, _, rfl, fun c o hc' => ?_⟩
      have h1 := x1 c o hc'
      exact k2 c o (ne_of_none h1 np) (xb c o h1)
theorem all_mk {l : PySem.W.OpenLaw} {w : World} {K : PySem.W.Frag} {h : Heap} {mg : Str → Option Value} {fa : Addr} (X : K.In h) (G : h.Ns mainGlobals mg) (hfa : mg "law" = some (.ref fa))
    {tR tG : Tok}
    {f_isNumber : Addr} {od_isNumber an_isNumber : Option Addr} {sl_isNumber : Array (Option Value)} {oc_isNumber kV_isNumber dc_isNumber pm_isNumber cd_isNumber ct_isNumber : Value}
    {f_isFrom : Addr} {od_isFrom an_isFrom : Option Addr} {sl_isFrom : Array (Option Value)} {oc_isFrom kV_isFrom dc_isFrom pm_isFrom cd_isFrom ct_isFrom : Value}
    {f_isTup : Addr} {od_isTup an_isTup : Option Addr} {sl_isTup : Array (Option Value)} {oc_isTup kV_isTup dc_isTup pm_isTup cd_isTup ct_isTup : Value}
    {f_isLine : Addr} {od_isLine an_isLine : Option Addr} {sl_isLine : Array (Option Value)} {oc_isLine kV_isLine dc_isLine pm_isLine cd_isLine ct_isLine : Value}
    {f_areRooms : Addr} {od_areRooms an_areRooms : Option Addr} {sl_areRooms : Array (Option Value)} {oc_areRooms kV_areRooms dc_areRooms pm_areRooms cd_areRooms ct_areRooms : Value}
    {f_gates : Addr} {od_gates an_gates : Option Addr} {sl_gates : Array (Option Value)} {oc_gates kV_gates dc_gates pm_gates cd_gates ct_gates : Value}
    {f_isWidths : Addr} {od_isWidths an_isWidths : Option Addr} {sl_isWidths : Array (Option Value)} {oc_isWidths kV_isWidths dc_isWidths pm_isWidths cd_isWidths ct_isWidths : Value}
    {f_isStanding : Addr} {od_isStanding an_isStanding : Option Addr} {sl_isStanding : Array (Option Value)} {oc_isStanding kV_isStanding dc_isStanding pm_isStanding cd_isStanding ct_isStanding : Value}
    {f_bare : Addr} {od_bare an_bare : Option Addr} {sl_bare : Array (Option Value)} {oc_bare kV_bare dc_bare pm_bare cd_bare ct_bare : Value}
    {f_full : Addr} {od_full an_full : Option Addr} {sl_full : Array (Option Value)} {oc_full kV_full dc_full pm_full cd_full ct_full : Value}
    {f_lacking : Addr} {od_lacking an_lacking : Option Addr} {sl_lacking : Array (Option Value)} {oc_lacking kV_lacking dc_lacking pm_lacking cd_lacking ct_lacking : Value}
    {f_turnedLine : Addr} {od_turnedLine an_turnedLine : Option Addr} {sl_turnedLine : Array (Option Value)} {oc_turnedLine kV_turnedLine dc_turnedLine pm_turnedLine cd_turnedLine ct_turnedLine : Value}
    {f_turned : Addr} {od_turned an_turned : Option Addr} {sl_turned : Array (Option Value)} {oc_turned kV_turned dc_turned pm_turned cd_turned ct_turned : Value}
    {f_turnedWidths : Addr} {od_turnedWidths an_turnedWidths : Option Addr} {sl_turnedWidths : Array (Option Value)} {oc_turnedWidths kV_turnedWidths dc_turnedWidths pm_turnedWidths cd_turnedWidths ct_turnedWidths : Value}
    {f_box : Addr} {od_box an_box : Option Addr} {sl_box : Array (Option Value)} {oc_box kV_box dc_box pm_box cd_box ct_box : Value}
    {f_take : Addr} {od_take an_take : Option Addr} {sl_take : Array (Option Value)} {oc_take kV_take dc_take pm_take cd_take ct_take : Value}
    {f_same : Addr} {od_same an_same : Option Addr} {sl_same : Array (Option Value)} {oc_same kV_same dc_same pm_same cd_same ct_same : Value}
    {f_lists : Addr} {od_lists an_lists : Option Addr} {sl_lists : Array (Option Value)} {oc_lists kV_lists dc_lists pm_lists cd_lists ct_lists : Value}
    {f_wide : Addr} {od_wide an_wide : Option Addr} {sl_wide : Array (Option Value)} {oc_wide kV_wide dc_wide pm_wide cd_wide ct_wide : Value}
    {f_line : Addr} {od_line an_line : Option Addr} {sl_line : Array (Option Value)} {oc_line kV_line dc_line pm_line cd_line ct_line : Value}
    {f_doors : Addr} {od_doors an_doors : Option Addr} {sl_doors : Array (Option Value)} {oc_doors kV_doors dc_doors pm_doors cd_doors ct_doors : Value}
    {f_lies : Addr} {od_lies an_lies : Option Addr} {sl_lies : Array (Option Value)} {oc_lies kV_lies dc_lies pm_lies cd_lies ct_lies : Value}
    {f_great : Addr} {od_great an_great : Option Addr} {sl_great : Array (Option Value)} {oc_great kV_great dc_great pm_great cd_great ct_great : Value}
    {f_right : Addr} {od_right an_right : Option Addr} {sl_right : Array (Option Value)} {oc_right kV_right dc_right pm_right cd_right ct_right : Value}
    {f_law : Addr} {od_law an_law : Option Addr} {sl_law : Array (Option Value)} {oc_law kV_law dc_law pm_law cd_law ct_law : Value}
    (a_isNumber : PySem.W.nsIn K mainGlobals "is_number" = some (some (.ref f_isNumber))) (l_isNumber : K.lookup f_isNumber = some ⟨oc_isNumber, od_isNumber, .func (PySem.W.fnOf "is_number" "is_number" (defArgs (topS 1)) (defBody (topS 1)) (defScope (topS 1)) .none kV_isNumber dc_isNumber pm_isNumber an_isNumber cd_isNumber ct_isNumber), sl_isNumber⟩) (c_isNumber : PySem.W.codeIn K cd_isNumber "is_number" = true) (k_isNumber : PySem.W.keepIn K (.ref f_isNumber) = true)
    (a_isFrom : PySem.W.nsIn K mainGlobals "is_number_from" = some (some (.ref f_isFrom))) (l_isFrom : K.lookup f_isFrom = some ⟨oc_isFrom, od_isFrom, .func (PySem.W.fnOf "is_number_from" "is_number_from" (defArgs (topS 2)) (defBody (topS 2)) (defScope (topS 2)) .none kV_isFrom dc_isFrom pm_isFrom an_isFrom cd_isFrom ct_isFrom), sl_isFrom⟩) (c_isFrom : PySem.W.codeIn K cd_isFrom "is_number_from" = true) (k_isFrom : PySem.W.keepIn K (.ref f_isFrom) = true)
    (a_isTup : PySem.W.nsIn K mainGlobals "is_tuple_of" = some (some (.ref f_isTup))) (l_isTup : K.lookup f_isTup = some ⟨oc_isTup, od_isTup, .func (PySem.W.fnOf "is_tuple_of" "is_tuple_of" (defArgs (topS 3)) (defBody (topS 3)) (defScope (topS 3)) .none kV_isTup dc_isTup pm_isTup an_isTup cd_isTup ct_isTup), sl_isTup⟩) (c_isTup : PySem.W.codeIn K cd_isTup "is_tuple_of" = true) (k_isTup : PySem.W.keepIn K (.ref f_isTup) = true)
    (a_isLine : PySem.W.nsIn K mainGlobals "is_line" = some (some (.ref f_isLine))) (l_isLine : K.lookup f_isLine = some ⟨oc_isLine, od_isLine, .func (PySem.W.fnOf "is_line" "is_line" (defArgs (topS 7)) (defBody (topS 7)) (defScope (topS 7)) .none kV_isLine dc_isLine pm_isLine an_isLine cd_isLine ct_isLine), sl_isLine⟩) (c_isLine : PySem.W.codeIn K cd_isLine "is_line" = true) (k_isLine : PySem.W.keepIn K (.ref f_isLine) = true)
    (a_areRooms : PySem.W.nsIn K mainGlobals "are_rooms" = some (some (.ref f_areRooms))) (l_areRooms : K.lookup f_areRooms = some ⟨oc_areRooms, od_areRooms, .func (PySem.W.fnOf "are_rooms" "are_rooms" (defArgs (topS 8)) (defBody (topS 8)) (defScope (topS 8)) .none kV_areRooms dc_areRooms pm_areRooms an_areRooms cd_areRooms ct_areRooms), sl_areRooms⟩) (c_areRooms : PySem.W.codeIn K cd_areRooms "are_rooms" = true) (k_areRooms : PySem.W.keepIn K (.ref f_areRooms) = true)
    (a_gates : PySem.W.nsIn K mainGlobals "gates" = some (some (.ref f_gates))) (l_gates : K.lookup f_gates = some ⟨oc_gates, od_gates, .func (PySem.W.fnOf "gates" "gates" (defArgs (topS 9)) (defBody (topS 9)) (defScope (topS 9)) .none kV_gates dc_gates pm_gates an_gates cd_gates ct_gates), sl_gates⟩) (c_gates : PySem.W.codeIn K cd_gates "gates" = true) (k_gates : PySem.W.keepIn K (.ref f_gates) = true)
    (a_isWidths : PySem.W.nsIn K mainGlobals "is_widths" = some (some (.ref f_isWidths))) (l_isWidths : K.lookup f_isWidths = some ⟨oc_isWidths, od_isWidths, .func (PySem.W.fnOf "is_widths" "is_widths" (defArgs (topS 10)) (defBody (topS 10)) (defScope (topS 10)) .none kV_isWidths dc_isWidths pm_isWidths an_isWidths cd_isWidths ct_isWidths), sl_isWidths⟩) (c_isWidths : PySem.W.codeIn K cd_isWidths "is_widths" = true) (k_isWidths : PySem.W.keepIn K (.ref f_isWidths) = true)
    (a_isStanding : PySem.W.nsIn K mainGlobals "is_standing" = some (some (.ref f_isStanding))) (l_isStanding : K.lookup f_isStanding = some ⟨oc_isStanding, od_isStanding, .func (PySem.W.fnOf "is_standing" "is_standing" (defArgs (topS 11)) (defBody (topS 11)) (defScope (topS 11)) .none kV_isStanding dc_isStanding pm_isStanding an_isStanding cd_isStanding ct_isStanding), sl_isStanding⟩) (c_isStanding : PySem.W.codeIn K cd_isStanding "is_standing" = true) (k_isStanding : PySem.W.keepIn K (.ref f_isStanding) = true)
    (a_bare : PySem.W.nsIn K mainGlobals "bare" = some (some (.ref f_bare))) (l_bare : K.lookup f_bare = some ⟨oc_bare, od_bare, .func (PySem.W.fnOf "bare" "bare" (defArgs (topS 12)) (defBody (topS 12)) (defScope (topS 12)) .none kV_bare dc_bare pm_bare an_bare cd_bare ct_bare), sl_bare⟩) (c_bare : PySem.W.codeIn K cd_bare "bare" = true) (k_bare : PySem.W.keepIn K (.ref f_bare) = true)
    (a_full : PySem.W.nsIn K mainGlobals "full" = some (some (.ref f_full))) (l_full : K.lookup f_full = some ⟨oc_full, od_full, .func (PySem.W.fnOf "full" "full" (defArgs (topS 13)) (defBody (topS 13)) (defScope (topS 13)) .none kV_full dc_full pm_full an_full cd_full ct_full), sl_full⟩) (c_full : PySem.W.codeIn K cd_full "full" = true) (k_full : PySem.W.keepIn K (.ref f_full) = true)
    (a_lacking : PySem.W.nsIn K mainGlobals "lacking" = some (some (.ref f_lacking))) (l_lacking : K.lookup f_lacking = some ⟨oc_lacking, od_lacking, .func (PySem.W.fnOf "lacking" "lacking" (defArgs (topS 14)) (defBody (topS 14)) (defScope (topS 14)) .none kV_lacking dc_lacking pm_lacking an_lacking cd_lacking ct_lacking), sl_lacking⟩) (c_lacking : PySem.W.codeIn K cd_lacking "lacking" = true) (k_lacking : PySem.W.keepIn K (.ref f_lacking) = true)
    (a_turnedLine : PySem.W.nsIn K mainGlobals "turned_line" = some (some (.ref f_turnedLine))) (l_turnedLine : K.lookup f_turnedLine = some ⟨oc_turnedLine, od_turnedLine, .func (PySem.W.fnOf "turned_line" "turned_line" (defArgs (topS 15)) (defBody (topS 15)) (defScope (topS 15)) .none kV_turnedLine dc_turnedLine pm_turnedLine an_turnedLine cd_turnedLine ct_turnedLine), sl_turnedLine⟩) (c_turnedLine : PySem.W.codeIn K cd_turnedLine "turned_line" = true) (k_turnedLine : PySem.W.keepIn K (.ref f_turnedLine) = true)
    (a_turned : PySem.W.nsIn K mainGlobals "turned" = some (some (.ref f_turned))) (l_turned : K.lookup f_turned = some ⟨oc_turned, od_turned, .func (PySem.W.fnOf "turned" "turned" (defArgs (topS 16)) (defBody (topS 16)) (defScope (topS 16)) .none kV_turned dc_turned pm_turned an_turned cd_turned ct_turned), sl_turned⟩) (c_turned : PySem.W.codeIn K cd_turned "turned" = true) (k_turned : PySem.W.keepIn K (.ref f_turned) = true)
    (a_turnedWidths : PySem.W.nsIn K mainGlobals "turned_widths" = some (some (.ref f_turnedWidths))) (l_turnedWidths : K.lookup f_turnedWidths = some ⟨oc_turnedWidths, od_turnedWidths, .func (PySem.W.fnOf "turned_widths" "turned_widths" (defArgs (topS 17)) (defBody (topS 17)) (defScope (topS 17)) .none kV_turnedWidths dc_turnedWidths pm_turnedWidths an_turnedWidths cd_turnedWidths ct_turnedWidths), sl_turnedWidths⟩) (c_turnedWidths : PySem.W.codeIn K cd_turnedWidths "turned_widths" = true) (k_turnedWidths : PySem.W.keepIn K (.ref f_turnedWidths) = true)
    (a_box : PySem.W.nsIn K mainGlobals "_law_box" = some (some (.ref f_box))) (l_box : K.lookup f_box = some ⟨oc_box, od_box, .func (PySem.W.fnOf "_law_box" "_law_box" (defArgs (topS 19)) (defBody (topS 19)) (defScope (topS 19)) .none kV_box dc_box pm_box an_box cd_box ct_box), sl_box⟩) (c_box : PySem.W.codeIn K cd_box "_law_box" = true) (k_box : PySem.W.keepIn K (.ref f_box) = true)
    (a_take : PySem.W.nsIn K mainGlobals "_law_take" = some (some (.ref f_take))) (l_take : K.lookup f_take = some ⟨oc_take, od_take, .func (PySem.W.fnOf "_law_take" "_law_take" (defArgs (topS 20)) (defBody (topS 20)) (defScope (topS 20)) .none kV_take dc_take pm_take an_take cd_take ct_take), sl_take⟩) (c_take : PySem.W.codeIn K cd_take "_law_take" = true) (k_take : PySem.W.keepIn K (.ref f_take) = true)
    (a_same : PySem.W.nsIn K mainGlobals "_law_same" = some (some (.ref f_same))) (l_same : K.lookup f_same = some ⟨oc_same, od_same, .func (PySem.W.fnOf "_law_same" "_law_same" (defArgs (topS 21)) (defBody (topS 21)) (defScope (topS 21)) .none kV_same dc_same pm_same an_same cd_same ct_same), sl_same⟩) (c_same : PySem.W.codeIn K cd_same "_law_same" = true) (k_same : PySem.W.keepIn K (.ref f_same) = true)
    (a_lists : PySem.W.nsIn K mainGlobals "_law_lists" = some (some (.ref f_lists))) (l_lists : K.lookup f_lists = some ⟨oc_lists, od_lists, .func (PySem.W.fnOf "_law_lists" "_law_lists" (defArgs (topS 22)) (defBody (topS 22)) (defScope (topS 22)) .none kV_lists dc_lists pm_lists an_lists cd_lists ct_lists), sl_lists⟩) (c_lists : PySem.W.codeIn K cd_lists "_law_lists" = true) (k_lists : PySem.W.keepIn K (.ref f_lists) = true)
    (a_wide : PySem.W.nsIn K mainGlobals "_law_wide" = some (some (.ref f_wide))) (l_wide : K.lookup f_wide = some ⟨oc_wide, od_wide, .func (PySem.W.fnOf "_law_wide" "_law_wide" (defArgs (topS 23)) (defBody (topS 23)) (defScope (topS 23)) .none kV_wide dc_wide pm_wide an_wide cd_wide ct_wide), sl_wide⟩) (c_wide : PySem.W.codeIn K cd_wide "_law_wide" = true) (k_wide : PySem.W.keepIn K (.ref f_wide) = true)
    (a_line : PySem.W.nsIn K mainGlobals "_law_line" = some (some (.ref f_line))) (l_line : K.lookup f_line = some ⟨oc_line, od_line, .func (PySem.W.fnOf "_law_line" "_law_line" (defArgs (topS 24)) (defBody (topS 24)) (defScope (topS 24)) .none kV_line dc_line pm_line an_line cd_line ct_line), sl_line⟩) (c_line : PySem.W.codeIn K cd_line "_law_line" = true) (k_line : PySem.W.keepIn K (.ref f_line) = true)
    (a_doors : PySem.W.nsIn K mainGlobals "_law_doors" = some (some (.ref f_doors))) (l_doors : K.lookup f_doors = some ⟨oc_doors, od_doors, .func (PySem.W.fnOf "_law_doors" "_law_doors" (defArgs (topS 25)) (defBody (topS 25)) (defScope (topS 25)) .none kV_doors dc_doors pm_doors an_doors cd_doors ct_doors), sl_doors⟩) (c_doors : PySem.W.codeIn K cd_doors "_law_doors" = true) (k_doors : PySem.W.keepIn K (.ref f_doors) = true)
    (a_lies : PySem.W.nsIn K mainGlobals "_law_lies" = some (some (.ref f_lies))) (l_lies : K.lookup f_lies = some ⟨oc_lies, od_lies, .func (PySem.W.fnOf "_law_lies" "_law_lies" (defArgs (topS 26)) (defBody (topS 26)) (defScope (topS 26)) .none kV_lies dc_lies pm_lies an_lies cd_lies ct_lies), sl_lies⟩) (c_lies : PySem.W.codeIn K cd_lies "_law_lies" = true) (k_lies : PySem.W.keepIn K (.ref f_lies) = true)
    (a_great : PySem.W.nsIn K mainGlobals "_law_great_line" = some (some (.ref f_great))) (l_great : K.lookup f_great = some ⟨oc_great, od_great, .func (PySem.W.fnOf "_law_great_line" "_law_great_line" (defArgs (topS 27)) (defBody (topS 27)) (defScope (topS 27)) .none kV_great dc_great pm_great an_great cd_great ct_great), sl_great⟩) (c_great : PySem.W.codeIn K cd_great "_law_great_line" = true) (k_great : PySem.W.keepIn K (.ref f_great) = true)
    (a_right : PySem.W.nsIn K mainGlobals "_law_right" = some (some (.ref f_right))) (l_right : K.lookup f_right = some ⟨oc_right, od_right, .func (PySem.W.fnOf "_law_right" "_law_right" (defArgs (topS 28)) (defBody (topS 28)) (defScope (topS 28)) .none kV_right dc_right pm_right an_right cd_right ct_right), sl_right⟩) (c_right : PySem.W.codeIn K cd_right "_law_right" = true) (k_right : PySem.W.keepIn K (.ref f_right) = true)
    (a_law : PySem.W.nsIn K mainGlobals "law" = some (some (.ref f_law))) (l_law : K.lookup f_law = some ⟨oc_law, od_law, .func (PySem.W.fnOf "law" "law" (defArgs (topS 29)) (defBody (topS 29)) (defScope (topS 29)) .none kV_law dc_law pm_law an_law cd_law ct_law), sl_law⟩) (c_law : PySem.W.codeIn K cd_law "law" = true) (k_law : PySem.W.keepIn K (.ref f_law) = true)
    (zR : PySem.W.nsIn K mainGlobals "ROW" = some (some (.str "row" tR))) (zG : PySem.W.nsIn K mainGlobals "RING" = some (some (.str "ring" tG)))
    (z_len : PySem.W.nsIn K mainGlobals "len" = some none)
    (z_abs : PySem.W.nsIn K mainGlobals "abs" = some none)
    (z_int : PySem.W.nsIn K mainGlobals "int" = some none)
    (z_list : PySem.W.nsIn K mainGlobals "list" = some none)
    (z_tuple : PySem.W.nsIn K mainGlobals "tuple" = some none)
    (z_isinstance : PySem.W.nsIn K mainGlobals "isinstance" = some none)
    (z_all : PySem.W.nsIn K mainGlobals "all" = some none)
    (z_zip : PySem.W.nsIn K mainGlobals "zip" = some none)
    (z_str : PySem.W.nsIn K mainGlobals "str" = some none)
    (z_bool : PySem.W.nsIn K mainGlobals "bool" = some none)
    (z_range : PySem.W.nsIn K mainGlobals "range" = some none)
    (z_repr : PySem.W.nsIn K mainGlobals "repr" = some none)
    (z_reversed : PySem.W.nsIn K mainGlobals "reversed" = some none)
    (z_max : PySem.W.nsIn K mainGlobals "max" = some none)
    (z_min : PySem.W.nsIn K mainGlobals "min" = some none) :
    ∃ fd : FuncData, (∀ (s : Shared) (v : Value), BindsTo s fd ⟨[v], []⟩ [("_law_script", v)]) ∧ ∀ base : Heap, K.In base → base.Ns mainGlobals mg → FnG l.prog w K mg base 6 fa fd ["_law_script"] (spLaw K) := by
  have e := hfa.symm.trans (PySem.W.mg_of X G a_law)
  cases e
  have F_isNumber := fun_mk (st := topS 1) l_isNumber c_isNumber k_isNumber
  have b_isNumber := F_isNumber.binds (ps := ["thing"]) fun _ _ _ _ _ _ us hl => match us, hl with | [_], _ => rfl
  have g_isNumber := PySem.W.mg_of X G a_isNumber
  have F_isFrom := fun_mk (st := topS 2) l_isFrom c_isFrom k_isFrom
  have b_isFrom := F_isFrom.binds (ps := ["thing", "least"]) fun _ _ _ _ _ _ us hl => match us, hl with | [_, _], _ => rfl
  have g_isFrom := PySem.W.mg_of X G a_isFrom
  have F_isTup := fun_mk (st := topS 3) l_isTup c_isTup k_isTup
  have b_isTup := F_isTup.binds (ps := ["thing", "many"]) fun _ _ _ _ _ _ us hl => match us, hl with | [_, _], _ => rfl
  have g_isTup := PySem.W.mg_of X G a_isTup
  have F_isLine := fun_mk (st := topS 7) l_isLine c_isLine k_isLine
  have b_isLine := F_isLine.binds (ps := ["thing"]) fun _ _ _ _ _ _ us hl => match us, hl with | [_], _ => rfl
  have g_isLine := PySem.W.mg_of X G a_isLine
  have F_areRooms := fun_mk (st := topS 8) l_areRooms c_areRooms k_areRooms
  have b_areRooms := F_areRooms.binds (ps := ["thing", "least_bins"]) fun _ _ _ _ _ _ us hl => match us, hl with | [_, _], _ => rfl
  have g_areRooms := PySem.W.mg_of X G a_areRooms
  have F_gates := fun_mk (st := topS 9) l_gates c_gates k_gates
  have b_gates := F_gates.binds (ps := ["line"]) fun _ _ _ _ _ _ us hl => match us, hl with | [_], _ => rfl
  have g_gates := PySem.W.mg_of X G a_gates
  have F_isWidths := fun_mk (st := topS 10) l_isWidths c_isWidths k_isWidths
  have b_isWidths := F_isWidths.binds (ps := ["line", "thing"]) fun _ _ _ _ _ _ us hl => match us, hl with | [_, _], _ => rfl
  have g_isWidths := PySem.W.mg_of X G a_isWidths
  have F_isStanding := fun_mk (st := topS 11) l_isStanding c_isStanding k_isStanding
  have b_isStanding := F_isStanding.binds (ps := ["line", "thing"]) fun _ _ _ _ _ _ us hl => match us, hl with | [_, _], _ => rfl
  have g_isStanding := PySem.W.mg_of X G a_isStanding
  have F_bare := fun_mk (st := topS 12) l_bare c_bare k_bare
  have b_bare := F_bare.binds (ps := ["line"]) fun _ _ _ _ _ _ us hl => match us, hl with | [_], _ => rfl
  have g_bare := PySem.W.mg_of X G a_bare
  have F_full := fun_mk (st := topS 13) l_full c_full k_full
  have b_full := F_full.binds (ps := ["line"]) fun _ _ _ _ _ _ us hl => match us, hl with | [_], _ => rfl
  have g_full := PySem.W.mg_of X G a_full
  have F_lacking := fun_mk (st := topS 14) l_lacking c_lacking k_lacking
  have b_lacking := F_lacking.binds (ps := ["line", "standing"]) fun _ _ _ _ _ _ us hl => match us, hl with | [_, _], _ => rfl
  have g_lacking := PySem.W.mg_of X G a_lacking
  have F_turnedLine := fun_mk (st := topS 15) l_turnedLine c_turnedLine k_turnedLine
  have b_turnedLine := F_turnedLine.binds (ps := ["line"]) fun _ _ _ _ _ _ us hl => match us, hl with | [_], _ => rfl
  have g_turnedLine := PySem.W.mg_of X G a_turnedLine
  have F_turned := fun_mk (st := topS 16) l_turned c_turned k_turned
  have b_turned := F_turned.binds (ps := ["line", "standing"]) fun _ _ _ _ _ _ us hl => match us, hl with | [_, _], _ => rfl
  have g_turned := PySem.W.mg_of X G a_turned
  have F_turnedWidths := fun_mk (st := topS 17) l_turnedWidths c_turnedWidths k_turnedWidths
  have b_turnedWidths := F_turnedWidths.binds (ps := ["line", "widths"]) fun _ _ _ _ _ _ us hl => match us, hl with | [_, _], _ => rfl
  have g_turnedWidths := PySem.W.mg_of X G a_turnedWidths
  have F_box := fun_mk (st := topS 19) l_box c_box k_box
  have b_box := F_box.binds (ps := ["_law_script", "_law_k"]) fun _ _ _ _ _ _ us hl => match us, hl with | [_, _], _ => rfl
  have g_box := PySem.W.mg_of X G a_box
  have F_take := fun_mk (st := topS 20) l_take c_take k_take
  have b_take := F_take.binds (ps := ["_law_box_here", "_law_bound"]) fun _ _ _ _ _ _ us hl => match us, hl with | [_, _], _ => rfl
  have g_take := PySem.W.mg_of X G a_take
  have F_same := fun_mk (st := topS 21) l_same c_same k_same
  have b_same := F_same.binds (ps := ["_law_found", "_law_due"]) fun _ _ _ _ _ _ us hl => match us, hl with | [_, _], _ => rfl
  have g_same := PySem.W.mg_of X G a_same
  have F_lists := fun_mk (st := topS 22) l_lists c_lists k_lists
  have b_lists := F_lists.binds (ps := ["_law_thing"]) fun _ _ _ _ _ _ us hl => match us, hl with | [_], _ => rfl
  have g_lists := PySem.W.mg_of X G a_lists
  have F_wide := fun_mk (st := topS 23) l_wide c_wide k_wide
  have b_wide := F_wide.binds (ps := ["_law_box_here", "_law_bound"]) fun _ _ _ _ _ _ us hl => match us, hl with | [_, _], _ => rfl
  have g_wide := PySem.W.mg_of X G a_wide
  have F_line := fun_mk (st := topS 24) l_line c_line k_line
  have b_line := F_line.binds (ps := ["_law_box_here", "_law_most"]) fun _ _ _ _ _ _ us hl => match us, hl with | [_, _], _ => rfl
  have g_line := PySem.W.mg_of X G a_line
  have F_doors := fun_mk (st := topS 25) l_doors c_doors k_doors
  have b_doors := F_doors.binds (ps := ["_law_box_here", "_law_own"]) fun _ _ _ _ _ _ us hl => match us, hl with | [_, _], _ => rfl
  have g_doors := PySem.W.mg_of X G a_doors
  have F_lies := fun_mk (st := topS 26) l_lies c_lies k_lies
  have b_lies := F_lies.binds (ps := ["_law_box_here", "_law_own"]) fun _ _ _ _ _ _ us hl => match us, hl with | [_, _], _ => rfl
  have g_lies := PySem.W.mg_of X G a_lies
  have F_great := fun_mk (st := topS 27) l_great c_great k_great
  have b_great := F_great.binds (ps := ["_law_box_here", "_law_most"]) fun _ _ _ _ _ _ us hl => match us, hl with | [_, _], _ => rfl
  have g_great := PySem.W.mg_of X G a_great
  have F_right := fun_mk (st := topS 28) l_right c_right k_right
  have b_right := F_right.binds (ps := ["_law_box_here"]) fun _ _ _ _ _ _ us hl => match us, hl with | [_], _ => rfl
  have g_right := PySem.W.mg_of X G a_right
  have F_law := fun_mk (st := topS 29) l_law c_law k_law
  have m_len := PySem.W.mg_none_of X G z_len
  have m_abs := PySem.W.mg_none_of X G z_abs
  have m_int := PySem.W.mg_none_of X G z_int
  have m_list := PySem.W.mg_none_of X G z_list
  have m_tuple := PySem.W.mg_none_of X G z_tuple
  have m_isinstance := PySem.W.mg_none_of X G z_isinstance
  have m_all := PySem.W.mg_none_of X G z_all
  have m_zip := PySem.W.mg_none_of X G z_zip
  have m_str := PySem.W.mg_none_of X G z_str
  have m_bool := PySem.W.mg_none_of X G z_bool
  have m_range := PySem.W.mg_none_of X G z_range
  have m_repr := PySem.W.mg_none_of X G z_repr
  have m_reversed := PySem.W.mg_none_of X G z_reversed
  have m_max := PySem.W.mg_none_of X G z_max
  have m_min := PySem.W.mg_none_of X G z_min
  refine ⟨PySem.W.fnOf "law" "law" (defArgs (topS 29)) (defBody (topS 29)) (defScope (topS 29)) .none kV_law dc_law pm_law an_law cd_law ct_law, fun s v => .of_eq rfl, fun base _ _ => ?_⟩
  have N : Names mg := ⟨m_isinstance, m_list, m_tuple, m_len, m_all, m_zip, m_str, m_int, m_bool⟩
  have gR : ∃ u, mg "ROW" = some u ∧ L2.RelV (.str "row") u := ⟨_, PySem.W.mg_of X G zR, _, rfl⟩
  have gG : ∃ u, mg "RING" = some u ∧ L2.RelV (.str "ring") u := ⟨_, PySem.W.mg_of X G zG, _, rfl⟩
  have D_isNumber : Df l.prog w K mg base "is_number" ["thing"] 1 spIsNumber := ⟨_, _, ok_isNumber F_isNumber N, g_isNumber, F_isNumber.kp, b_isNumber⟩
  have D_isFrom : Df l.prog w K mg base "is_number_from" ["thing", "least"] 2 spIsFrom := ⟨_, _, ok_isFrom (k := 0) F_isFrom D_isNumber, g_isFrom, F_isFrom.kp, b_isFrom⟩
  have D_isTup : Df l.prog w K mg base "is_tuple_of" ["thing", "many"] 1 (spIsTup K) := ⟨_, _, ok_isTup F_isTup N, g_isTup, F_isTup.kp, b_isTup⟩
  have D_areRooms : Df l.prog w K mg base "are_rooms" ["thing", "least_bins"] 3 (spAreRooms K) := ⟨_, _, ok_areRooms (k := 0) F_areRooms N D_isFrom, g_areRooms, F_areRooms.kp, b_areRooms⟩
  have D_isLine : Df l.prog w K mg base "is_line" ["thing"] 4 (spIsLine K) := ⟨_, _, ok_isLine (k := 0) F_isLine N gR gG D_isTup D_areRooms, g_isLine, F_isLine.kp, b_isLine⟩
  have D_gates : DfK l.prog w K mg base "gates" ["line"] ["line"] (fun l => l) 1 (spGates K) := ⟨_, _, ok_gates F_gates N gR, g_gates, F_gates.kp, b_gates, fun s ws _ hl => match ws, hl with | [_], _ => .of_eq rfl⟩
  have D_isWidths : Df l.prog w K mg base "is_widths" ["line", "thing"] 3 (spIsWidths K) := ⟨_, _, ok_isWidths (k := 0) F_isWidths N D_isFrom D_isTup D_gates.df, g_isWidths, F_isWidths.kp, b_isWidths⟩
  have D_isStanding : Df l.prog w K mg base "is_standing" ["line", "thing"] 3 (spIsStanding K) := ⟨_, _, ok_isStanding (k := 0) F_isStanding N D_isFrom D_isTup, g_isStanding, F_isStanding.kp, b_isStanding⟩
  have D_bare : Df l.prog w K mg base "bare" ["line"] 1 (spBare K) := ⟨_, _, ok_bare F_bare N, g_bare, F_bare.kp, b_bare⟩
  have D_full : Df l.prog w K mg base "full" ["line"] 1 (spFull K) := ⟨_, _, ok_full F_full N, g_full, F_full.kp, b_full⟩
  have D_lacking : DfK l.prog w K mg base "lacking" ["line", "standing"] ["standing", "line"] List.reverse 1 (spLacking K) := ⟨_, _, ok_lacking F_lacking N, g_lacking, F_lacking.kp, b_lacking, fun s ws _ hl => match ws, hl with | [_, _], _ => .of_eq rfl⟩
  have D_turnedLine : Df l.prog w K mg base "turned_line" ["line"] 1 (spTurnedLine K) := ⟨_, _, ok_turnedLine F_turnedLine N m_reversed, g_turnedLine, F_turnedLine.kp, b_turnedLine⟩
  have D_turned : DfK l.prog w K mg base "turned" ["line", "standing"] ["standing", "line"] List.reverse 1 (spTurned K) := ⟨_, _, ok_turned F_turned N m_reversed, g_turned, F_turned.kp, b_turned, fun s ws _ hl => match ws, hl with | [_, _], _ => .of_eq rfl⟩
  have D_turnedWidths : DfK l.prog w K mg base "turned_widths" ["line", "widths"] ["widths", "line"] List.reverse 1 (spTurnedWidths K) := ⟨_, _, ok_turnedWidths F_turnedWidths N m_reversed gR, g_turnedWidths, F_turnedWidths.kp, b_turnedWidths, fun s ws _ hl => match ws, hl with | [_, _], _ => .of_eq rfl⟩
  have D_box : Df l.prog w K mg base "_law_box" ["_law_script", "_law_k"] 1 (spBox K) := ⟨_, _, ok_box F_box m_len m_abs m_int, g_box, F_box.kp, b_box⟩
  have D_take : Df l.prog w K mg base "_law_take" ["_law_box_here", "_law_bound"] 1 spTake := ⟨_, _, ok_take F_take, g_take, F_take.kp, b_take⟩
  have D_same : Df l.prog w K mg base "_law_same" ["_law_found", "_law_due"] 4 (spSame K 3) := ⟨_, _, ok_same F_same b_same g_same N 4, g_same, F_same.kp, b_same⟩
  have D_lists : Df l.prog w K mg base "_law_lists" ["_law_thing"] 3 (spL3 K) := ⟨_, _, ok_l3 F_lists b_lists g_lists N, g_lists, F_lists.kp, b_lists⟩
  have D_wide : Df l.prog w K mg base "_law_wide" ["_law_box_here", "_law_bound"] 2 spWide := ⟨_, _, ok_wide F_wide D_take, g_wide, F_wide.kp, b_wide⟩
  have D_line : Df l.prog w K mg base "_law_line" ["_law_box_here", "_law_most"] 2 (spLine K) := ⟨_, _, ok_line F_line N m_range D_take, g_line, F_line.kp, b_line⟩
  have D_doors : Df l.prog w K mg base "_law_doors" ["_law_box_here", "_law_own"] 2 (spDoors K) := ⟨_, _, ok_doors F_doors N m_range D_take, g_doors, F_doors.kp, b_doors⟩
  have D_lies : Df l.prog w K mg base "_law_lies" ["_law_box_here", "_law_own"] 2 (spLies K) := ⟨_, _, ok_lies F_lies N D_take, g_lies, F_lies.kp, b_lies⟩
  have D_great : Df l.prog w K mg base "_law_great_line" ["_law_box_here", "_law_most"] 3 (spGreat K) := ⟨_, _, ok_great F_great N m_range D_take D_wide, g_great, F_great.kp, b_great⟩
  have R : Rf l.prog w K mg base := ⟨N, m_range, m_repr, D_take, D_same, D_line, D_doors, D_lies, D_great, D_lists, D_gates, D_bare, D_full, D_lacking, D_turnedLine, D_turned, D_turnedWidths, D_isLine, D_isWidths, D_isStanding⟩
  exact ok_law F_law N m_range m_max m_min D_box (ok_right F_right R) g_right F_right.kp b_right
end
end Kd
open PySem PySem.W PyProof.Rows
set_option maxHeartbeats 0 in
theorem PySem.Challenge.cw_forthback_k01_lines_seen_otherwise_holds : PySem.Challenge.rw_forthback_k01_lines_seen_otherwise.Holds := by
  w_on; o_law; k_head; (case hw => w_witness2)
  k_fill
  refine Xg.walkG (l := PySem.Challenge.rw_forthback_k01_lines_seen_otherwise) (n := 63) (k := 6) (x := "_law_script") (sp := fun w => Kd.spLaw _) rfl (by decide) rfl ⟨rfl, by decide, by decide⟩ (fun w h Y => PySem.W.kIn_of Y) ?F (fun _ _ a ns hl _ hS => ⟨a, ns, rfl, hS, hl, fun _ => rfl⟩)
  case F =>
    intro w mg fa h KX G hmg
    refine' Kd.all_mk KX G hmg ?a_isNumber ?l_isNumber ?c_isNumber ?k_isNumber ?a_isFrom ?l_isFrom ?c_isFrom ?k_isFrom ?a_isTup ?l_isTup ?c_isTup ?k_isTup ?a_isLine ?l_isLine ?c_isLine ?k_isLine ?a_areRooms ?l_areRooms ?c_areRooms ?k_areRooms ?a_gates ?l_gates ?c_gates ?k_gates ?a_isWidths ?l_isWidths ?c_isWidths ?k_isWidths ?a_isStanding ?l_isStanding ?c_isStanding ?k_isStanding ?a_bare ?l_bare ?c_bare ?k_bare ?a_full ?l_full ?c_full ?k_full ?a_lacking ?l_lacking ?c_lacking ?k_lacking ?a_turnedLine ?l_turnedLine ?c_turnedLine ?k_turnedLine ?a_turned ?l_turned ?c_turned ?k_turned ?a_turnedWidths ?l_turnedWidths ?c_turnedWidths ?k_turnedWidths ?a_box ?l_box ?c_box ?k_box ?a_take ?l_take ?c_take ?k_take ?a_same ?l_same ?c_same ?k_same ?a_lists ?l_lists ?c_lists ?k_lists ?a_wide ?l_wide ?c_wide ?k_wide ?a_line ?l_line ?c_line ?k_line ?a_doors ?l_doors ?c_doors ?k_doors ?a_lies ?l_lies ?c_lies ?k_lies ?a_great ?l_great ?c_great ?k_great ?a_right ?l_right ?c_right ?k_right ?a_law ?l_law ?c_law ?k_law ?zR ?zG ?z_len ?z_abs ?z_int ?z_list ?z_tuple ?z_isinstance ?z_all ?z_zip ?z_str ?z_bool ?z_range ?z_repr ?z_reversed ?z_max ?z_min
    (case a_isNumber => k_is)
    (case l_isNumber => k_is)
    (case c_isNumber => k_is)
    (case k_isNumber => k_is)
    (case a_isFrom => k_is)
    (case l_isFrom => k_is)
    (case c_isFrom => k_is)
    (case k_isFrom => k_is)
    (case a_isTup => k_is)
    (case l_isTup => k_is)
    (case c_isTup => k_is)
    (case k_isTup => k_is)
    (case a_isLine => k_is)
    (case l_isLine => k_is)
    (case c_isLine => k_is)
    (case k_isLine => k_is)
    (case a_areRooms => k_is)
    (case l_areRooms => k_is)
    (case c_areRooms => k_is)
    (case k_areRooms => k_is)
    (case a_gates => k_is)
    (case l_gates => k_is)
    (case c_gates => k_is)
    (case k_gates => k_is)
    (case a_isWidths => k_is)
    (case l_isWidths => k_is)
    (case c_isWidths => k_is)
    (case k_isWidths => k_is)
    (case a_isStanding => k_is)
    (case l_isStanding => k_is)
    (case c_isStanding => k_is)
    (case k_isStanding => k_is)
    (case a_bare => k_is)
    (case l_bare => k_is)
    (case c_bare => k_is)
    (case k_bare => k_is)
    (case a_full => k_is)
    (case l_full => k_is)
    (case c_full => k_is)
    (case k_full => k_is)
    (case a_lacking => k_is)
    (case l_lacking => k_is)
    (case c_lacking => k_is)
    (case k_lacking => k_is)
    (case a_turnedLine => k_is)
    (case l_turnedLine => k_is)
    (case c_turnedLine => k_is)
    (case k_turnedLine => k_is)
    (case a_turned => k_is)
    (case l_turned => k_is)
    (case c_turned => k_is)
    (case k_turned => k_is)
    (case a_turnedWidths => k_is)
    (case l_turnedWidths => k_is)
    (case c_turnedWidths => k_is)
    (case k_turnedWidths => k_is)
    (case a_box => k_is)
    (case l_box => k_is)
    (case c_box => k_is)
    (case k_box => k_is)
    (case a_take => k_is)
    (case l_take => k_is)
    (case c_take => k_is)
    (case k_take => k_is)
    (case a_same => k_is)
    (case l_same => k_is)
    (case c_same => k_is)
    (case k_same => k_is)
    (case a_lists => k_is)
    (case l_lists => k_is)
    (case c_lists => k_is)
    (case k_lists => k_is)
    (case a_wide => k_is)
    (case l_wide => k_is)
    (case c_wide => k_is)
    (case k_wide => k_is)
    (case a_line => k_is)
    (case l_line => k_is)
    (case c_line => k_is)
    (case k_line => k_is)
    (case a_doors => k_is)
    (case l_doors => k_is)
    (case c_doors => k_is)
    (case k_doors => k_is)
    (case a_lies => k_is)
    (case l_lies => k_is)
    (case c_lies => k_is)
    (case k_lies => k_is)
    (case a_great => k_is)
    (case l_great => k_is)
    (case c_great => k_is)
    (case k_great => k_is)
    (case a_right => k_is)
    (case l_right => k_is)
    (case c_right => k_is)
    (case k_right => k_is)
    (case a_law => k_is)
    (case l_law => k_is)
    (case c_law => k_is)
    (case k_law => k_is)
    (case zR => k_is)
    (case zG => k_is)
    (case z_len => k_is)
    (case z_abs => k_is)
    (case z_int => k_is)
    (case z_list => k_is)
    (case z_tuple => k_is)
    (case z_isinstance => k_is)
    (case z_all => k_is)
    (case z_zip => k_is)
    (case z_str => k_is)
    (case z_bool => k_is)
    (case z_range => k_is)
    (case z_repr => k_is)
    (case z_reversed => k_is)
    (case z_max => k_is)
    (case z_min => k_is)
