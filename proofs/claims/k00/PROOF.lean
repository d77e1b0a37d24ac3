import PyProof.Rows.All
import Wide.All
import OpenK.AllK
import Wide.FinOn
import HandS.Base
import HandS.Call
import HandS.List
import HandS.Comp
import HandS.Ends
import HandS.Iter
import HandS.Words
import HandS.WordsList
import HandS.IsInst
import HandS.TryOnly
import HandS.Evl
import HandS.Walk
import HandS.Zip
import HandS.Conv
import HandS.Rev
import HandS.TupMul
import HandS.TupAny
import PyProof.ReprRoads
import PyProof.ReprLen
import HandS.Style
import HandS.Text
import PyProof.Rows.StrCase
import KE.KRevSl
import HandS.More
import PySem.Challenge.RW_forthback_k00_lines_widths_standings_or
set_option Elab.async false
set_option linter.all false
set_option maxRecDepth 100000
set_option maxHeartbeats 8000000
/-! Two rules in one; keywords alone; defs whose caller tells that no repr runs around them; repr of data. -/
namespace Xg
open PySem PySem.Spec PyProof.Rows L2

theorem pe_or {X : Cx} {e : Expr} {t u : TE} (a : PE X e t) (b : PE X e u) : PE X e (fun σ H Q => t σ H Q ∨ u σ H Q) :=
  ⟨fun pins s σ H Q I h => h.elim (a.run pins s σ H Q I) (b.run pins s σ H Q I)⟩
theorem pg_or {X : Cx} {e : Expr} {t u : TG} (a : PG X e t) (b : PG X e u) : PG X e (fun v σ H Q => t v σ H Q ∨ u v σ H Q) :=
  ⟨fun pins s σ H v z Q I r h => h.elim (a.run pins s σ H v z Q I r) (b.run pins s σ H v z Q I r)⟩
theorem op_or {X : Cx} {f : Value → Value → Sem Value} {r1 r2 : R2} (a : OpR X f r1) (b : OpR X f r2) : OpR X f (fun x y H Q => r1 x y H Q ∨ r2 x y H Q) :=
  fun pins s σ H x y v u Q I rx ry h => h.elim (a pins s σ H x y v u Q I rx ry) (b pins s σ H x y v u Q I rx ry)

/-! ### f(k = v, ..), keywords alone -/
/-- how they bind: g puts the keywords' values in the parameters' order -/
def KwOnly (K : PySem.W.Frag) (fd : FuncData) (ps ks : List Str) (g : {α : Type} → List α → List α) : Prop :=
  ∀ (s : Shared) (ws : List Value), K.In s.heap → ws.length = ks.length → BindsTo s fd ⟨[], ks.zip ws⟩ (ps.zip (g ws))
def tKw (n : Nat) (sp : Sp) (g : {α : Type} → List α → List α) (tk : TA) : TE := fun σ H Q => tk σ H fun zs H1 => zs.length = n ∧ sp (g zs) H1 Q E0
theorem pe_kw {X : Cx} {k : Nat} {f : Addr} {fd : FuncData} {ps ks : List Str} {sp : Sp} {x : Str} {p pos : Pos} {kws : List Keyword} {tk : TA} {g : {α : Type} → List α → List α}
    (F : FnOk X.prog X.w X.K X.mg X.base CX0 k f fd ps sp) (hr : Room k X.A) (hg : Gl X x) (hm : X.mg x = some (.ref f)) (hk : PySem.W.keepIn X.K (.ref f) = true)
    (hb : KwOnly X.K fd ps ks g) (hrel : ∀ {zs : List V} {ws : List Value}, Vals zs ws → Vals (g zs) (g ws)) (hkw : PK X kws tk)
    (hall : (backToKw pos (keywordEach kws X.env)).all (·.1.isSome) = true := by rfl) (hks : (backToKw pos (keywordEach kws X.env)).filterMap (·.1) = ks := by rfl)
    (hdb : (x == ("__debug__" : Str)) = false := by decide) (hpl : ((backTo pos (starEach [] X.env)).any (·.1) || (backToKw pos (keywordEach kws X.env)).any (·.1.isNone)) = false := by rfl) :
    PE X (.Call (.Name x p) [] kws pos) (tKw ks.length sp g tk) := by
  refine ⟨fun pins s σ H Q I h => ?_⟩
  refine wpAny_Call_Name_kw (ld_glob I hg hm ?_ hdb)
  refine PySem.W.callWith_KW0 (h₀ := X.base) I.ok.mod.kin hk hall (thn (hkw.run pos pins s σ H _ I h) fun ws s1 ⟨zs, H1, I1, rz, l1, q⟩ => ⟨I1.kIn, ?_⟩) hpl
  rw [hks]
  refine wpAny_call (codeAny_mono (F.run X.A X.stack s1 H1 ⟨[], ks.zip ws⟩ (g ws) (g zs) Q E0 hr I1.env0 (hb s1 ws I1.kIn (rz.length.symm.trans l1)) (hrel rz) q) fun res s' hq => ?_)
  cases res with
  | error er => exact hq.elim
  | ok fl =>
    cases fl with
    | ret u => exact I1.after hq
    | next => exact False.elim hq
    | brk => exact False.elim hq
    | cont => exact False.elim hq

/-! ### a def called where no repr runs around -/
structure FnG (P : Program) (w : World) (K : PySem.W.Frag) (mg : Str → Option Value) (base : Heap) (k : Nat) (f : Addr) (fd : FuncData) (ps : List Str) (sp : Sp) : Prop where
  len : ∀ vs H Q, sp vs H Q E0 → vs.length = ps.length
  run : ∀ (A : Around) (outer : List Env) (s : Shared) (H : Hp) (args : Args) (us : List Value) (vs : List V) (Q : VK), A.guards = some [] → Room k A → Env0 P w K mg base A outer s H →
    BindsTo s fd args (ps.zip us) → Vals vs us → sp vs H Q E0 → codeAny (model P w) A (.call (.ref f) args) (CR CX0 outer P w H s Q E0) s
section
variable {P : Program} {w : World} {K : PySem.W.Frag} {mg : Str → Option Value} {base : Heap}
theorem okG {x qual : Str} {st : Stmt} {f : Addr} {fd : FuncData} {N ps : List Str} {k : Nat} {sp : Sp} (F : Fun K x qual st f fd) (S : FnScope N ps (defScope st)) (len : ∀ vs H Q, sp vs H Q E0 → vs.length = ps.length)
    (hbody : ∀ (cdv : Value) (A : Around) (outer : List Env) (s : Shared) (H : Hp) (vs : List V) (Q : VK), (A.deeper (envOfC qual (defScope st) s.heap.objs.size f cdv)).guards = some [] →
      Room k (A.deeper (envOfC qual (defScope st) s.heap.objs.size f cdv)) → sp vs H Q E0 →
      ∃ t, PSs (cxOf CX0 P w K mg base N qual (defScope st) f cdv A outer s H E0).nox (defBody st) t ∧ t { nx := fun _ H' => Q .non H', rt := Q } (L2.start N vs) H) :
    FnG P w K mg base (k + 1) f fd ps sp := by
  obtain ⟨oc, od, kV, doc, pm, an, cdv, ct, osl, rfl, lk, hcd⟩ := F.ex
  refine ⟨len, fun A outer s H args us vs Q hG hr e0 hb r hsp => ?_⟩
  have inH : K.In s.heap := e0.mod.kin.keeps fun c u z => (e0.bs c u z).1
  have noL : s.heap.NoLimit := e0.mod.nolimit.keeps fun c u z => (e0.bs c u z).1
  refine codeAny_call_function hr.depth (inH _ _ lk) rfl S.co S.gen rfl (PySem.W.codeRec_of inH hcd) (hb _ _ _ _ ?_)
  refine wpAny_newFunctionEnv_cells S.kind (fun ⟨n, v⟩ hy => ?_) fun env he s1 ic => ?_
  · rcases S.par n (List.of_mem_zip hy).1 with z | z
    · exact .inl z
    · exact .inr ⟨z, PySem.W.cellsFrom_some _ _ _ (.inl z)⟩
  subst he
  refine ⟨noL.keeps ic.toInCall.keep, codeAny_func ?_⟩
  obtain ⟨t, ht0, hq⟩ := hbody cdv A outer s H vs Q hG (hr.deeper _) hsp
  have ht := ht0.nox
  have J0 : Inv (cxOf CX0 P w K mg base N qual (defScope st) f cdv A outer s H E0) [] (L2.start N vs) H s1 := inv_start S hr.hd e0 (len _ _ _ hsp) r ic
  refine wpAny_mono (ht.run [] s1 (L2.start N vs) H _ J0 hq) (fun fl s' hs => ?_) fun e s' hs => hs
  cases fl with
  | ret u =>
    obtain ⟨v, σ', H', J, rv, q⟩ := hs
    exact ⟨v, H', J.os, J.bare, J.base, J.hok, rv, q⟩
  | next =>
    obtain ⟨σ', H', J, q⟩ := hs
    exact ⟨V.non, H', J.os, J.bare, J.base, J.hok, rfl, q⟩
  | brk =>
    obtain ⟨_, _, _, q⟩ := hs
    exact False.elim q
  | cont =>
    obtain ⟨_, _, _, q⟩ := hs
    exact False.elim q
def tCallG (sp : Sp) (t : TA) : TE := fun σ H Q => t σ H fun vs H1 => sp vs H1 Q E0
theorem pe_callG {X : Cx} {k : Nat} {f : Addr} {fd : FuncData} {ps : List Str} {sp : Sp} {x : Str} {p pos : Pos} {e : Expr} {es : List Expr} {t : TA} (F : FnG X.prog X.w X.K X.mg X.base k f fd ps sp) (hG : X.A.guards = some []) (hr : Room k X.A)
    (hg : Gl X x) (hm : X.mg x = some (.ref f)) (hk : PySem.W.keepIn X.K (.ref f) = true) (hb : L2.Binds X.K fd ps []) (ha : PA X (e :: es) t) (hdb : (x == ("__debug__" : Str)) = false := by decide)
    (he : starEach (e :: es) X.env = (false, eval e X.env) :: starEach es X.env := by rfl) (hpl : (backTo pos (starEach es X.env)).any (·.1) = false := by rfl) :
    PE X (.Call (.Name x p) (e :: es) [] pos) (tCallG sp t) := by
  refine ⟨fun pins s σ H Q I h => ?_⟩
  refine wpAny_Call_Name_kw (ld_glob I hg hm ?_ hdb)
  refine PySem.W.callWith_K (h₀ := X.base) I.ok.mod.kin hk (thn (ha.run pos pins s σ H _ I h) fun us s1 ⟨vs, H1, I1, r, q⟩ => ⟨I1.kIn, ?_⟩) he hpl
  have hb1 := hb s1 us I1.kIn (by rw [List.append_nil, ← r.length]; exact F.len _ _ _ q)
  rw [List.append_nil] at hb1
  refine wpAny_call (codeAny_mono (F.run X.A X.stack s1 H1 ⟨us, []⟩ us vs Q hG hr I1.env0 hb1 r q) fun res s' hq => ?_)
  cases res with
  | error er => exact hq.elim
  | ok fl =>
    cases fl with
    | ret u => exact I1.after hq
    | next => exact False.elim hq
    | brk => exact False.elim hq
    | cont => exact False.elim hq
end
/-! ### the law's own call -/
theorem lawG {P : Program} {w : World} {K : PySem.W.Frag} {mg mb : Str → Option Value} {k : Nat} {fa a : Addr} {fd : FuncData} {x : Str} {sp : Sp} {s1 : Shared} {vs : List Value} {ns : List Int}
    (inK : K.In s1.heap) (gl : s1.heap.Ns mainGlobals mg) (bl : s1.heap.Ns builtinsNs mb) (bb : ∀ x : Str, x ≠ "__name__" → mb x = bootBuiltins x) (noL : s1.heap.NoLimit) (gn : s1.gens = #[])
    (at_ : s1.heap.get? a = some { cls := .type "list", data := .seq vs.toArray }) (are : IntsAre vs ns) (few : ns.length ≤ sizeLine) (rm : Room k callerA)
    (F : ∀ base : Heap, K.In base → base.Ns mainGlobals mg → FnG P w K mg base k fa fd [x] sp) (bd : ∀ (s : Shared) (u : Value), BindsTo s fd ⟨[u], []⟩ [(x, u)])
    (hsp : ∀ H : Hp, Only H → SqL K H a (ns.map V.int) → sp [.ref a] H (fun v _ => v = .bl true) E0) :
    codeAny (model P w) callerA (.call (.ref fa) ⟨[.ref a], []⟩) (fun r s' => r = .ok (.ret (.bool true)) ∧ OldK s1.heap s'.heap ∧ s'.os = s1.os ∧ AllBare s'.gens) s1 := by
  have rel := vals_ints are
  have ln := are.length
  have main : ∀ H : Hp, Only H → SqL K H a (ns.map V.int) → HOk P w H s1.heap → (∀ b, H b ≠ none → b = a) → (H a ≠ none → K.lookup a = none) →
      codeAny (model P w) callerA (.call (.ref fa) ⟨[.ref a], []⟩) (fun r s' => r = .ok (.ret (.bool true)) ∧ OldK s1.heap s'.heap ∧ s'.os = s1.os ∧ AllBare s'.gens) s1 := by
    intro H only sq ok here off
    have hid : ∀ {b : Addr} {o : Obj}, s1.heap.get? b = some o → H b = none → (hidT s1.heap H).get? b = some o := fun e n => hidT_get e n
    have isA : ∀ {b : Addr} {u : HO}, H b = some u → b = a := fun {b u} z => here b (by rw [z]; simp)
    have dictFree : ∀ {b : Addr} {o : Obj} {es : Array DictEntry} {ep : Nat}, s1.heap.get? b = some o → o.data = .dict es ep → H b = none := fun {b o es ep} e d => by
      cases z : H b with
      | none => rfl
      | some u =>
        have e1 := isA z
        subst e1
        rw [at_] at e
        cases e
        have d1 : Data.seq vs.toArray _ = Data.dict es ep := d
        cases d1
    have nsOk : ∀ {b : Addr} {m : Str → Option Value}, s1.heap.Ns b m → (hidT s1.heap H).Ns b m := fun {b m} ⟨o, es, ep, e, d, r⟩ => ⟨o, es, ep, hid e (dictFree e d), d, r⟩
    have inB : K.In (hidT s1.heap H) := fun b o e => hid (inK b o e) (by
      cases z : H b with
      | none => rfl
      | some u =>
        have e1 := isA z
        subst e1
        rw [off (by rw [z]; simp)] at e
        cases e)
    have md : Mod K mg (hidT s1.heap H) := ⟨inB, nsOk gl, ⟨mb, nsOk bl, bb⟩, let ⟨mc, h1, h2⟩ := noL; ⟨mc, nsOk h1, h2⟩⟩
    have ev : Env0 P w K mg (hidT s1.heap H) callerA [] s1 H :=
      ⟨rfl, md, fun b o e => of_hidT e, Nat.le_of_eq (hidT_size _ _), trivial, fun b hb => absurd (show b ∈ ([] : List Addr) from hb) (by simp), ok, .of_eq gn⟩
    refine codeAny_mono ((F _ inB (nsOk gl)).run callerA [] s1 H ⟨[.ref a], []⟩ [.ref a] [.ref a] _ rfl rm ev (bd s1 (.ref a)) (.cons rfl .nil) (hsp H only sq)) fun r s' h => ?_
    cases r with
    | error e => exact h.elim
    | ok fl =>
      cases fl with
      | next => exact False.elim h
      | brk => exact False.elim h
      | cont => exact False.elim h
      | ret u =>
        obtain ⟨v, H', os, bare, un, ok', rv, z⟩ := h
        obtain rfl : v = .bl true := z
        obtain rfl : u = Value.bool true := rv
        refine ⟨rfl, OldK.of_keep fun b o e => ?_, os, bare⟩
        rcases only b with n | ⟨ob, xs, z⟩
        · exact un.keep b o e n (fun z => absurd (show b ∈ ([] : List Addr) from z) (by simp)) (by simp)
        · have z2 := un.frzs b ob _ z
          obtain ⟨e1, _⟩ := ok b _ z
          obtain ⟨e2, _⟩ := ok' b _ z2
          rw [e] at e1
          cases e1
          exact e2
  cases lk : K.lookup a with
  | some o =>
    have e := inK a o lk
    rw [at_] at e
    cases e
    refine main (fun _ => none) (fun _ => .inl rfl) (.inr ⟨_, vs.toArray, _, lk, rfl, rfl, rfl, by rw [List.size_toArray, ln]; exact few, by simpa using rel⟩)
      (fun b u z => by have z1 : (none : Option HO) = some u := z; cases z1) (fun b z => absurd rfl z) fun z => absurd rfl z
  | none =>
    refine main (fun b => if b = a then some (.frz { cls := .type "list", data := .seq vs.toArray } (.lst (ns.map V.int))) else none) (fun b => ?_)
      (.inl (.inr ⟨{ cls := .type "list", data := .seq vs.toArray }, if_pos rfl⟩)) (fun b u z => ?_) (fun b z => ?_) fun _ => lk
    · by_cases e : b = a
      · exact .inr ⟨_, _, if_pos e⟩
      · exact .inl (if_neg e)
    · by_cases e : b = a
      · have z1 := (if_pos e).symm.trans z
        cases z1
        subst e
        exact ⟨at_, by rw [List.length_map]; exact few, vs, _, rel, at_⟩
      · have z1 := (if_neg e).symm.trans z
        cases z1
    · by_cases e : b = a
      · exact e
      · exact absurd (if_neg e) z
theorem walkG {l : PySem.W.OpenLaw} {n k : Nat} {q : Program} {loose : List Str} {XP : (Str → Option Value) → Heap → Prop} {YP : World → Heap → Prop} {d : DefRec} {K : Params → PySem.W.Frag} {sp : World → Sp} {x : Str}
    (hn : l.most = some n) (hn2 : n ≤ sizeLine) (hdf : d.params.defaults = []) (rm : Room k callerA) (hY : ∀ (w : World) (h : Heap), YP w h → (K w.params).In h)
    (F : ∀ (w : World) (mg : Str → Option Value) (fa : Addr) (h : Heap), (K w.params).In h → h.Ns mainGlobals mg → mg d.name = some (.ref fa) →
      ∃ fd : FuncData, (∀ (s : Shared) (u : Value), BindsTo s fd ⟨[u], []⟩ [(x, u)]) ∧
        ∀ base : Heap, (K w.params).In base → base.Ns mainGlobals mg → FnG l.prog w (K w.params) mg base k fa fd [x] (sp w))
    (hsp : ∀ (w : World) (H : Hp) (a : Addr) (ns : List Int), ns.length ≤ n → Only H → SqL (K w.params) H a (ns.map V.int) → sp w [.ref a] H (fun v _ => v = .bl true) E0) :
    PySem.W.WalkO q loose XP YP l.row.toRowW d [] (fun f vs => PySem.call f vs) := by
  refine Att.attach_call hn hdf fun w s0 s1 mg mb fa o pm cd doc a vs ns G Y ho hd hcd hmg at_ are few gn => ?_
  obtain ⟨fd, bd, hF⟩ := F w mg fa _ (hY w _ Y) G.T.g hmg
  exact lawG (hY w _ Y) G.T.g G.T.b G.T.builtins G.T.nolimit gn at_ are (Nat.le_trans few hn2) rm hF bd fun H only sq => hsp w H a ns few only sq

/-! ### repr of data -/
theorem bt_repr : bootBuiltins "repr" = some (.builtin "repr") := by decide +kernel
def rRepr (K : PySem.W.Frag) : List V → Hp → VK → Prop := fun xs H Q => ∃ (a : Addr) (d : PyData), xs = [.ref a] ∧ Dp K H (.ref a) d ∧ d.showable = true ∧ d.hasDict = false ∧ d.depth ≤ 60 ∧ d.shown.length ≤ sizeLine ∧ Q (.str d.shown) H
theorem call_reprD {X : Cx} (hG : X.A.guards = some []) (hu : X.A.units + 64 < cLine) : CallR X (.builtin "repr") (rRepr X.K) := by
  intro pins s σ H xs us Q I r h
  obtain ⟨a, d, rfl, hd, h1, h2, h3, h4, q⟩ := h
  cases r with
  | cons rx rr =>
    cases rr
    cases rx
    obtain ⟨as, rd⟩ := Dp.reads I d (.ref a) (.ref a) hd rfl
    refine repr_of_reads' rd h1 (fun z => by rw [h2] at z; cases z) hG (by omega) (fun b o e => e) (fun h' u tk hk => ?_) h4
    exact ⟨.str d.shown, H, I.kept (t' := tk) hk, ⟨_, rfl⟩, q⟩
end Xg
namespace Kd
open PySem PySem.Spec PyProof.Rows L2 Xg
def topS (i : Nat) : Stmt := PySem.Challenge.pw_forthback_k00_lines_widths_standings_or.main.body.getD i (.Pass ⟨0, 0, 0, 0⟩)
abbrev sBox : Stmt := topS 13
abbrev sTake : Stmt := topS 14
theorem scB : FnScope ["_law_script", "_law_k", "_law_cell"] ["_law_script", "_law_k"] (defScope sBox) := ⟨rfl, rfl, rfl, by decide +kernel, rfl, by decide +kernel, by decide +kernel⟩
theorem scT : FnScope ["_law_box_here", "_law_bound", "_law_found", "_law_once"] ["_law_box_here", "_law_bound"] (defScope sTake) := ⟨rfl, rfl, rfl, by decide +kernel, rfl, by decide +kernel, by decide +kernel⟩
theorem inRange {i n : Int} (h : 0 < n) : 0 ≤ i % n ∧ i % n < n := ⟨Int.emod_nonneg i (by omega), Int.emod_lt_of_pos i h⟩
theorem pos1 : (0 : Int) < 2147483647 := by decide
theorem pos2 : (0 : Int) < 40009 := by decide
theorem pos3 : (0 : Int) < 2147483629 := by decide
section
variable {P : Program} {w : World} {K : PySem.W.Frag} {mg : Str → Option Value} {base : Heap}
/-- the next draw below n: some number there; the box's first falls, its third counts -/
def spTake : Sp := fun vs H Q _ => ∃ (b : Addr) (x y z n : Int), vs = [.ref b, .int n] ∧ H b = some (.lst [.int x, .int y, .int z]) ∧
  0 ≤ x ∧ 0 ≤ y ∧ y < 1000000000000 ∧ 0 ≤ z ∧ z < 1000000000 ∧ 0 < n ∧ n < 1073741824 ∧
  ∀ r x' z', 0 ≤ r → r < n → 0 ≤ x' → z ≤ z' → z' ≤ z + 1 → Q (.int r) (upd H b (.lst [.int x', .int y, .int z']))
theorem ok_take {f : Addr} {fd : FuncData} {k : Nat} (F : Fun K "_law_take" "_law_take" sTake f fd) :
    FnOk P w K mg base CX0 (k + 1) f fd ["_law_box_here", "_law_bound"] spTake := by
  refine F.ok scT (fun vs H Q E h => ?_) (fun cdv A outer s H vs Q E hr h => ?_)
  · obtain ⟨b, x, y, z, n, rfl, _⟩ := h
    rfl
  · obtain ⟨b, x, y, z, n, rfl, hb, hx, hy, hy2, hz, hz2, hn, hn2, q⟩ := h
    refine ⟨_, pss_cons (ps_if (pt_cmpR op_gt (pe_ix ix_list (pv 0) pe_int (fun _ _ => rfl)) pe_int (nomark _))
        (pss_cons (ps_set (i := 2) scT.nd rfl (.inl rfl) (pe_op op_mod (pe_ix ix_list (pv 0) pe_int (fun _ _ => rfl)) (pv 1)))
        (pss_cons (ps_asg (pe_op op_fdiv (pe_ix ix_list (pv 0) pe_int (fun _ _ => rfl)) (pv 1)) (pg_sub (pv 0) pe_int set_list))
        (pss_one (ps_ret (pv 2))))) pss_nil)
      (pss_cons (ps_asg (pe_op op_add (pe_ix ix_list (pv 0) pe_int (fun _ _ => rfl)) pe_int) (pg_sub (pv 0) pe_int set_list))
      (pss_cons (ps_set (i := 3) scT.nd rfl (.inl rfl) (pe_op op_mod (pe_op op_pow (pe_op op_add (pe_ix ix_list (pv 0) pe_int (fun _ _ => rfl)) (pe_op op_mul pe_int (pe_ix ix_list (pv 0) pe_int (fun _ _ => rfl)))) pe_int) pe_int))
      (pss_one (ps_ret (pe_op op_mod (pe_op op_fdiv (pe_op op_mod (pe_op op_add (pe_op op_mul (pv 3) (pe_op op_add (pe_op op_mod (pv 3) pe_int) pe_int)) (pe_op op_mul (pe_ix ix_list (pv 0) pe_int (fun _ _ => rfl)) pe_int)) pe_int) pe_int) (pv 1)))))), ?_⟩
    have s0 : SqL K H b [.int x, .int y, .int z] := .inl (.inl hb)
    refine ⟨_, rfl, b, _, 0, _, rfl, rfl, s0, atI_nat (j := 0) rfl, x, 0, rfl, rfl, _, rfl, ite2 (fun e => ?_) (fun e => ?_)⟩
    · refine ⟨_, rfl, b, _, 0, _, rfl, rfl, s0, atI_nat (j := 0) rfl, _, rfl, x, n, rfl, rfl, hn, ?_⟩
      refine ⟨_, rfl, b, _, 0, _, rfl, rfl, s0, atI_nat (j := 0) rfl, _, rfl, x, n, rfl, rfl, ⟨hn, hn2⟩, ?_⟩
      refine ⟨_, rfl, b, _, 0, 0, rfl, rfl, hb, rfl, ?_⟩
      refine ⟨_, rfl, ?_⟩
      have g := inRange (i := x) hn
      exact q _ _ _ g.1 g.2 (Int.ediv_nonneg hx (by omega)) (Int.le_refl _) (by omega)
    · refine ⟨_, rfl, b, _, 2, _, rfl, rfl, s0, atI_nat (j := 2) rfl, z, 1, rfl, rfl, ?_⟩
      refine ⟨_, rfl, b, _, 2, 2, rfl, rfl, hb, rfl, ?_⟩
      have s1 : SqL K (upd H b (.lst [.int x, .int y, .int (z + 1)])) b [.int x, .int y, .int (z + 1)] := .inl (.inl upd_same)
      refine ⟨_, rfl, b, _, 1, _, rfl, rfl, s1, atI_nat (j := 1) rfl, _, rfl, b, _, 2, _, rfl, rfl, s1, atI_nat (j := 2) rfl, 39373, z + 1, rfl, rfl, .inl ⟨by decide, by decide⟩,
        y, 39373 * (z + 1), rfl, rfl, _, 5, rfl, rfl, ⟨by decide, by decide, ?_⟩, _, 2147483647, rfl, rfl, pos1, ?_⟩
      · omega
      · have g := inRange (i := (y + 39373 * (z + 1)) ^ (5 : Int).toNat) (n := 2147483647) (by decide)
        have g2 := inRange (i := (y + 39373 * (z + 1)) ^ (5 : Int).toNat % 2147483647) (n := 40009) (by decide)
        refine ⟨_, rfl, _, rfl, _, 40009, rfl, rfl, pos2, _, 7, rfl, rfl, _, _, rfl, rfl, .inl ⟨by omega, by omega⟩,
          _, rfl, b, _, 2, _, rfl, rfl, s1, atI_nat (j := 2) rfl, z + 1, 7919, rfl, rfl, .inr ⟨by decide, by decide⟩, _, _, rfl, rfl, _, 2147483629, rfl, rfl, pos3,
          _, 64, rfl, rfl, ⟨by decide, by decide⟩, _, rfl, _, n, rfl, rfl, hn, ?_⟩
        exact q _ x (z + 1) (inRange hn).1 (inRange hn).2 hx (by omega) (Int.le_refl _)
/-- a box made of a cell: its numbers within bounds -/
def spBox (K : PySem.W.Frag) : Sp := fun vs H Q _ => ∃ (a : Addr) (ns : List Int) (k : Nat), vs = [.ref a, .int k] ∧ SqL K H a (ns.map V.int) ∧ k ≤ 1000 ∧
  ∀ p x y, H p = none → 0 ≤ x → 0 ≤ y → y < 1000000000000 → Q (.ref p) (upd H p (.lst [.int x, .int y, .int 0]))
theorem ok_box {f : Addr} {fd : FuncData} {k : Nat} (F : Fun K "_law_box" "_law_box" sBox f fd) (ml : mg "len" = none) (ma : mg "abs" = none) (mi : mg "int" = none) :
    FnOk P w K mg base CX0 (k + 1) f fd ["_law_script", "_law_k"] (spBox K) := by
  refine F.ok scB (fun vs H Q E h => ?_) (fun cdv A outer s H vs Q E hr h => ?_)
  · obtain ⟨a, ns, k, rfl, _⟩ := h
    rfl
  · obtain ⟨a, ns, k, rfl, hS, hk, q⟩ := h
    refine ⟨_, pss_cons (ps_set (i := 2) scB.nd rfl (.inl rfl) pe_int)
      (Evl.pss_cut (ps_if (pt_cmpR op_lt (pv 1) (pe_callB call_len_seq (by rfl) ml PySem.boot_len (pa_cons (pv 0) pa_nil)) (nomark _))
        (pss_one (ps_set (i := 2) scB.nd rfl (.inl rfl) (pe_ix ix_list (pv 0) (pv 1) (fun _ _ => rfl)))) pss_nil)
      (pss_one (ps_ret (pe_lst (pa_cons (pe_op op_mul (pe_callB call_abs (by rfl) ma (by decide +kernel) (pa_cons (pv 2) pa_nil))
          (pe_callTy call_int1 (by rfl) mi (by decide +kernel) (pa_cons (pe_cmpR op_ge (pe_callB call_abs (by rfl) ma (by decide +kernel) (pa_cons (pv 2) pa_nil)) (pe_op op_pow pe_int pe_int) (nomark _)) pa_nil)))
        (pa_cons (pe_op op_add (pe_op op_add (pe_op op_mod (pv 2) pe_int) (pe_op op_mul pe_int (pv 1))) pe_int)
        (pa_cons pe_int pa_nil))))))), ?_⟩
    refine ⟨fun σ' H' => H' = H ∧ ∃ c : Int, σ' = [some (.ref a), some (.int k), some (.int c)], ?_, fun σ' H' h => ?_⟩
    · refine ⟨_, rfl, _, rfl, a, _, rfl, .inl hS, _, _, rfl, rfl, _, rfl, ite2 (fun e => ?_) (fun e => ?_)⟩
      · have e1 : (k : Int) < ((ns.map V.int).length : Nat) := of_decide_eq_true e
        have e2 : k < ns.length := by
          rw [List.length_map] at e1
          omega
        have g : (ns.map V.int)[k]? = some (.int ns[k]) := by
          rw [List.getElem?_map, List.getElem?_eq_getElem e2]
          rfl
        exact ⟨_, rfl, _, rfl, a, _, _, _, rfl, rfl, hS, atI_nat g, rfl, ns[k], rfl⟩
      · exact ⟨rfl, 0, rfl⟩
    · obtain ⟨rfl, c, rfl⟩ := h
      have g := inRange (i := c) (n := 2147483629) (by decide)
      refine ⟨_, rfl, c, rfl, _, rfl, c, rfl, 10, 18, rfl, rfl, ⟨by decide, by decide, by decide⟩, _, _, rfl, rfl, .inr ⟨_, rfl, ?_⟩⟩
      have hb : ∀ b : Bool, (0 : Int) ≤ (if b = true then 1 else 0) ∧ (if b = true then (1 : Int) else 0) ≤ 1 := by decide
      have ha : (0 : Int) ≤ (if c < 0 then -c else c) := by split <;> omega
      refine ⟨_, _, rfl, rfl, .inr ⟨?_, ?_⟩, _, rfl, c, 2147483629, rfl, rfl, pos3, _, rfl, 7919, k, rfl, rfl, .inl ⟨by decide, by decide⟩, _, _, rfl, rfl, _, 11, rfl, rfl,
        (show 3 ≤ sizeLine by decide), fun p hp => ?_⟩
      · exact Int.lt_of_lt_of_le (by decide) (hb _).1
      · exact Int.lt_of_le_of_lt (hb _).2 (by decide)
      · exact q p _ _ hp (Int.mul_nonneg ha (hb _).1) (by omega) (by omega)
end
theorem dp_ints {K : PySem.W.Frag} {H : Hp} : ∀ ms : List Int, DpAll K H (ms.map V.int) (ms.map PyData.int)
  | [] => .nil
  | m :: r => .cons (.int m) (dp_ints r)
theorem flat_lay {α : Type} (c : α → PyData) (h1 : ∀ a, (c a).canLay0 = true) (h2 : ∀ a, (c a).depth = 0) : ∀ ms : List α, PyData.canLayAll0 (ms.map c) = true ∧ PyData.depthAll (ms.map c) = 0
  | [] => ⟨rfl, rfl⟩
  | m :: r => by
    obtain ⟨g1, g2⟩ := flat_lay c h1 h2 r
    refine ⟨?_, ?_⟩
    · rw [List.map_cons, PyData.canLayAll0, h1, g1]
      rfl
    · rw [List.map_cons, PyData.depthAll, h2, g2]
      rfl
theorem shp_flat {α : Type} (c : α → PyData) (h1 : ∀ a, (c a).canLay0 = true) (h2 : ∀ a, (c a).depth = 0) (ms : List α) : SeqAt.shaped (.list (ms.map c)) = true := by
  obtain ⟨g1, g2⟩ := flat_lay c h1 h2 ms
  unfold SeqAt.shaped
  rw [PyData.canLay0, PyData.depth, g1, g2]
  rfl
theorem shp_ints (ms : List Int) : SeqAt.shaped (.list (ms.map PyData.int)) = true := shp_flat PyData.int (fun _ => by simp [PyData.canLay0]) (fun _ => by simp [PyData.depth]) ms
theorem carry {H : Hp} {p l : Addr} {o u : HO} (hp : H p = some o) (n : H l = none) : upd H l u p = some o := (upd_ne (ne_of_none hp n)).trans hp
abbrev sSame : Stmt := topS 15
theorem scS : FnScope ["_law_found", "_law_due", "_law_one", "_law_two"] ["_law_found", "_law_due"] (defScope sSame) := ⟨rfl, rfl, rfl, by decide +kernel, rfl, by decide +kernel, by decide +kernel⟩
/-- data of at most so many lists, one in another -/
def shal : Nat → PyData → Bool
  | _, .none => true
  | _, .bool _ => true
  | _, .int _ => true
  | _, .str _ => true
  | 0, .list _ => false
  | 0, .tuple _ => false
  | n + 1, .list ds => decide (ds.length ≤ 1000) && ds.all (shal n)
  | n + 1, .tuple ds => decide (ds.length ≤ 1000) && ds.all (shal n)
  | _, .dict _ => false
section
variable {K : PySem.W.Frag} {H H' : Hp} {a b : Addr} {xs ys : List V}
theorem tyx_l (h : SqL K H a xs) : TyX K H (.ref a) (.type "list") := by
  rcases h with (h | ⟨o, h⟩) | ⟨o, its, n, h1, h2, _⟩
  · exact .base (.lst h)
  · exact .base (.frz h)
  · exact .kList h1 h2
theorem tyx_t (h : SqT K H a xs) : TyX K H (.ref a) (.type "tuple") := by
  rcases h with (h | ⟨o, h⟩) | ⟨o, its, n, h1, h2, _⟩
  · exact .base (.tup h)
  · exact .fTuple h
  · exact .kTuple h1 h2
mutual
theorem dp_mono (e : Evl.Ex H H') : ∀ {v : V} {d : PyData}, Dp K H v d → Dp K H' v d
  | _, _, .non => .non
  | _, _, .bl b => .bl b
  | _, _, .int i => .int i
  | _, _, .str x => .str x
  | _, _, .lst h g => .lst (Evl.ex_l e h) (dpa_mono e g)
  | _, _, .tup h g => .tup (Evl.ex_t e h) (dpa_mono e g)
theorem dpa_mono (e : Evl.Ex H H') : ∀ {vs : List V} {ds : List PyData}, DpAll K H vs ds → DpAll K H' vs ds
  | _, _, .nil => .nil
  | _, _, .cons h g => .cons (dp_mono e h) (dpa_mono e g)
end
theorem dpa_len : ∀ {vs : List V} {ds : List PyData}, DpAll K H vs ds → vs.length = ds.length
  | _, _, .nil => rfl
  | _, _, .cons _ g => by rw [List.length_cons, List.length_cons, dpa_len g]
theorem dpa_at : ∀ {vs : List V} {ds : List PyData} {i : Nat} {v : V}, DpAll K H vs ds → vs[i]? = some v → ∃ d, ds[i]? = some d ∧ Dp K H v d
  | _, _, _, _, .nil, e => by simp at e
  | _, _, 0, _, .cons h g, e => by
    simp at e
    subst e
    exact ⟨_, rfl, h⟩
  | _, _, i + 1, v, .cons h g, e => dpa_at (i := i) g (by simpa using e)
theorem walk_zipT {n : Nat} (hn : n = min xs.length ys.length) : Walk (RZ.ItzT K a b) n (fun H => SqT K H a xs ∧ SqT K H b ys) (YPair (fun i => xs[i]?) (fun i => ys[i]?)) := by
  subst hn
  refine ⟨fun i _ hi q => ?_, fun _ q => ⟨xs, ys, q.1, q.2, by omega⟩, fun i H v H' _ q y => ?_⟩
  · exact ⟨xs, ys, xs[i]'(by omega), ys[i]'(by omega), q.1, q.2, List.getElem?_eq_getElem _, List.getElem?_eq_getElem _⟩
  · obtain ⟨T, x, z, g1, g2, g3, g4, g5⟩ := y
    exact ⟨T, x, z, g1, g2, g3, g4 xs q.1, g5 ys q.2⟩
end
section
variable {P : Program} {w : World} {K : PySem.W.Frag} {mg : Str → Option Value} {base : Heap}
theorem ifY {b : Bool} {A B : Prop} (h : b = true) (hA : A) : if b = true then A else B := by
  rw [if_pos h]
  exact hA
theorem ifN {b : Bool} {A B : Prop} (h : b = false) (hB : B) : if b = true then A else B := by
  rw [h]
  exact iteF hB
theorem kit2 {K : PySem.W.Frag} {t : String} {b c : Bool} (h1 : kitB t "list" = some b) (h2 : kitB t "tuple" = some c) : PySem.W.kitAny K (.type t) [.type "list", .type "tuple"] = some (b || c) := by
  refine kitAny_cons (kit_ty h1) (fun e => ?_) (fun e => by rw [e]; rfl)
  subst e
  refine kitAny_cons (kit_ty h2) (fun e => ?_) (fun e => by rw [e]; rfl)
  subst e
  exact kitAny_nil
theorem two_cls : Paired ClsV [.ty "list", .ty "tuple"] [.type "list", .type "tuple"] := .cons (.ty _) (.cons (.ty _) .nil)
theorem two_size : 2 ≤ sizeLine := by decide
theorem all_yes : ∀ n : Nat, (List.replicate n true).all id = true
  | 0 => rfl
  | n + 1 => by rw [List.replicate_succ, List.all_cons, all_yes n]; rfl
theorem all_at {α : Type} {p : α → Bool} : ∀ {l : List α} {i : Nat} {a : α}, l.all p = true → l[i]? = some a → p a = true := fun {l i a} h e =>
  List.all_eq_true.mp h a (List.mem_of_getElem? e)
/-- both read as one and the same -/
def spSame (K : PySem.W.Frag) (n : Nat) : Sp := fun vs H Q _ => ∃ (x y : V) (d : PyData), vs = [x, y] ∧ Dp K H x d ∧ Dp K H y d ∧ shal n d = true ∧ ∀ H', Evl.Ex H H' → Q (.bl true) H'
def spPrev (K : PySem.W.Frag) : Nat → Sp
  | 0 => fun _ _ _ _ => False
  | n + 1 => spSame K n
structure Names (mg : Str → Option Value) : Prop where
  isi : mg "isinstance" = none
  lst : mg "list" = none
  tup : mg "tuple" = none
  len : mg "len" = none
  all : mg "all" = none
  zip : mg "zip" = none
  str : mg "str" = none
  int : mg "int" = none
  bool : mg "bool" = none
theorem bt_isi : bootBuiltins "isinstance" = some (.builtin "isinstance") := by decide +kernel
theorem bt_tup : bootBuiltins "tuple" = some (.type "tuple") := by decide +kernel
theorem bt_lst : bootBuiltins "list" = some (.type "list") := by decide +kernel
theorem bt_str : bootBuiltins "str" = some (.type "str") := by decide +kernel
theorem bt_int : bootBuiltins "int" = some (.type "int") := by decide +kernel
theorem bt_bool : bootBuiltins "bool" = some (.type "bool") := by decide +kernel
theorem bt_all : bootBuiltins "all" = some (.builtin "all") := by decide +kernel
theorem ok_same {f : Addr} {fd : FuncData} (F : Fun K "_law_same" "_law_same" sSame f fd) (b : Binds K fd ["_law_found", "_law_due"] []) (gs : mg "_law_same" = some (.ref f)) (N : Names mg) :
    ∀ n : Nat, FnOk P w K mg base CX0 n f fd ["_law_found", "_law_due"] (spPrev K n)
  | 0 => ⟨fun _ _ _ _ h => h.elim, fun _ _ _ _ _ _ _ _ _ _ _ _ _ h => h.elim⟩
  | n + 1 => by
    have G := ok_same F b gs N n
    refine F.ok scS (fun vs H Q E h => ?_) (fun cdv A outer s H vs Q E hr h => ?_)
    · obtain ⟨x, y, d, rfl, _⟩ := h
      rfl
    obtain ⟨x, y, d, rfl, hx, hy, hd, q⟩ := h
    refine ⟨_, pss_cons (ps_if (pt_val (pe_callB call_isiT (by rfl) N.isi bt_isi (pa_cons (pv 1) (pa_cons (pe_tup (pa_cons (pe_bltn (v := .ty "list") (by rfl) N.lst bt_lst rfl) (pa_cons (pe_bltn (v := .ty "tuple") (by rfl) N.tup bt_tup rfl) pa_nil))) pa_nil))))
        (pss_cons (ps_if (pw_or (pt_cmpR op_ne (pe_callB call_isi (by rfl) N.isi bt_isi (pa_cons (pv 0) (pa_cons (pe_bltn (v := .ty "list") (by rfl) N.lst bt_lst rfl) pa_nil))) (pe_callB call_isi (by rfl) N.isi bt_isi (pa_cons (pv 1) (pa_cons (pe_bltn (v := .ty "list") (by rfl) N.lst bt_lst rfl) pa_nil))) (nomark _)) (pw_or1 (pt_cmpR op_ne (pe_callB call_isi (by rfl) N.isi bt_isi (pa_cons (pv 0) (pa_cons (pe_bltn (v := .ty "tuple") (by rfl) N.tup bt_tup rfl) pa_nil))) (pe_callB call_isi (by rfl) N.isi bt_isi (pa_cons (pv 1) (pa_cons (pe_bltn (v := .ty "tuple") (by rfl) N.tup bt_tup rfl) pa_nil))) (nomark _)))).pt
          (pss_one (ps_ret pe_bl)) pss_nil)
        (pss_cons (ps_if (pt_cmpR op_ne (pe_callB call_len_seq (by rfl) N.len PySem.boot_len (pa_cons (pv 0) pa_nil)) (pe_callB call_len_seq (by rfl) N.len PySem.boot_len (pa_cons (pv 1) pa_nil)) (nomark _))
          (pss_one (ps_ret pe_bl)) pss_nil)
        (pss_one (ps_ret (pe_callB (cr_all rfl) (by rfl) N.all bt_all (pa_cons
          (pe_lc (own := [("_law_one", 2), ("_law_two", 3)]) (g := gTup K 2 (gCons (gName 2) (gCons (gName 3) gNil))) (tt := tYes) rfl scS.nd (RZ.pi_zipA (by rfl) N.zip (pa_cons (pv 0) (pa_cons (pv 1) pa_nil)))
            (blkOk_by (N := ["_law_found", "_law_due", "_law_one", "_law_two"]) (sc := defScope sSame) (by decide +kernel))
            (fun _ _ _ _ _ => pg_tup rfl (pgs_cons (pg_name (i := 2) scS.nd rfl (.inl rfl)) (pgs_cons (pg_name (i := 3) scS.nd rfl (.inl rfl)) pgs_nil)))
            (fun _ _ _ _ _ => pts_nil)
            (fun _ _ _ _ _ => pe_call G hr (by rfl) gs F.kp b .nil pass0 (pa_cons (pv 2) (pa_cons (pv 3) pa_nil))))
          pa_nil)))))) pss_nil)
      (pss_cons (ps_if (pw_or (pt_cmp (pc_isN (pv 1))) (pw_or1 (pt_val (pe_callB call_isi (by rfl) N.isi bt_isi (pa_cons (pv 1) (pa_cons (pe_bltn (v := .ty "str") (by rfl) N.str bt_str rfl) pa_nil)))))).pt
        (pss_one (ps_ret (pe_and (pe_cmpR op_eq (pv 0) (pv 1) (nomark _)) (pe_one (pe_cmpR op_eq (pe_callB call_isi (by rfl) N.isi bt_isi (pa_cons (pv 0) (pa_cons (pe_bltn (v := .ty "str") (by rfl) N.str bt_str rfl) pa_nil))) (pe_callB call_isi (by rfl) N.isi bt_isi (pa_cons (pv 1) (pa_cons (pe_bltn (v := .ty "str") (by rfl) N.str bt_str rfl) pa_nil))) (nomark _)))))) pss_nil)
      (pss_one (ps_ret (pe_and (pe_callB call_isi (by rfl) N.isi bt_isi (pa_cons (pv 0) (pa_cons (pe_bltn (v := .ty "int") (by rfl) N.int bt_int rfl) pa_nil))) (pe_and (pe_cmpR op_eq (pe_callB call_isi (by rfl) N.isi bt_isi (pa_cons (pv 0) (pa_cons (pe_bltn (v := .ty "bool") (by rfl) N.bool bt_bool rfl) pa_nil))) (pe_callB call_isi (by rfl) N.isi bt_isi (pa_cons (pv 1) (pa_cons (pe_bltn (v := .ty "bool") (by rfl) N.bool bt_bool rfl) pa_nil))) (nomark _)) (pe_one (pe_cmpR op_eq (pv 0) (pv 1) (nomark _)))))))), ?_⟩
    cases d with
    | none =>
      cases hx
      cases hy
      refine ⟨_, rfl, two_size, fun t nt => ?_⟩
      have e0 : Evl.Ex H (upd H t (.tup [.ty "list", .ty "tuple"])) := Evl.Ex.new nt
      refine ⟨_, t, _, _, _, false, rfl, upd_same, two_cls, .base (.non), kit2 (b := false) (c := false) (by decide +kernel) (by decide +kernel), _, rfl, iteF ?_⟩
      refine ⟨_, rfl, _, rfl, iteT ?_⟩
      refine iteT ?_
      refine ⟨_, rfl, _, rfl, rfl, _, rfl, ifY (decide_eq_true rfl) ?_⟩
      refine ⟨_, rfl, _, _, _, _, false, rfl, .ty _, .base (.non), kit_ty (by decide +kernel), _, rfl, _, _, _, _, false, rfl, .ty _, .base (.non), kit_ty (by decide +kernel), rfl, ?_⟩
      exact q _ e0
    | bool b0 =>
      cases hx
      cases hy
      refine ⟨_, rfl, two_size, fun t nt => ?_⟩
      have e0 : Evl.Ex H (upd H t (.tup [.ty "list", .ty "tuple"])) := Evl.Ex.new nt
      refine ⟨_, t, _, _, _, false, rfl, upd_same, two_cls, .base (.bl b0), kit2 (b := false) (c := false) (by decide +kernel) (by decide +kernel), _, rfl, iteF ?_⟩
      refine ⟨_, rfl, _, rfl, ifN (decide_eq_false (fun z => nomatch z)) ?_⟩
      refine ⟨_, rfl, _, _, _, _, false, rfl, .ty _, .base (.bl b0), kit_ty (by decide +kernel), _, rfl, ?_⟩
      refine iteF ?_
      refine ⟨_, rfl, _, _, _, _, true, rfl, .ty _, .base (.bl b0), kit_ty (by decide +kernel), _, rfl, iteT ?_⟩
      refine ⟨_, rfl, _, _, _, _, true, rfl, .ty _, .base (.bl b0), kit_ty (by decide +kernel), _, rfl, _, _, _, _, true, rfl, .ty _, .base (.bl b0), kit_ty (by decide +kernel), rfl, _, rfl, ifY (decide_eq_true rfl) ?_⟩
      refine ⟨_, rfl, _, rfl, rfl, ?_⟩
      rw [decide_eq_true rfl]
      exact q _ e0
    | int i0 =>
      cases hx
      cases hy
      refine ⟨_, rfl, two_size, fun t nt => ?_⟩
      have e0 : Evl.Ex H (upd H t (.tup [.ty "list", .ty "tuple"])) := Evl.Ex.new nt
      refine ⟨_, t, _, _, _, false, rfl, upd_same, two_cls, .base (.int i0), kit2 (b := false) (c := false) (by decide +kernel) (by decide +kernel), _, rfl, iteF ?_⟩
      refine ⟨_, rfl, _, rfl, ifN (decide_eq_false (fun z => nomatch z)) ?_⟩
      refine ⟨_, rfl, _, _, _, _, false, rfl, .ty _, .base (.int i0), kit_ty (by decide +kernel), _, rfl, ?_⟩
      refine iteF ?_
      refine ⟨_, rfl, _, _, _, _, true, rfl, .ty _, .base (.int i0), kit_ty (by decide +kernel), _, rfl, iteT ?_⟩
      refine ⟨_, rfl, _, _, _, _, false, rfl, .ty _, .base (.int i0), kit_ty (by decide +kernel), _, rfl, _, _, _, _, false, rfl, .ty _, .base (.int i0), kit_ty (by decide +kernel), rfl, _, rfl, ifY (decide_eq_true rfl) ?_⟩
      refine ⟨_, rfl, _, rfl, rfl, ?_⟩
      rw [decide_eq_true rfl]
      exact q _ e0
    | str z0 =>
      cases hx
      cases hy
      refine ⟨_, rfl, two_size, fun t nt => ?_⟩
      have e0 : Evl.Ex H (upd H t (.tup [.ty "list", .ty "tuple"])) := Evl.Ex.new nt
      refine ⟨_, t, _, _, _, false, rfl, upd_same, two_cls, .base (.str z0), kit2 (b := false) (c := false) (by decide +kernel) (by decide +kernel), _, rfl, iteF ?_⟩
      refine ⟨_, rfl, _, rfl, ifN (decide_eq_false (fun z => nomatch z)) ?_⟩
      refine ⟨_, rfl, _, _, _, _, true, rfl, .ty _, .base (.str z0), kit_ty (by decide +kernel), _, rfl, ?_⟩
      refine iteT ?_
      refine ⟨_, rfl, _, rfl, rfl, _, rfl, ifY (decide_eq_true rfl) ?_⟩
      refine ⟨_, rfl, _, _, _, _, true, rfl, .ty _, .base (.str z0), kit_ty (by decide +kernel), _, rfl, _, _, _, _, true, rfl, .ty _, .base (.str z0), kit_ty (by decide +kernel), rfl, ?_⟩
      exact q _ e0
    | list ds =>
      cases hx with
      | lst h1 g1 =>
      cases hy with
      | lst h2 g2 =>
      rename_i a1 xs a2 ys
      cases n with
      | zero => exact absurd hd (by simp [shal])
      | succ n =>
      have hd0 : (decide (ds.length ≤ 1000) && ds.all (shal n)) = true := by
        rw [shal] at hd
        exact hd
      have hd' : ds.all (shal n) = true := (Bool.and_eq_true_iff.mp hd0).2
      have hsz : ds.length ≤ 1000 := of_decide_eq_true (Bool.and_eq_true_iff.mp hd0).1
      have l1 := dpa_len g1
      have l2 := dpa_len g2
      refine ⟨_, rfl, two_size, fun t nt => ?_⟩
      have e0 : Evl.Ex H (upd H t (.tup [.ty "list", .ty "tuple"])) := Evl.Ex.new nt
      have L1 := Evl.ex_l e0 h1
      have L2 := Evl.ex_l e0 h2
      refine ⟨_, t, _, _, _, true, rfl, upd_same, two_cls, tyx_l L2, kit2 (b := true) (c := false) (by decide +kernel) (by decide +kernel), _, rfl, iteT ?_⟩
      refine ⟨_, rfl, _, _, _, _, true, rfl, .ty _, tyx_l L1, kit_ty (by decide +kernel), _, rfl, _, _, _, _, true, rfl, .ty _, tyx_l L2, kit_ty (by decide +kernel), rfl, _, rfl, ifN rfl ?_⟩
      refine ⟨_, rfl, _, _, _, _, false, rfl, .ty _, tyx_l L1, kit_ty (by decide +kernel), _, rfl, _, _, _, _, false, rfl, .ty _, tyx_l L2, kit_ty (by decide +kernel), rfl, _, rfl, ifN rfl ?_⟩
      refine ⟨_, rfl, a1, _, rfl, .inl L1, _, rfl, a2, _, rfl, .inl L2, rfl, _, rfl, ifN ?_ ?_⟩
      · rw [l1, l2, decide_eq_true rfl]
        rfl
      refine ⟨_, rfl, _, rfl, a1, a2, xs, ys, rfl, .inl ⟨L1, L2, fun D nD => lc_it (walk_zip (xs := xs) (ys := ys) rfl)
        (fun i H' => Evl.Ex (upd H t (.tup [.ty "list", .ty "tuple"])) H' ∧ H' D = some (.lst ((List.replicate i true).map V.bl))) ⟨Evl.Ex.new nD, upd_same⟩
        (fun i H' _ p => ⟨Evl.ex_l p.1 L1, Evl.ex_l p.1 L2⟩) (fun i x H2 H3 hi p y => ?_) (fun H' p => ?_)⟩⟩
      · obtain ⟨T, u, v, rfl, nT, rfl, eu, ev⟩ := y
        have e2 := e0.trans (p.1.trans (Evl.Ex.new (o := .tup [u, v]) nT))
        obtain ⟨d1, k1, j1⟩ := dpa_at g1 eu
        obtain ⟨d2, k2, j2⟩ := dpa_at g2 ev
        rw [k1] at k2
        cases k2
        refine ⟨T, _, rfl, .inl (.inl upd_same), rfl, _, _, rfl, _, [], rfl, rfl, rfl, ?_⟩
        unfold tYes
        dsimp only
        rw [if_pos rfl]
        refine ⟨_, rfl, _, rfl, u, v, d1, rfl, dp_mono e2 j1, dp_mono e2 j2, all_at hd' k1, fun H4 e4 => ?_⟩
        have hD4 : H4 D = some (.lst ((List.replicate i true).map V.bl)) := e4 _ _ (by
          rw [upd_ne (ne_of_none p.2 nT)]
          exact p.2)
        refine ⟨_, hD4, ?_, ?_, ?_⟩
        · rw [List.length_map, List.length_replicate]
          exact Evl.sz_lt (by have := hsz; omega)
        · exact Evl.Ex.mut ((p.1.trans (Evl.Ex.new nT)).trans e4) nD
        · rw [upd_same, List.replicate_succ', List.map_append]
          rfl
      · refine ⟨D, _, rfl, .inl (.inl p.2), ?_⟩
        rw [all_yes]
        exact q _ (e0.trans p.1)
    | tuple ds =>
      cases hx with
      | tup h1 g1 =>
      cases hy with
      | tup h2 g2 =>
      rename_i a1 xs a2 ys
      cases n with
      | zero => exact absurd hd (by simp [shal])
      | succ n =>
      have hd0 : (decide (ds.length ≤ 1000) && ds.all (shal n)) = true := by
        rw [shal] at hd
        exact hd
      have hd' : ds.all (shal n) = true := (Bool.and_eq_true_iff.mp hd0).2
      have hsz : ds.length ≤ 1000 := of_decide_eq_true (Bool.and_eq_true_iff.mp hd0).1
      have l1 := dpa_len g1
      have l2 := dpa_len g2
      refine ⟨_, rfl, two_size, fun t nt => ?_⟩
      have e0 : Evl.Ex H (upd H t (.tup [.ty "list", .ty "tuple"])) := Evl.Ex.new nt
      have L1 := Evl.ex_t e0 h1
      have L2 := Evl.ex_t e0 h2
      refine ⟨_, t, _, _, _, true, rfl, upd_same, two_cls, tyx_t L2, kit2 (b := false) (c := true) (by decide +kernel) (by decide +kernel), _, rfl, iteT ?_⟩
      refine ⟨_, rfl, _, _, _, _, false, rfl, .ty _, tyx_t L1, kit_ty (by decide +kernel), _, rfl, _, _, _, _, false, rfl, .ty _, tyx_t L2, kit_ty (by decide +kernel), rfl, _, rfl, ifN rfl ?_⟩
      refine ⟨_, rfl, _, _, _, _, true, rfl, .ty _, tyx_t L1, kit_ty (by decide +kernel), _, rfl, _, _, _, _, true, rfl, .ty _, tyx_t L2, kit_ty (by decide +kernel), rfl, _, rfl, ifN rfl ?_⟩
      refine ⟨_, rfl, a1, _, rfl, .inr L1, _, rfl, a2, _, rfl, .inr L2, rfl, _, rfl, ifN ?_ ?_⟩
      · rw [l1, l2, decide_eq_true rfl]
        rfl
      refine ⟨_, rfl, _, rfl, a1, a2, xs, ys, rfl, .inr ⟨L1, L2, fun D nD => lc_it (walk_zipT (xs := xs) (ys := ys) rfl)
        (fun i H' => Evl.Ex (upd H t (.tup [.ty "list", .ty "tuple"])) H' ∧ H' D = some (.lst ((List.replicate i true).map V.bl))) ⟨Evl.Ex.new nD, upd_same⟩
        (fun i H' _ p => ⟨Evl.ex_t p.1 L1, Evl.ex_t p.1 L2⟩) (fun i x H2 H3 hi p y => ?_) (fun H' p => ?_)⟩⟩
      · obtain ⟨T, u, v, rfl, nT, rfl, eu, ev⟩ := y
        have e2 := e0.trans (p.1.trans (Evl.Ex.new (o := .tup [u, v]) nT))
        obtain ⟨d1, k1, j1⟩ := dpa_at g1 eu
        obtain ⟨d2, k2, j2⟩ := dpa_at g2 ev
        rw [k1] at k2
        cases k2
        refine ⟨T, _, rfl, .inl (.inl upd_same), rfl, _, _, rfl, _, [], rfl, rfl, rfl, ?_⟩
        unfold tYes
        dsimp only
        rw [if_pos rfl]
        refine ⟨_, rfl, _, rfl, u, v, d1, rfl, dp_mono e2 j1, dp_mono e2 j2, all_at hd' k1, fun H4 e4 => ?_⟩
        have hD4 : H4 D = some (.lst ((List.replicate i true).map V.bl)) := e4 _ _ (by
          rw [upd_ne (ne_of_none p.2 nT)]
          exact p.2)
        refine ⟨_, hD4, ?_, ?_, ?_⟩
        · rw [List.length_map, List.length_replicate]
          exact Evl.sz_lt (by have := hsz; omega)
        · exact Evl.Ex.mut ((p.1.trans (Evl.Ex.new nT)).trans e4) nD
        · rw [upd_same, List.replicate_succ', List.map_append]
          rfl
      · refine ⟨D, _, rfl, .inl (.inl p.2), ?_⟩
        rw [all_yes]
        exact q _ (e0.trans p.1)
    | dict kvs => cases hx
end
end Kd

namespace Kd
open PySem PySem.Spec PyProof.Rows L2 Xg
theorem s_isNumber : FnScope ["thing"] ["thing"] (defScope (topS 1)) := ⟨rfl, rfl, rfl, by decide +kernel, rfl, by decide +kernel, by decide +kernel⟩
theorem s_isFrom : FnScope ["thing", "least"] ["thing", "least"] (defScope (topS 2)) := ⟨rfl, rfl, rfl, by decide +kernel, rfl, by decide +kernel, by decide +kernel⟩
theorem s_isTup : FnScope ["thing", "many"] ["thing", "many"] (defScope (topS 3)) := ⟨rfl, rfl, rfl, by decide +kernel, rfl, by decide +kernel, by decide +kernel⟩
theorem s_isLine : FnScope ["thing", "form", "rooms"] ["thing"] (defScope (topS 7)) := ⟨rfl, rfl, rfl, by decide +kernel, rfl, by decide +kernel, by decide +kernel⟩
theorem s_areRooms : FnScope ["thing", "least_bins", "room"] ["thing", "least_bins"] (defScope (topS 8)) := ⟨rfl, rfl, rfl, by decide +kernel, rfl, by decide +kernel, by decide +kernel⟩
theorem s_gates : FnScope ["line", "form", "rooms"] ["line"] (defScope (topS 9)) := ⟨rfl, rfl, rfl, by decide +kernel, rfl, by decide +kernel, by decide +kernel⟩
theorem s_isWidths : FnScope ["line", "thing", "width"] ["line", "thing"] (defScope (topS 10)) := ⟨rfl, rfl, rfl, by decide +kernel, rfl, by decide +kernel, by decide +kernel⟩
theorem s_isStanding : FnScope ["line", "thing", "form", "rooms", "held", "room"] ["line", "thing"] (defScope (topS 11)) := ⟨rfl, rfl, rfl, by decide +kernel, rfl, by decide +kernel, by decide +kernel⟩
/-- a tuple, or a list -/
def Sq (K : PySem.W.Frag) (b : Bool) (H : Hp) (a : Addr) (xs : List V) : Prop := match b with
  | true => SqT K H a xs
  | false => SqL K H a xs
def fT (row : Bool) : Str := if row = true then "row" else "ring"
theorem fT_row (row : Bool) : decide (V.str (fT row) = V.str "row") = row := by cases row <;> decide
theorem fT_ring (row : Bool) : decide (V.str (fT row) = V.str "ring") = !row := by cases row <;> decide
def vO : Option Int → V
  | none => .non
  | some i => .int i
section
variable {K : PySem.W.Frag} {H H' : Hp} {b : Bool} {a : Addr} {xs : List V} {v : V} {row : Bool} {rooms : List Int}
theorem Sq.mono (h : Sq K b H a xs) (e : Evl.Ex H H') : Sq K b H' a xs := by
  cases b with
  | true => exact Evl.ex_t e h
  | false => exact Evl.ex_l e h
theorem Sq.or (h : Sq K b H a xs) : SqL K H a xs ∨ SqT K H a xs := by
  cases b with
  | true => exact .inr h
  | false => exact .inl h
/-- a line, of tuples or of lists -/
def LnV (K : PySem.W.Frag) (b : Bool) (H : Hp) (v : V) (row : Bool) (rooms : List Int) : Prop := ∃ a r, v = .ref a ∧ Sq K b H a [.str (fT row), .ref r] ∧ Sq K b H r (rooms.map V.int)
theorem LnV.mono (h : LnV K b H v row rooms) (e : Evl.Ex H H') : LnV K b H' v row rooms := let ⟨a, r, h1, h2, h3⟩ := h; ⟨a, r, h1, h2.mono e, h3.mono e⟩
/-- a tuple of these -/
def TpV (K : PySem.W.Frag) (b : Bool) (H : Hp) (v : V) (xs : List V) : Prop := ∃ a, v = .ref a ∧ Sq K b H a xs
theorem TpV.mono (h : TpV K b H v xs) (e : Evl.Ex H H') : TpV K b H' v xs := let ⟨a, h1, h2⟩ := h; ⟨a, h1, h2.mono e⟩
/-- form, rooms = line -/
theorem unp {i : Nat} {σ : L2.St} {t : TGs} {Q : L2.St → Hp → Prop} (h : LnV K b H v row rooms) (k : ∀ r, Sq K b H r (rooms.map V.int) → t [.str (fT row), .ref r] σ H Q) :
    gTup K 2 t v σ H Q ∨ gLst K 2 t v σ H Q := by
  obtain ⟨a, r, rfl, h1, h2⟩ := h
  cases b with
  | true => exact .inl ⟨a, _, rfl, h1, rfl, k r h2⟩
  | false => exact .inr ⟨a, _, rfl, h1, rfl, k r h2⟩
end
def gts (row : Bool) (n : Nat) : Int := if row = true then (n : Int) + 1 else (n : Int)
section
variable {P : Program} {w : World} {K : PySem.W.Frag} {mg : Str → Option Value} {base : Heap}
def spIsNumber : Sp := fun vs H Q _ => ∃ i : Int, vs = [.int i] ∧ Q (.bl true) H
def spIsFrom : Sp := fun vs H Q _ => ∃ i l : Int, vs = [.int i, .int l] ∧ Q (.bl (decide (l ≤ i))) H
def spIsTup (K : PySem.W.Frag) : Sp := fun vs H Q _ => ∃ (a : Addr) (xs : List V) (n : Int), vs = [.ref a, .int n] ∧ SqT K H a xs ∧ n = (xs.length : Int) ∧ Q (.bl true) H
def spGates (K : PySem.W.Frag) : Sp := fun vs H Q _ => ∃ (b : Bool) (v : V) (row : Bool) (rooms : List Int), vs = [v] ∧ LnV K b H v row rooms ∧ Q (.int (gts row rooms.length)) H
def spBare (K : PySem.W.Frag) : Sp := fun vs H Q _ => ∃ (b : Bool) (v : V) (row : Bool) (rooms : List Int), vs = [v] ∧ LnV K b H v row rooms ∧ 1 ≤ rooms.length ∧ rooms.length ≤ 1000 ∧
  ∀ u H', Evl.Ex H H' → TpV K true H' u (List.replicate rooms.length (.int 0)) → Q u H'
def spFull (K : PySem.W.Frag) : Sp := fun vs H Q _ => ∃ (b : Bool) (v : V) (row : Bool) (rooms : List Int), vs = [v] ∧ LnV K b H v row rooms ∧
  ∀ u H', Evl.Ex H H' → TpV K true H' u (rooms.map V.int) → Q u H'
def less : List Int → List Int → List Int
  | h :: hs, r :: rs => (r - h) :: less hs rs
  | _, _ => []
def spLacking (K : PySem.W.Frag) : Sp := fun vs H Q _ => ∃ (b : Bool) (v u : V) (row : Bool) (rooms held : List Int), vs = [v, u] ∧ LnV K b H v row rooms ∧ TpV K b H u (held.map V.int) ∧ held.length = rooms.length ∧ rooms.length ≤ 1000 ∧
  ∀ z H', Evl.Ex H H' → TpV K true H' z ((less held rooms).map V.int) → Q z H'
def spTurnedLine (K : PySem.W.Frag) : Sp := fun vs H Q _ => ∃ (b : Bool) (v : V) (row : Bool) (rooms : List Int), vs = [v] ∧ LnV K b H v row rooms ∧ 1 ≤ rooms.length ∧ rooms.length ≤ 1000 ∧
  ∀ u H', Evl.Ex H H' → LnV K true H' u row rooms.reverse → Q u H'
def spTurned (K : PySem.W.Frag) : Sp := fun vs H Q _ => ∃ (b : Bool) (v u : V) (xs : List V), vs = [v, u] ∧ TpV K b H u xs ∧ 1 ≤ xs.length ∧ xs.length ≤ 1000 ∧
  ∀ z H', Evl.Ex H H' → TpV K true H' z xs.reverse → Q z H'
/-- gates turned about: of a ring gate 0 goes ahead again -/
def about (row : Bool) (xs : List V) : List V := if row = true then xs.reverse else xs.take 1 ++ (xs.drop 1).reverse
def spTurnedWidths (K : PySem.W.Frag) : Sp := fun vs H Q _ => ∃ (b : Bool) (v u : V) (row : Bool) (rooms : List Int) (xs : List V), vs = [v, u] ∧ LnV K b H v row rooms ∧ TpV K b H u xs ∧ 2 ≤ xs.length ∧ xs.length ≤ 1000 ∧
  ∀ z H', Evl.Ex H H' → TpV K true H' z (about row xs) → Q z H'
def spAreRooms (K : PySem.W.Frag) : Sp := fun vs H Q _ => ∃ (a : Addr) (rooms : List Int) (l : Int), vs = [.ref a, .int l] ∧ SqT K H a (rooms.map V.int) ∧ l ≤ (rooms.length : Int) ∧ rooms.length ≤ 1000 ∧ (∀ r ∈ rooms, 1 ≤ r) ∧ ∀ H', Evl.Ex H H' → Q (.bl true) H'
def spIsLine (K : PySem.W.Frag) : Sp := fun vs H Q _ => ∃ (v : V) (row : Bool) (rooms : List Int), vs = [v] ∧ LnV K true H v row rooms ∧ (if row = true then 1 else 2) ≤ rooms.length ∧ rooms.length ≤ 1000 ∧ (∀ r ∈ rooms, 1 ≤ r) ∧
  ∀ H', Evl.Ex H H' → Q (.bl true) H'
def spIsWidths (K : PySem.W.Frag) : Sp := fun vs H Q _ => ∃ (v u : V) (row : Bool) (rooms : List Int) (ws : List (Option Int)), vs = [v, u] ∧ LnV K true H v row rooms ∧ TpV K true H u (ws.map vO) ∧ (ws.length : Int) = gts row rooms.length ∧
  ws.length ≤ 1000 ∧ (∀ x ∈ ws, ∀ i, x = some i → 0 ≤ i) ∧ ∀ H', Evl.Ex H H' → Q (.bl true) H'
def spIsStanding (K : PySem.W.Frag) : Sp := fun vs H Q _ => ∃ (v u : V) (row : Bool) (rooms held : List Int), vs = [v, u] ∧ LnV K true H v row rooms ∧ TpV K true H u (held.map V.int) ∧ held.length = rooms.length ∧ rooms.length ≤ 1000 ∧
  (∀ (j : Nat) (h r : Int), held[j]? = some h → rooms[j]? = some r → 0 ≤ h ∧ h ≤ r) ∧ ∀ H', Evl.Ex H H' → Q (.bl true) H'
theorem ok_isNumber {f : Addr} {fd : FuncData} {k : Nat} (F : Fun K "is_number" "is_number" (topS 1) f fd) (N : Names mg) :
    FnOk P w K mg base CX0 (k + 1) f fd ["thing"] spIsNumber := by
  refine F.ok s_isNumber (fun vs H Q E h => ?_) (fun cdv A outer s H vs Q E hr h => ?_)
  · obtain ⟨i, rfl, q⟩ := h
    rfl
  · obtain ⟨i, rfl, q⟩ := h
    refine ⟨_, pss_one (ps_ret (pe_and (pe_callB call_isi (by rfl) N.isi bt_isi (pa_cons (pv 0) (pa_cons (pe_bltn (v := .ty "int") (by rfl) N.int bt_int rfl) pa_nil))) (pe_one (pe_not (pe_callB call_isi (by rfl) N.isi bt_isi (pa_cons (pv 0) (pa_cons (pe_bltn (v := .ty "bool") (by rfl) N.bool bt_bool rfl) pa_nil))))))), ?_⟩
    refine ⟨_, rfl, _, _, _, _, true, rfl, .ty _, .base (.int i), kit_ty (by decide +kernel), _, rfl, iteT ?_⟩
    exact ⟨_, rfl, _, _, _, _, false, rfl, .ty _, .base (.int i), kit_ty (by decide +kernel), _, rfl, q⟩
theorem pe_con {X : Cx} {x : Str} {v : V} {pos : Pos} (hg : Gl X x) (h : ∃ u, X.mg x = some u ∧ L2.RelV v u) (hd : (x == ("__debug__" : Str)) = false := by decide) : PE X (.Name x pos) (tC v) := let ⟨_, g1, g2⟩ := h; pe_glob hg g1 g2 hd
/-- a def with its address, its promise and how it binds -/
structure Df (P : Program) (w : World) (K : PySem.W.Frag) (mg : Str → Option Value) (base : Heap) (x : Str) (ps : List Str) (k : Nat) (sp : Sp) : Prop where
  ex : ∃ (f : Addr) (fd : FuncData), FnOk P w K mg base CX0 k f fd ps sp ∧ mg x = some (.ref f) ∧ PySem.W.keepIn K (.ref f) = true ∧ L2.Binds K fd ps []
/-- f(e, ..) by such a row -/
theorem pe_df {X : Cx} {x : Str} {ps : List Str} {k : Nat} {sp : Sp} {p pos : Pos} {e : Expr} {es : List Expr} {t : TA} (D : Df X.prog X.w X.K X.mg X.base x ps k sp) (hr : Room k X.A) (hg : Gl X x) (ha : PA X (e :: es) t)
    (hdb : (x == ("__debug__" : Str)) = false := by decide) (he : starEach (e :: es) X.env = (false, eval e X.env) :: starEach es X.env := by rfl) (hpl : (backTo pos (starEach es X.env)).any (·.1) = false := by rfl) :
    PE X (.Call (.Name x p) (e :: es) [] pos) (tCallG sp t) := by
  obtain ⟨f, fd, G, gm, kp, b⟩ := D.ex
  have z := pe_call (p := p) (pos := pos) G hr hg gm kp b .nil pass0 ha hdb he hpl
  refine ⟨fun pins s σ H Q I h => z.run pins s σ H Q I ?_⟩
  show t σ H fun vs H1 => sp (vs ++ []) H1 Q E0
  simp only [List.append_nil]
  exact h
theorem ok_isFrom {f : Addr} {fd : FuncData} {k : Nat} (F : Fun K "is_number_from" "is_number_from" (topS 2) f fd) (D : Df P w K mg base "is_number" ["thing"] 1 spIsNumber) :
    FnOk P w K mg base CX0 2 f fd ["thing", "least"] spIsFrom := by
  refine F.ok s_isFrom (fun vs H Q E h => ?_) (fun cdv A outer s H vs Q E hr h => ?_)
  · obtain ⟨i, l, rfl, q⟩ := h
    rfl
  · obtain ⟨i, l, rfl, q⟩ := h
    refine ⟨_, pss_one (ps_ret (pe_and (pe_df D hr (by rfl) (pa_cons (pv 0) pa_nil)) (pe_one (pe_cmpR op_ge (pv 0) (pv 1) (nomark _))))), ?_⟩
    exact ⟨_, rfl, i, rfl, _, rfl, iteT ⟨_, rfl, _, rfl, i, l, rfl, rfl, q⟩⟩
theorem ok_isTup {f : Addr} {fd : FuncData} {k : Nat} (F : Fun K "is_tuple_of" "is_tuple_of" (topS 3) f fd) (N : Names mg) :
    FnOk P w K mg base CX0 (k + 1) f fd ["thing", "many"] (spIsTup K) := by
  refine F.ok s_isTup (fun vs H Q E h => ?_) (fun cdv A outer s H vs Q E hr h => ?_)
  · obtain ⟨a, xs, n, rfl, hS, hn, q⟩ := h
    rfl
  · obtain ⟨a, xs, n, rfl, hS, hn, q⟩ := h
    refine ⟨_, pss_one (ps_ret (pe_and (pe_callB call_isi (by rfl) N.isi bt_isi (pa_cons (pv 0) (pa_cons (pe_bltn (v := .ty "tuple") (by rfl) N.tup bt_tup rfl) pa_nil))) (pe_one (pe_cmpR op_eq (pe_callB call_len_seq (by rfl) N.len PySem.boot_len (pa_cons (pv 0) pa_nil)) (pv 1) (nomark _))))), ?_⟩
    refine ⟨_, rfl, _, _, _, _, true, rfl, .ty _, tyx_t hS, kit_ty (by decide +kernel), _, rfl, iteT ?_⟩
    refine ⟨_, rfl, a, _, rfl, .inr hS, _, rfl, rfl, ?_⟩
    rw [hn, decide_eq_true rfl]
    exact q
theorem ok_gates {f : Addr} {fd : FuncData} {k : Nat} (F : Fun K "gates" "gates" (topS 9) f fd) (N : Names mg) (gR : ∃ u, mg "ROW" = some u ∧ L2.RelV (.str "row") u) :
    FnOk P w K mg base CX0 (k + 1) f fd ["line"] (spGates K) := by
  refine F.ok s_gates (fun vs H Q E h => ?_) (fun cdv A outer s H vs Q E hr h => ?_)
  · obtain ⟨b, v, row, rooms, rfl, hL, q⟩ := h
    rfl
  · obtain ⟨b, v, row, rooms, rfl, hL, q⟩ := h
    refine ⟨_, pss_cons (ps_asg (pv 0) (pg_or (pg_tup rfl (pgs_cons (pg_name (i := 1) s_gates.nd rfl (.inl rfl)) (pgs_cons (pg_name (i := 2) s_gates.nd rfl (.inl rfl)) pgs_nil))) (pg_lst rfl (pgs_cons (pg_name (i := 1) s_gates.nd rfl (.inl rfl)) (pgs_cons (pg_name (i := 2) s_gates.nd rfl (.inl rfl)) pgs_nil))))) (pss_one (ps_ret (pe_ifExp (pt_cmpR op_eq (pv 1) (pe_con (v := .str "row") (by rfl) gR) (nomark _)) (pe_op op_add (pe_callB call_len_seq (by rfl) N.len PySem.boot_len (pa_cons (pv 2) pa_nil)) pe_int) (pe_callB call_len_seq (by rfl) N.len PySem.boot_len (pa_cons (pv 2) pa_nil))))), ?_⟩
    refine ⟨_, rfl, unp (i := 0) hL fun r hr' => ?_⟩
    refine ⟨_, _, rfl, _, [], rfl, rfl, ?_⟩
    refine ⟨_, rfl, rfl, _, rfl, ?_⟩
    rw [fT_row]
    have z : (((rooms.map V.int).length : Nat) : Int) = rooms.length := by rw [List.length_map]
    cases row with
    | true =>
      refine iteT ⟨_, rfl, r, _, rfl, hr'.or, _, 1, rfl, rfl, ?_⟩
      rw [z]
      exact q
    | false =>
      refine iteF ⟨_, rfl, r, _, rfl, hr'.or, ?_⟩
      rw [z]
      exact q
end
end Kd

namespace Kd
open PySem PySem.Spec PyProof.Rows L2 Xg
theorem rep_flat : ∀ n : Nat, (List.replicate n [V.int 0]).flatten = List.replicate n (V.int 0)
  | 0 => rfl
  | n + 1 => by rw [List.replicate_succ, List.flatten_cons, rep_flat n, List.replicate_succ]; rfl
theorem less_len : ∀ (hs rs : List Int), (less hs rs).length = min hs.length rs.length
  | [], _ => by simp [less]
  | _ :: _, [] => by simp [less]
  | h :: hs, r :: rs => by
    rw [less, List.length_cons, less_len hs rs, List.length_cons, List.length_cons]
    omega
theorem less_at : ∀ (hs rs : List Int) (i : Nat) (h r : Int), hs[i]? = some h → rs[i]? = some r → (less hs rs)[i]? = some (r - h)
  | [], _, _, _, _, e, _ => by simp at e
  | _ :: _, [], _, _, _, _, e => by simp at e
  | h :: hs, r :: rs, 0, a, b, e1, e2 => by
    simp at e1 e2
    subst e1 e2
    rfl
  | h :: hs, r :: rs, i + 1, a, b, e1, e2 => less_at hs rs i a b (by simpa using e1) (by simpa using e2)
theorem int_at {l : List Int} {i : Nat} {v : V} (h : (l.map V.int)[i]? = some v) : ∃ z, v = .int z ∧ l[i]? = some z := by
  rw [List.getElem?_map] at h
  cases e : l[i]? with
  | none =>
    rw [e] at h
    cases h
  | some z =>
    rw [e] at h
    cases h
    exact ⟨z, rfl, rfl⟩
section
variable {P : Program} {w : World} {K : PySem.W.Frag} {mg : Str → Option Value} {base : Heap}
end
end Kd

namespace Kd
open PySem PySem.Spec PyProof.Rows L2 Xg
theorem six_neg (n d : Nat) (h : 1 ≤ n) : HT.sIx n d (some (-1)) = n - 1 := by
  unfold HT.sIx
  dsimp only
  rw [if_pos (by decide)]
  omega
theorem cut_last (xs : List V) (h : 1 ≤ xs.length) : cutV xs (some (-1)) none = xs.drop (xs.length - 1) := by
  unfold cutV
  rw [six_neg _ _ h, HT.sIx_none]
  exact List.take_of_length_le (by rw [List.length_drop]; omega)
theorem cut_init (xs : List V) (h : 1 ≤ xs.length) : cutV xs none (some (-1)) = xs.take (xs.length - 1) := by
  unfold cutV
  rw [six_neg _ _ h, HT.sIx_none, List.drop_zero, Nat.sub_zero]
theorem about_ring (xs : List V) (h : 1 ≤ xs.length) : xs.reverse.drop (xs.reverse.length - 1) ++ xs.reverse.take (xs.reverse.length - 1) = about false xs := by
  unfold about
  rw [if_neg Bool.false_ne_true]
  cases xs with
  | nil => cases h
  | cons x r =>
    have hl : (x :: r).reverse.length - 1 = r.reverse.length := by simp
    rw [hl, List.reverse_cons, List.drop_left, List.take_left]
    rfl
section
variable {P : Program} {w : World} {K : PySem.W.Frag} {mg : Str → Option Value} {base : Heap}
theorem lack_turn {H H2 H3 : Hp} {D : Addr} {held rooms : List Int} {i : Nat} {x : V} (hlen : held.length = rooms.length) (hz : rooms.length ≤ 1000) (hi : i < rooms.length)
    (pe : Evl.Ex H H2 ∧ H2 D = some (.lst (((less held rooms).take i).map V.int))) (y : YPair (fun i => (held.map V.int)[i]?) (fun i => (rooms.map V.int)[i]?) i H2 x H3) (nD : H D = none) {a0 a1 a2 a3 y4 y5 : Option V} :
    gTup K 2 (gCons (gName 4) (gCons (gName 5) gNil)) x (wipe [a0, a1, a2, a3, y4, y5] [4, 5]) H3 fun σ2 H4 => wipe σ2 [4, 5] = wipe [a0, a1, a2, a3, y4, y5] [4, 5] ∧ tYes σ2 H4 fun b H5 =>
      if b = true then tOp (rI0 fun i j => V.int (i - j)) (tVar 5) (tVar 4) σ2 H5 fun y H6 => ∃ acc, H6 D = some (.lst acc) ∧ acc.length < sizeLine ∧
        (Evl.Ex H (upd H6 D (.lst (acc ++ [y]))) ∧ (upd H6 D (.lst (acc ++ [y]))) D = some (.lst (((less held rooms).take (i + 1)).map V.int)))
      else (Evl.Ex H H5 ∧ H5 D = some (.lst (((less held rooms).take (i + 1)).map V.int))) := by
  obtain ⟨T, u, v, rfl, nT, rfl, eu, ev⟩ := y
  obtain ⟨h0, rfl, eh⟩ := int_at eu
  obtain ⟨r0, rfl, er⟩ := int_at ev
  refine ⟨T, _, rfl, .inl (.inl upd_same), rfl, _, _, rfl, _, [], rfl, rfl, rfl, ?_⟩
  unfold tYes
  dsimp only
  rw [if_pos rfl]
  refine ⟨_, rfl, _, rfl, r0, h0, rfl, rfl, _, carry pe.2 nT, ?_, Evl.Ex.mut (pe.1.trans (Evl.Ex.new nT)) nD, ?_⟩
  · rw [List.length_map, List.length_take]
    exact Evl.sz_lt (by omega)
  · rw [upd_same, List.take_add_one, less_at held rooms i h0 r0 eh er, List.map_append]
    rfl
theorem lack_end {H H' : Hp} {D : Addr} {held rooms : List Int} {Q : VK} (hlen : held.length = rooms.length) (pe : Evl.Ex H H' ∧ H' D = some (.lst (((less held rooms).take (min held.length rooms.length)).map V.int)))
    (q : ∀ z H', Evl.Ex H H' → TpV K true H' z ((less held rooms).map V.int) → Q z H') : kTup K (.ref D) H' Q := by
  have e : (less held rooms).take (min held.length rooms.length) = less held rooms := List.take_of_length_le (by rw [less_len]; omega)
  rw [e] at pe
  exact .inl ⟨D, _, rfl, .inl (.inl pe.2), fun p np => q _ _ (pe.1.trans (Evl.Ex.new np)) ⟨p, rfl, .inl (.inl upd_same)⟩⟩
end
end Kd

namespace Kd
open PySem PySem.Spec PyProof.Rows L2 Xg
/-- a comprehension of truths -/
def Yes (H : Hp) (D : Addr) (i : Nat) (H' : Hp) : Prop := Evl.Ex H H' ∧ H' D = some (.lst ((List.replicate i true).map V.bl))
theorem yes_next {H H' : Hp} {D : Addr} {i : Nat} (nD : H D = none) (hi : i ≤ 1000) (e : Evl.Ex H H') (h : H' D = some (.lst ((List.replicate i true).map V.bl))) :
    ∃ acc, H' D = some (.lst acc) ∧ acc.length < sizeLine ∧ Yes H D (i + 1) (upd H' D (.lst (acc ++ [.bl true]))) := by
  refine ⟨_, h, ?_, Evl.Ex.mut e nD, ?_⟩
  · rw [List.length_map, List.length_replicate]
    exact Evl.sz_lt (by omega)
  · rw [upd_same, List.replicate_succ', List.map_append]
    rfl
theorem yes_end {K : PySem.W.Frag} {H H' : Hp} {D : Addr} {i : Nat} {Q : VK} (p : Yes H D i H') (q : ∀ H', Evl.Ex H H' → Q (.bl true) H') : rAll K [.ref D] H' Q := by
  refine ⟨D, _, rfl, .inl (.inl p.2), ?_⟩
  rw [all_yes]
  exact q _ p.1
section
variable {P : Program} {w : World} {K : PySem.W.Frag} {mg : Str → Option Value} {base : Heap}
theorem ok_areRooms {f : Addr} {fd : FuncData} {k : Nat} (F : Fun K "are_rooms" "are_rooms" (topS 8) f fd) (N : Names mg) (D : Df P w K mg base "is_number_from" ["thing", "least"] 2 spIsFrom) :
    FnOk P w K mg base CX0 3 f fd ["thing", "least_bins"] (spAreRooms K) := by
  refine F.ok s_areRooms (fun vs H Q E h => ?_) (fun cdv A outer s H vs Q E hr h => ?_)
  · obtain ⟨a, rooms, l, rfl, hS, hl, hz, hp, q⟩ := h
    rfl
  · obtain ⟨a, rooms, l, rfl, hS, hl, hz, hp, q⟩ := h
    refine ⟨_, pss_cons (ps_if (pw_or (pt_not (pt_val (pe_callB call_isi (by rfl) N.isi bt_isi (pa_cons (pv 0) (pa_cons (pe_bltn (v := .ty "tuple") (by rfl) N.tup bt_tup rfl) pa_nil))))) (pw_or1 (pt_cmpR op_lt (pe_callB call_len_seq (by rfl) N.len PySem.boot_len (pa_cons (pv 0) pa_nil)) (pv 1) (nomark _)))).pt (pss_one (ps_ret pe_bl)) pss_nil)
      (pss_one (ps_ret (pe_callB (cr_all rfl) (by rfl) N.all bt_all (pa_cons (pe_lc (own := [("room", 2)]) (g := gName 2) (tt := tYes) rfl s_areRooms.nd (pi_tup (pv 0)) (blkOk_by (N := ["thing", "least_bins", "room"]) (sc := defScope (topS 8)) (by decide +kernel)) (fun _ _ _ _ _ => pg_name (i := 2) s_areRooms.nd rfl (.inl rfl)) (fun _ _ _ _ _ => pts_nil) (fun _ _ _ _ _ => pe_df D hr (by rfl) (pa_cons (pv 2) (pa_cons pe_int pa_nil)))) pa_nil)))), ?_⟩
    refine ⟨_, rfl, _, _, _, _, true, rfl, .ty _, tyx_t hS, kit_ty (by decide +kernel), _, rfl, ifN rfl ?_⟩
    refine ⟨_, rfl, a, _, rfl, .inr hS, _, rfl, _, _, rfl, rfl, _, rfl, ifN (decide_eq_false (by rw [List.length_map]; omega)) ?_⟩
    refine ⟨_, rfl, a, rfl, ⟨_, hS⟩, fun D' nD => lc_it (walk_tup (xs := rooms.map V.int)) (Yes H D') ⟨Evl.Ex.new nD, upd_same⟩ (fun i H' _ pe => Evl.ex_t pe.1 hS) (fun i x H2 H3 hi pe y => ?_) (fun H' pe => yes_end pe q)⟩
    obtain ⟨rfl, ex⟩ := y
    obtain ⟨z, rfl, ez⟩ := int_at ex
    refine ⟨rfl, ?_⟩
    unfold tYes
    dsimp only
    rw [if_pos rfl]
    refine ⟨_, rfl, z, 1, rfl, ?_⟩
    rw [decide_eq_true (hp z (List.mem_of_getElem? ez))]
    rw [List.length_map] at hi
    exact yes_next nD (by omega) pe.1 pe.2
theorem ok_isLine {f : Addr} {fd : FuncData} {k : Nat} (F : Fun K "is_line" "is_line" (topS 7) f fd) (N : Names mg) (gR : ∃ u, mg "ROW" = some u ∧ L2.RelV (.str "row") u) (gG : ∃ u, mg "RING" = some u ∧ L2.RelV (.str "ring") u) (DT : Df P w K mg base "is_tuple_of" ["thing", "many"] 1 (spIsTup K)) (DA : Df P w K mg base "are_rooms" ["thing", "least_bins"] 3 (spAreRooms K)) :
    FnOk P w K mg base CX0 4 f fd ["thing"] (spIsLine K) := by
  refine F.ok s_isLine (fun vs H Q E h => ?_) (fun cdv A outer s H vs Q E hr h => ?_)
  · obtain ⟨v, row, rooms, rfl, ⟨a, r, rfl, h1, h2⟩, hn, hz, hp, q⟩ := h
    rfl
  · obtain ⟨v, row, rooms, rfl, ⟨a, r, rfl, h1, h2⟩, hn, hz, hp, q⟩ := h
    refine ⟨_, pss_cons (ps_if (pt_not (pt_val (pe_df DT (hr.mono (by decide)) (by rfl) (pa_cons (pv 0) (pa_cons pe_int pa_nil))))) (pss_one (ps_ret pe_bl)) pss_nil)
      (pss_cons (ps_asg (pv 0) (pg_tup rfl (pgs_cons (pg_name (i := 1) s_isLine.nd rfl (.inl rfl)) (pgs_cons (pg_name (i := 2) s_isLine.nd rfl (.inl rfl)) pgs_nil))))
      (pss_cons (ps_if (pt_cmpR op_eq (pv 1) (pe_con (v := .str "row") (by rfl) gR) (nomark _)) (pss_one (ps_ret (pe_df DA hr (by rfl) (pa_cons (pv 2) (pa_cons pe_int pa_nil))))) pss_nil)
      (pss_one (ps_ret (pe_and (pe_cmpR op_eq (pv 1) (pe_con (v := .str "ring") (by rfl) gG) (nomark _)) (pe_one (pe_df DA hr (by rfl) (pa_cons (pv 2) (pa_cons pe_int pa_nil))))))))), ?_⟩
    refine ⟨_, rfl, a, _, 2, rfl, h1, rfl, _, rfl, ifN rfl ?_⟩
    refine ⟨_, rfl, a, _, rfl, h1, rfl, _, _, rfl, _, [], rfl, rfl, ?_⟩
    refine ⟨_, rfl, rfl, _, rfl, ?_⟩
    rw [fT_row]
    cases row with
    | true =>
      rw [if_pos rfl] at hn
      exact iteT ⟨_, rfl, r, rooms, 1, rfl, h2, by omega, hz, hp, q⟩
    | false =>
      rw [if_neg Bool.false_ne_true] at hn
      refine iteF ⟨_, rfl, rfl, _, rfl, ifY (fT_ring false) ?_⟩
      exact ⟨_, rfl, r, rooms, 2, rfl, h2, by omega, hz, hp, q⟩
theorem ok_isWidths {f : Addr} {fd : FuncData} {k : Nat} (F : Fun K "is_widths" "is_widths" (topS 10) f fd) (N : Names mg) (D : Df P w K mg base "is_number_from" ["thing", "least"] 2 spIsFrom) (DT : Df P w K mg base "is_tuple_of" ["thing", "many"] 1 (spIsTup K)) (DG : Df P w K mg base "gates" ["line"] 1 (spGates K)) :
    FnOk P w K mg base CX0 3 f fd ["line", "thing"] (spIsWidths K) := by
  refine F.ok s_isWidths (fun vs H Q E h => ?_) (fun cdv A outer s H vs Q E hr h => ?_)
  · obtain ⟨v, u, row, rooms, ws, rfl, hL, ⟨a, rfl, hS⟩, hl, hz, hp, q⟩ := h
    rfl
  · obtain ⟨v, u, row, rooms, ws, rfl, hL, ⟨a, rfl, hS⟩, hl, hz, hp, q⟩ := h
    refine ⟨_, pss_cons (ps_if (pt_not (pt_val (pe_df DT (hr.mono (by decide)) (by rfl) (pa_cons (pv 1) (pa_cons (pe_df DG (hr.mono (by decide)) (by rfl) (pa_cons (pv 0) pa_nil)) pa_nil))))) (pss_one (ps_ret pe_bl)) pss_nil)
      (pss_one (ps_ret (pe_callB (cr_all rfl) (by rfl) N.all bt_all (pa_cons (pe_lc (own := [("width", 2)]) (g := gName 2) (tt := tYes) rfl s_isWidths.nd (pi_tup (pv 1)) (blkOk_by (N := ["line", "thing", "width"]) (sc := defScope (topS 10)) (by decide +kernel)) (fun _ _ _ _ _ => pg_name (i := 2) s_isWidths.nd rfl (.inl rfl)) (fun _ _ _ _ _ => pts_nil) (fun _ _ _ _ _ => L2.pe_or (pe_cmpR op_isN (pv 2) pe_non (nomark _)) (pe_one (pe_df D (hr.mono (by decide)) (by rfl) (pa_cons (pv 2) (pa_cons pe_int pa_nil)))))) pa_nil)))), ?_⟩
    refine ⟨_, rfl, _, rfl, true, v, row, rooms, rfl, hL, a, _, _, rfl, hS, by rw [← hl, List.length_map], _, rfl, ifN rfl ?_⟩
    refine ⟨_, rfl, a, rfl, ⟨_, hS⟩, fun D' nD => lc_it (walk_tup (xs := ws.map vO)) (Yes H D') ⟨Evl.Ex.new nD, upd_same⟩ (fun i H' _ pe => Evl.ex_t pe.1 hS) (fun i x H2 H3 hi pe y => ?_) (fun H' pe => yes_end pe q)⟩
    obtain ⟨rfl, ex⟩ := y
    rw [List.getElem?_map] at ex
    rw [List.length_map] at hi
    rw [List.getElem?_eq_getElem hi] at ex
    cases ex
    have hw := hp ws[i] (List.getElem_mem hi)
    refine ⟨rfl, ?_⟩
    unfold tYes
    dsimp only
    rw [if_pos rfl]
    cases e : ws[i] with
    | none =>
      refine ⟨_, rfl, rfl, _, rfl, ifY (decide_eq_true rfl) ?_⟩
      exact yes_next nD (by omega) pe.1 pe.2
    | some z =>
      refine ⟨_, rfl, rfl, _, rfl, ifN (decide_eq_false fun z => nomatch z) ?_⟩
      refine ⟨_, rfl, z, 0, rfl, ?_⟩
      rw [decide_eq_true (hw z e)]
      exact yes_next nD (by omega) pe.1 pe.2
theorem ok_isStanding {f : Addr} {fd : FuncData} {k : Nat} (F : Fun K "is_standing" "is_standing" (topS 11) f fd) (N : Names mg) (D : Df P w K mg base "is_number_from" ["thing", "least"] 2 spIsFrom) (DT : Df P w K mg base "is_tuple_of" ["thing", "many"] 1 (spIsTup K)) :
    FnOk P w K mg base CX0 3 f fd ["line", "thing"] (spIsStanding K) := by
  refine F.ok s_isStanding (fun vs H Q E h => ?_) (fun cdv A outer s H vs Q E hr h => ?_)
  · obtain ⟨v, u, row, rooms, held, rfl, ⟨a0, r, rfl, h1, h2⟩, ⟨a, rfl, hS⟩, hl, hz, hp, q⟩ := h
    rfl
  · obtain ⟨v, u, row, rooms, held, rfl, ⟨a0, r, rfl, h1, h2⟩, ⟨a, rfl, hS⟩, hl, hz, hp, q⟩ := h
    refine ⟨_, pss_cons (ps_asg (pv 0) (pg_tup rfl (pgs_cons (pg_name (i := 2) s_isStanding.nd rfl (.inl rfl)) (pgs_cons (pg_name (i := 3) s_isStanding.nd rfl (.inl rfl)) pgs_nil))))
      (pss_cons (ps_if (pt_not (pt_val (pe_df DT (hr.mono (by decide)) (by rfl) (pa_cons (pv 1) (pa_cons (pe_callB call_len_seq (by rfl) N.len PySem.boot_len (pa_cons (pv 3) pa_nil)) pa_nil))))) (pss_one (ps_ret pe_bl)) pss_nil)
      (pss_one (ps_ret (pe_callB (cr_all rfl) (by rfl) N.all bt_all (pa_cons (pe_lc (own := [("held", 4), ("room", 5)]) (g := gTup K 2 (gCons (gName 4) (gCons (gName 5) gNil))) (tt := tYes) rfl s_isStanding.nd (RZ.pi_zipA (by rfl) N.zip (pa_cons (pv 1) (pa_cons (pv 3) pa_nil))) (blkOk_by (N := ["line", "thing", "form", "rooms", "held", "room"]) (sc := defScope (topS 11)) (by decide +kernel)) (fun _ _ _ _ _ => pg_tup rfl (pgs_cons (pg_name (i := 4) s_isStanding.nd rfl (.inl rfl)) (pgs_cons (pg_name (i := 5) s_isStanding.nd rfl (.inl rfl)) pgs_nil))) (fun _ _ _ _ _ => pts_nil) (fun _ _ _ _ _ => pe_and (pe_df D (hr.mono (by decide)) (by rfl) (pa_cons (pv 4) (pa_cons pe_int pa_nil))) (pe_one (pe_cmpR op_le (pv 4) (pv 5) (nomark _))))) pa_nil))))), ?_⟩
    refine ⟨_, rfl, a0, _, rfl, h1, rfl, _, _, rfl, _, [], rfl, rfl, ?_⟩
    refine ⟨_, rfl, _, rfl, r, _, rfl, .inr h2, a, _, _, rfl, hS, by rw [List.length_map, List.length_map, hl], _, rfl, ifN rfl ?_⟩
    refine ⟨_, rfl, _, rfl, a, r, held.map V.int, rooms.map V.int, rfl, .inr ⟨hS, h2, fun D' nD => lc_it (walk_zipT (xs := held.map V.int) (ys := rooms.map V.int) rfl) (Yes H D') ⟨Evl.Ex.new nD, upd_same⟩
      (fun i H' _ pe => ⟨Evl.ex_t pe.1 hS, Evl.ex_t pe.1 h2⟩) (fun i x H2 H3 hi pe y => ?_) (fun H' pe => yes_end pe q)⟩⟩
    obtain ⟨T, x1, x2, rfl, nT, rfl, e1, e2⟩ := y
    obtain ⟨z1, rfl, g1⟩ := int_at e1
    obtain ⟨z2, rfl, g2⟩ := int_at e2
    obtain ⟨p1, p2⟩ := hp i z1 z2 g1 g2
    refine ⟨T, _, rfl, .inl (.inl upd_same), rfl, _, _, rfl, _, [], rfl, rfl, rfl, ?_⟩
    unfold tYes
    dsimp only
    rw [if_pos rfl]
    refine ⟨_, rfl, z1, 0, rfl, _, rfl, ifY (decide_eq_true p1) ?_⟩
    refine ⟨_, rfl, _, rfl, z1, z2, rfl, rfl, ?_⟩
    dsimp only
    rw [decide_eq_true p2]
    rw [List.length_map, List.length_map] at hi
    exact yes_next nD (by omega) (pe.1.trans (Evl.Ex.new nT)) (carry pe.2 nT)
end
end Kd

namespace Kd
open PySem PySem.Spec PyProof.Rows L2 Xg
theorem s_line : FnScope ["_law_box_here", "_law_most", "_law_size", "_law_homes", "_law_turn"] ["_law_box_here", "_law_most"] (defScope (topS 16)) := ⟨rfl, rfl, rfl, by decide +kernel, rfl, by decide +kernel, by decide +kernel⟩
theorem s_doors : FnScope ["_law_box_here", "_law_own", "_law_size", "_law_turn"] ["_law_box_here", "_law_own"] (defScope (topS 17)) := ⟨rfl, rfl, rfl, by decide +kernel, rfl, by decide +kernel, by decide +kernel⟩
theorem s_lies : FnScope ["_law_box_here", "_law_own", "_law_sort", "_law_home"] ["_law_box_here", "_law_own"] (defScope (topS 18)) := ⟨rfl, rfl, rfl, by decide +kernel, rfl, by decide +kernel, by decide +kernel⟩
/-- all but the box is as it was -/
def Kp (b : Addr) (H H' : Hp) : Prop := ∀ c o, c ≠ b → H c = some o → H' c = some o
/-- a box at b, at most m numbers drawn by reckoning -/
def Bx (H : Hp) (b : Addr) (m : Int) : Prop := ∃ x y z : Int, 0 ≤ x ∧ 0 ≤ y ∧ y < 1000000000000 ∧ 0 ≤ z ∧ z ≤ m ∧ H b = some (.lst [.int x, .int y, .int z])
theorem Kp.refl (b : Addr) (H : Hp) : Kp b H H := fun _ _ _ h => h
theorem Kp.trans {b : Addr} {H H1 H2 : Hp} (h : Kp b H H1) (g : Kp b H1 H2) : Kp b H H2 := fun c o n e => g c o n (h c o n e)
theorem Kp.ex {b : Addr} {H H' : Hp} (e : Evl.Ex H H') : Kp b H H' := fun c o _ h => e c o h
theorem Bx.ex {b : Addr} {H H' : Hp} {m : Int} (h : Bx H b m) (e : Evl.Ex H H') : Bx H' b m := let ⟨x, y, z, h1, h2, h3, h4, h5, h6⟩ := h; ⟨x, y, z, h1, h2, h3, h4, h5, e _ _ h6⟩
theorem Bx.le {b : Addr} {H : Hp} {m n : Int} (h : Bx H b m) (l : m ≤ n) : Bx H b n := let ⟨x, y, z, h1, h2, h3, h4, h5, h6⟩ := h; ⟨x, y, z, h1, h2, h3, h4, by omega, h6⟩
theorem Bx.ne {b c : Addr} {H : Hp} {m : Int} (h : Bx H b m) (n : H c = none) : c ≠ b := let ⟨_, _, _, _, _, _, _, _, e⟩ := h; (ne_of_none e n).symm
/-- a new object beside the box that changes -/
theorem Kp.mut {b : Addr} {H H' : Hp} {p : Addr} {o : HO} (e : Kp b H H') (h : H p = none) : Kp b H (upd H' p o) := fun a u n ha => by
  rw [upd_ne (ne_of_none ha h)]
  exact e a u n ha
theorem Bx.upd {b p : Addr} {H : Hp} {m : Int} {o : HO} (h : Bx H b m) (n : p ≠ b) : Bx (L2.upd H p o) b m := let ⟨x, y, z, h1, h2, h3, h4, h5, h6⟩ := h; ⟨x, y, z, h1, h2, h3, h4, h5, by rw [upd_ne n.symm]; exact h6⟩
theorem takeR {H : Hp} {b : Addr} {m n : Int} {Q : VK} {E : XK} (h : Bx H b m) (hm : m < 1000000000) (h1 : 0 < n) (h2 : n < 1073741824) (k : ∀ r H', 0 ≤ r → r < n → Kp b H H' → Bx H' b (m + 1) → Q (.int r) H') :
    spTake [.ref b, .int n] H Q E := by
  obtain ⟨x, y, z, g1, g2, g3, g4, g5, g6⟩ := h
  refine ⟨b, x, y, z, n, rfl, g6, g1, g2, g3, g4, by omega, h1, h2, fun r x' z' k1 k2 k3 k4 k5 => k r _ k1 k2 (fun c o hc e => ?_) ⟨x', y, z', k3, g2, g3, by omega, by omega, upd_same⟩⟩
  rw [upd_ne hc]
  exact e
section
variable {P : Program} {w : World} {K : PySem.W.Frag} {mg : Str → Option Value} {base : Heap}
def spWide : Sp := fun vs H Q _ => ∃ (b : Addr) (m n : Int), vs = [.ref b, .int n] ∧ Bx H b m ∧ m < 900000000 ∧ 0 < n ∧ ∀ r H', 0 ≤ r → r < n → Kp b H H' → Bx H' b (m + 2) → Q (.int r) H'
def spLine (K : PySem.W.Frag) : Sp := fun vs H Q _ => ∃ (b : Addr) (m n : Int), vs = [.ref b, .int n] ∧ Bx H b m ∧ m < 900000000 ∧ 1 ≤ n ∧ n ≤ 7 ∧
  ∀ v H' row (rooms : List Int), Kp b H H' → Bx H' b (m + 20) → LnV K true H' v row rooms → (if row = true then 1 else 2) ≤ rooms.length → (rooms.length : Int) ≤ n → (∀ r ∈ rooms, 1 ≤ r ∧ r ≤ 1000000000) → Q v H'
def spDoors (K : PySem.W.Frag) : Sp := fun vs H Q _ => ∃ (b : Addr) (m : Int) (v : V) (row : Bool) (rooms : List Int), vs = [.ref b, v] ∧ Bx H b m ∧ m < 900000000 ∧ LnV K true H v row rooms ∧ rooms.length ≤ 7 ∧
  ∀ u H' (ws : List (Option Int)), Kp b H H' → Bx H' b (m + 30) → TpV K true H' u (ws.map vO) → (ws.length : Int) = gts row rooms.length → (∀ x ∈ ws, ∀ i, x = some i → 0 ≤ i ∧ i ≤ 1000000000) → Q u H'
/-- as many as rooms, each within -/
def Fits (held rooms : List Int) : Prop := held.length = rooms.length ∧ ∀ (j : Nat) (h r : Int), held[j]? = some h → rooms[j]? = some r → 0 ≤ h ∧ h ≤ r
def spLies (K : PySem.W.Frag) : Sp := fun vs H Q _ => ∃ (b : Addr) (m : Int) (v : V) (row : Bool) (rooms : List Int), vs = [.ref b, v] ∧ Bx H b m ∧ m < 900000000 ∧ LnV K true H v row rooms ∧ rooms.length ≤ 7 ∧ (∀ r ∈ rooms, 1 ≤ r ∧ r ≤ 1000000000) ∧
  ∀ u H' (held : List Int), Kp b H H' → Bx H' b (m + 10) → TpV K true H' u (held.map V.int) → Fits held rooms → Q u H'
def spGreat (K : PySem.W.Frag) : Sp := fun vs H Q _ => ∃ (b : Addr) (m : Int), vs = [.ref b, .int 7] ∧ Bx H b m ∧ m < 800000000 ∧
  ∀ t H' v u z row (rooms held : List Int) (ws : List (Option Int)), Kp b H H' → Bx H' b (m + 80) → SqT K H' t [v, u, z] → LnV K true H' v row rooms → (if row = true then 1 else 2) ≤ rooms.length → rooms.length ≤ 7 →
    (∀ r ∈ rooms, 1 ≤ r ∧ r ≤ 1000000000) → TpV K true H' u (ws.map vO) → (ws.length : Int) = gts row rooms.length → (∀ x ∈ ws, ∀ i, x = some i → 0 ≤ i ∧ i ≤ 1000000000) → TpV K true H' z (held.map V.int) → Fits held rooms → Q (.ref t) H'
theorem pick4 {d r : Int} (h0 : 0 ≤ d) (h1 : d < 9) (r0 : 0 ≤ r) (r1 : r < 4) : ∃ z : Int, atI [V.int 1, V.int 2, V.int 3, V.int (1 + d)] r = some (.int z) ∧ 1 ≤ z ∧ z ≤ 1000000000 := by
  have c : r = 0 ∨ r = 1 ∨ r = 2 ∨ r = 3 := by omega
  rcases c with rfl | rfl | rfl | rfl
  · exact ⟨1, atI_nat (j := 0) rfl, by omega, by omega⟩
  · exact ⟨2, atI_nat (j := 1) rfl, by omega, by omega⟩
  · exact ⟨3, atI_nat (j := 2) rfl, by omega, by omega⟩
  · exact ⟨1 + d, atI_nat (j := 3) rfl, by omega, by omega⟩
theorem map_snoc (l : List Int) (z : Int) : l.map V.int ++ [V.int z] = (l ++ [z]).map V.int := by rw [List.map_append]; rfl
theorem mem_snoc {p : Int → Prop} {l : List Int} {z : Int} (h : ∀ r ∈ l, p r) (hz : p z) : ∀ r ∈ l ++ [z], p r := fun r hr => by
  rcases List.mem_append.mp hr with e | e
  · exact h r e
  · rw [List.mem_singleton.mp e]
    exact hz
theorem ok_line {f : Addr} {fd : FuncData} (F : Fun K "_law_line" "_law_line" (topS 16) f fd) (N : Names mg) (mrg : mg "range" = none) (DT : Df P w K mg base "_law_take" ["_law_box_here", "_law_bound"] 1 spTake) :
    FnOk P w K mg base CX0 2 f fd ["_law_box_here", "_law_most"] (spLine K) := by
  refine F.ok s_line (fun vs H Q E h => ?_) (fun cdv A outer s H vs Q E hr h => ?_)
  · obtain ⟨b, m, n, rfl, hb, hm, hn1, hn2, q⟩ := h
    rfl
  · obtain ⟨b, m, n, rfl, hb, hm, hn1, hn2, q⟩ := h
    refine ⟨_, pss_cons (ps_set (i := 2) s_line.nd rfl (.inl rfl) (pe_op op_add pe_int (pe_df DT (hr.mono (by decide)) (by rfl) (pa_cons (pv 0) (pa_cons (pv 1) pa_nil)))))
      (pss_cons (ps_set (i := 3) s_line.nd rfl (.inl rfl) (pe_tupleOf (by rfl) N.tup (pe_lc (own := [("_law_turn", 4)]) (g := gName 4) (tt := tYes) (te := tOp (rIxL K) (tLst (tCons (tC (.int 1)) (tCons (tC (.int 2)) (tCons (tC (.int 3)) (tCons (tOp (rI0 fun i j => V.int (i + j)) (tC (.int 1)) (tCallG spTake (tCons (tVar 0) (tCons (tC (.int 9)) tNil)))) tNil))))) (tCallG spTake (tCons (tVar 0) (tCons (tC (.int 4)) tNil)))) rfl s_line.nd (pi_range1 (by rfl) mrg (pa_cons (pv 2) pa_nil)) (blkOk_by (N := ["_law_box_here", "_law_most", "_law_size", "_law_homes", "_law_turn"]) (sc := defScope (topS 16)) (by decide +kernel)) (fun _ _ _ _ _ => pg_name (i := 4) s_line.nd rfl (.inl rfl)) (fun _ _ _ _ _ => pts_nil) (fun _ _ _ _ _ => pe_ix ix_list (pe_lst (pa_cons pe_int (pa_cons pe_int (pa_cons pe_int (pa_cons (pe_op op_add pe_int (pe_df DT (hr.mono (by decide)) (by rfl) (pa_cons (pv 0) (pa_cons pe_int pa_nil)))) pa_nil))))) (pe_df DT (hr.mono (by decide)) (by rfl) (pa_cons (pv 0) (pa_cons pe_int pa_nil))) (fun _ _ => rfl)))))
      (pss_one (ps_ret (pe_tup (pa_cons (pe_ifExp (pw_and (pt_cmpR op_gt (pv 2) pe_int (nomark _)) (pw_and1 (pt_cmpR op_eq (pe_df DT (hr.mono (by decide)) (by rfl) (pa_cons (pv 0) (pa_cons pe_int pa_nil))) pe_int (nomark _)))).pt pe_str pe_str) (pa_cons (pv 3) pa_nil)))))), ?_⟩
    refine ⟨_, rfl, _, rfl, ?_⟩
    dsimp only [tNil, tC, tCons]
    refine takeR hb (by omega) (by omega) (by omega) fun r H1 r0 r1 k1 b1 => ?_
    refine ⟨1, r, rfl, rfl, ?_⟩
    refine ⟨_, rfl, 1 + r, rfl, by omega, by omega, fun D nD => lc_range (lo := 0) (n := (1 + r).toNat) (fun i H' => ∃ l : List Int, Kp b H1 H' ∧ Bx H' b (m + 1 + 2 * i) ∧ H' D = some (.lst (l.map V.int)) ∧ l.length = i ∧ ∀ r ∈ l, 1 ≤ r ∧ r ≤ 1000000000)
      ⟨[], Kp.ex (Evl.Ex.new nD), (b1.upd (b1.ne nD)).le (by omega), upd_same, rfl, fun r hr => nomatch hr⟩ (fun i H' hi pe => ?_) (fun H' pe => ?_)⟩
    · obtain ⟨l, k2, b2, hD, hl, hp⟩ := pe
      refine ⟨rfl, ?_⟩
      unfold tYes
      dsimp only
      rw [if_pos rfl]
      refine ⟨_, rfl, ?_⟩
      dsimp only [tNil, tC, tCons]
      refine takeR b2 (by omega) (by decide) (by decide) fun d H2 d0 d1 k3 b3 => ?_
      refine ⟨1, d, rfl, rfl, show 4 ≤ sizeLine by decide, fun c nc => ?_⟩
      have hD2 := k3 D _ (b1.ne nD) hD
      refine ⟨_, rfl, ?_⟩
      dsimp only [tNil, tC, tCons]
      refine takeR (b3.upd (b3.ne nc)) (by omega) (by decide) (by decide) fun e H3 e0 e1 k4 b4 => ?_
      obtain ⟨z, ez, z1, z2⟩ := pick4 d0 d1 e0 e1
      have hc3 := k4 c _ (b3.ne nc) upd_same
      have hD3 := k4 D _ (b1.ne nD) (carry hD2 nc)
      refine ⟨c, _, _, _, rfl, rfl, .inl (.inl hc3), ez, _, hD3, ?_, l ++ [z], ?_, ?_, ?_, ?_, ?_⟩
      · rw [List.length_map]
        exact Evl.sz_lt (by omega)
      · exact Kp.mut (((k2.trans k3).trans (Kp.ex (Evl.Ex.new nc))).trans k4) nD
      · exact (b4.upd (b1.ne nD)).le (by omega)
      · rw [upd_same, map_snoc]
      · rw [List.length_append, hl]
        rfl
      · exact mem_snoc hp ⟨z1, z2⟩
    · obtain ⟨l, k2, b2, hD, hl, hp⟩ := pe
      refine .inl ⟨D, _, rfl, .inl (.inl hD), fun h nh => ?_⟩
      have x3 := Evl.Ex.new (o := .tup (l.map V.int)) nh
      have b3 := b2.ex x3
      have ln : l.length = (1 + r).toNat := hl
      have fin : ∀ (row : Bool) H4 (t : Addr), Kp b (L2.upd H' h (.tup (l.map V.int))) H4 → Bx H4 b (m + 20) → H4 t = none → (row = false → 1 < 1 + r) → Q (.ref t) (L2.upd H4 t (.tup [.str (fT row), .ref h])) := fun row H4 t k5 b5 nt hr => by
        have x5 := Evl.Ex.new (o := .tup [.str (fT row), .ref h]) nt
        have hh : H4 h = some (.tup (l.map V.int)) := k5 h _ (b2.ne nh) upd_same
        refine q _ _ row l (((((k1.trans k2).trans (Kp.ex x3)).trans k5)).trans (Kp.ex x5)) (b5.ex x5) ⟨t, h, rfl, .inl (.inl upd_same), .inl (.inl (x5 _ _ hh))⟩ ?_ (by omega) hp
        cases row with
        | true =>
          rw [if_pos rfl]
          omega
        | false =>
          have := hr rfl
          rw [if_neg Bool.false_ne_true]
          omega
      by_cases big : 1 < 1 + r
      · refine ⟨_, rfl, _, _, rfl, rfl, _, rfl, ifY (decide_eq_true big) ?_⟩
        refine ⟨_, rfl, ?_⟩
        dsimp only [tNil, tC, tCons]
        refine takeR b3 (by omega) (by decide) (by decide) fun e H4 e0 e1 k4 b4 => ?_
        refine ⟨rfl, _, rfl, ?_⟩
        by_cases z : V.int e = V.int 0
        · refine ifY (decide_eq_true z) ?_
          exact ⟨_, rfl, two_size, fun t nt => fin false H4 t k4 (b4.le (by omega)) nt fun _ => big⟩
        · refine ifN (decide_eq_false z) ?_
          exact ⟨_, rfl, two_size, fun t nt => fin true H4 t k4 (b4.le (by omega)) nt fun z => nomatch z⟩
      · refine ⟨_, rfl, _, _, rfl, rfl, _, rfl, ifN (decide_eq_false big) ?_⟩
        exact iteF ⟨_, rfl, two_size, fun t nt => fin true _ t (Kp.refl _ _) (b3.le (by omega)) nt fun z => nomatch z⟩
end
end Kd

namespace Kd
open PySem PySem.Spec PyProof.Rows L2 Xg
theorem sqt_kp {K : PySem.W.Frag} {b a : Addr} {H H' : Hp} {m : Int} {xs : List V} (h : SqT K H a xs) (hb : Bx H b m) (k : Kp b H H') : SqT K H' a xs := by
  obtain ⟨_, _, _, _, _, _, _, _, e⟩ := hb
  rcases h with (h | ⟨o, h⟩) | h
  · exact .inl (.inl (k a _ (ne_of h e fun z => nomatch z) h))
  · exact .inl (.inr ⟨o, k a _ (ne_of h e fun z => nomatch z) h⟩)
  · exact .inr h
theorem LnV.kp {K : PySem.W.Frag} {b : Addr} {H H' : Hp} {m : Int} {v : V} {row : Bool} {rooms : List Int} (h : LnV K true H v row rooms) (hb : Bx H b m) (k : Kp b H H') : LnV K true H' v row rooms :=
  let ⟨a, r, h1, h2, h3⟩ := h; ⟨a, r, h1, sqt_kp h2 hb k, sqt_kp h3 hb k⟩
theorem TpV.kp {K : PySem.W.Frag} {b : Addr} {H H' : Hp} {m : Int} {v : V} {xs : List V} (h : TpV K true H v xs) (hb : Bx H b m) (k : Kp b H H') : TpV K true H' v xs :=
  let ⟨a, h1, h2⟩ := h; ⟨a, h1, sqt_kp h2 hb k⟩
theorem wideR {H : Hp} {b : Addr} {m n : Int} {Q : VK} {E : XK} (h : Bx H b m) (hm : m < 900000000) (h1 : 0 < n) (k : ∀ r H', 0 ≤ r → r < n → Kp b H H' → Bx H' b (m + 2) → Q (.int r) H') :
    spWide [.ref b, .int n] H Q E := ⟨b, m, n, rfl, h, hm, h1, k⟩
theorem pick5 {d e r : Int} (h0 : 0 ≤ d) (h1 : d < 4) (g0 : 0 ≤ e) (g1 : e < 9) (r0 : 0 ≤ r) (r1 : r < 5) : ∃ x : Option Int, atI [V.non, V.int 0, V.int (1 + d), V.non, V.int e] r = some (vO x) ∧ ∀ i, x = some i → 0 ≤ i ∧ i ≤ 1000000000 := by
  have c : r = 0 ∨ r = 1 ∨ r = 2 ∨ r = 3 ∨ r = 4 := by omega
  rcases c with rfl | rfl | rfl | rfl | rfl
  · exact ⟨none, atI_nat (j := 0) rfl, fun i z => nomatch z⟩
  · exact ⟨some 0, atI_nat (j := 1) rfl, fun i z => by cases z; omega⟩
  · exact ⟨some (1 + d), atI_nat (j := 2) rfl, fun i z => by cases z; omega⟩
  · exact ⟨none, atI_nat (j := 3) rfl, fun i z => nomatch z⟩
  · exact ⟨some e, atI_nat (j := 4) rfl, fun i z => by cases z; omega⟩
theorem mapO_snoc (l : List (Option Int)) (z : Option Int) : l.map vO ++ [vO z] = (l ++ [z]).map vO := by rw [List.map_append]; rfl
theorem memO_snoc {p : Option Int → Prop} {l : List (Option Int)} {z : Option Int} (h : ∀ r ∈ l, p r) (hz : p z) : ∀ r ∈ l ++ [z], p r := fun r hr => by
  rcases List.mem_append.mp hr with e | e
  · exact h r e
  · rw [List.mem_singleton.mp e]
    exact hz
section
variable {P : Program} {w : World} {K : PySem.W.Frag} {mg : Str → Option Value} {base : Heap}
theorem ok_doors {f : Addr} {fd : FuncData} (F : Fun K "_law_doors" "_law_doors" (topS 17) f fd) (N : Names mg) (mrg : mg "range" = none) (DT : Df P w K mg base "_law_take" ["_law_box_here", "_law_bound"] 1 spTake) :
    FnOk P w K mg base CX0 2 f fd ["_law_box_here", "_law_own"] (spDoors K) := by
  refine F.ok s_doors (fun vs H Q E h => ?_) (fun cdv A outer s H vs Q E hr h => ?_)
  · obtain ⟨b, m, v, row, rooms, rfl, hb, hm, ⟨a, r, rfl, h1, h2⟩, hn, q⟩ := h
    rfl
  · obtain ⟨b, m, v, row, rooms, rfl, hb, hm, ⟨a, r, rfl, h1, h2⟩, hn, q⟩ := h
    refine ⟨_, pss_cons (ps_set (i := 2) s_doors.nd rfl (.inl rfl) (pe_op op_add (pe_callB call_len_seq (by rfl) N.len PySem.boot_len (pa_cons (pe_ix ix_tup (pv 1) pe_int (fun _ _ => rfl)) pa_nil)) (pe_callTy call_int1 (by rfl) N.int bt_int (pa_cons (pe_cmpR op_eq (pe_ix ix_tup (pv 1) pe_int (fun _ _ => rfl)) pe_str (nomark _)) pa_nil))))
      (pss_one (ps_ret (pe_tupleOf (by rfl) N.tup (pe_lc (own := [("_law_turn", 3)]) (g := gName 3) (tt := tYes) (te := tOp (rIxL K) (tLst (tCons (tC .non) (tCons (tC (.int 0)) (tCons (tOp (rI0 fun i j => V.int (i + j)) (tC (.int 1)) (tCallG spTake (tCons (tVar 0) (tCons (tC (.int 4)) tNil)))) (tCons (tC .non) (tCons (tCallG spTake (tCons (tVar 0) (tCons (tC (.int 9)) tNil))) tNil)))))) (tCallG spTake (tCons (tVar 0) (tCons (tC (.int 5)) tNil)))) rfl s_doors.nd (pi_range1 (by rfl) mrg (pa_cons (pv 2) pa_nil)) (blkOk_by (N := ["_law_box_here", "_law_own", "_law_size", "_law_turn"]) (sc := defScope (topS 17)) (by decide +kernel)) (fun _ _ _ _ _ => pg_name (i := 3) s_doors.nd rfl (.inl rfl)) (fun _ _ _ _ _ => pts_nil) (fun _ _ _ _ _ => pe_ix ix_list (pe_lst (pa_cons pe_non (pa_cons pe_int (pa_cons (pe_op op_add pe_int (pe_df DT (hr.mono (by decide)) (by rfl) (pa_cons (pv 0) (pa_cons pe_int pa_nil)))) (pa_cons pe_non (pa_cons (pe_df DT (hr.mono (by decide)) (by rfl) (pa_cons (pv 0) (pa_cons pe_int pa_nil))) pa_nil)))))) (pe_df DT (hr.mono (by decide)) (by rfl) (pa_cons (pv 0) (pa_cons pe_int pa_nil))) (fun _ _ => rfl)))))), ?_⟩
    refine ⟨_, rfl, a, _, 1, _, rfl, rfl, h1, atI_nat (j := 1) rfl, r, _, rfl, .inr h2, ?_⟩
    refine ⟨_, rfl, a, _, 0, _, rfl, rfl, h1, atI_nat (j := 0) rfl, rfl, .inr ⟨_, rfl, _, _, rfl, rfl, ?_⟩⟩
    have en : (((rooms.map V.int).length : Nat) : Int) + (if decide (V.str (fT row) = V.str "row") = true then 1 else 0) = gts row rooms.length := by
      rw [fT_row, List.length_map]
      cases row <;> simp [gts]
    have gn : 0 ≤ gts row rooms.length ∧ gts row rooms.length ≤ 8 := by
      cases row <;> simp [gts] <;> omega
    dsimp only
    rw [en]
    refine ⟨_, rfl, _, rfl, by omega, by omega, fun D nD => lc_range (lo := 0) (n := (gts row rooms.length).toNat) (fun i H' => ∃ l : List (Option Int), Kp b H H' ∧ Bx H' b (m + 3 * i) ∧ H' D = some (.lst (l.map vO)) ∧ l.length = i ∧ ∀ x ∈ l, ∀ i, x = some i → 0 ≤ i ∧ i ≤ 1000000000)
      ⟨[], Kp.ex (Evl.Ex.new nD), (hb.upd (hb.ne nD)).le (by omega), upd_same, rfl, fun r hr => nomatch hr⟩ (fun i H' hi pe => ?_) (fun H' pe => ?_)⟩
    · obtain ⟨l, k2, b2, hD, hl, hp⟩ := pe
      refine ⟨rfl, ?_⟩
      unfold tYes
      dsimp only
      rw [if_pos rfl]
      refine ⟨_, rfl, ?_⟩
      dsimp only [tNil, tC, tCons]
      refine takeR b2 (by omega) (by decide) (by decide) fun d H2 d0 d1 k3 b3 => ?_
      have hD2 := k3 D _ (hb.ne nD) hD
      refine ⟨1, d, rfl, rfl, _, rfl, ?_⟩
      dsimp only [tNil, tC, tCons]
      refine takeR b3 (by omega) (by decide) (by decide) fun e H3 e0 e1 k4 b4 => ?_
      have hD3 := k4 D _ (hb.ne nD) hD2
      refine ⟨show 5 ≤ sizeLine by decide, fun c nc => ?_⟩
      refine ⟨_, rfl, ?_⟩
      dsimp only [tNil, tC, tCons]
      refine takeR (b4.upd (b4.ne nc)) (by omega) (by decide) (by decide) fun g H4 g0 g1 k5 b5 => ?_
      obtain ⟨z, ez, hz⟩ := pick5 d0 d1 e0 e1 g0 g1
      have hc5 := k5 c _ (b4.ne nc) upd_same
      have hD5 := k5 D _ (hb.ne nD) (carry hD3 nc)
      refine ⟨c, _, _, _, rfl, rfl, .inl (.inl hc5), ez, _, hD5, ?_, l ++ [z], ?_, ?_, ?_, ?_, ?_⟩
      · rw [List.length_map]
        exact Evl.sz_lt (by omega)
      · exact Kp.mut ((((k2.trans k3).trans k4).trans (Kp.ex (Evl.Ex.new nc))).trans k5) nD
      · exact (b5.upd (hb.ne nD)).le (by omega)
      · rw [upd_same, mapO_snoc]
      · rw [List.length_append, hl]
        rfl
      · exact memO_snoc hp hz
    · obtain ⟨l, k2, b2, hD, hl, hp⟩ := pe
      refine .inl ⟨D, _, rfl, .inl (.inl hD), fun h nh => ?_⟩
      have x3 := Evl.Ex.new (o := .tup (l.map vO)) nh
      exact q _ _ l (k2.trans (Kp.ex x3)) ((b2.ex x3).le (by omega)) ⟨h, rfl, .inl (.inl upd_same)⟩ (by omega) hp
/-- the first i of them fit the first i rooms -/
def Fit (l rooms : List Int) (i : Nat) : Prop := l.length = i ∧ ∀ (j : Nat) (h r : Int), l[j]? = some h → rooms[j]? = some r → 0 ≤ h ∧ h ≤ r
theorem Fit.snoc {l rooms : List Int} {i : Nat} {z r : Int} (h : Fit l rooms i) (hr : rooms[i]? = some r) (h0 : 0 ≤ z) (h1 : z ≤ r) : Fit (l ++ [z]) rooms (i + 1) := by
  obtain ⟨hl, hp⟩ := h
  refine ⟨by rw [List.length_append, hl]; rfl, fun j x y ex ey => ?_⟩
  by_cases c : j < l.length
  · rw [List.getElem?_append_left c] at ex
    exact hp j x y ex ey
  · by_cases e : j = i
    · subst e
      rw [List.getElem?_append_right (by omega), hl, Nat.sub_self] at ex
      cases ex
      rw [hr] at ey
      cases ey
      exact ⟨h0, h1⟩
    · rw [List.getElem?_eq_none (by rw [List.length_append, List.length_singleton]; omega)] at ex
      cases ex
theorem ok_lies {f : Addr} {fd : FuncData} (F : Fun K "_law_lies" "_law_lies" (topS 18) f fd) (N : Names mg) (DT : Df P w K mg base "_law_take" ["_law_box_here", "_law_bound"] 1 spTake) :
    FnOk P w K mg base CX0 2 f fd ["_law_box_here", "_law_own"] (spLies K) := by
  refine F.ok s_lies (fun vs H Q E h => ?_) (fun cdv A outer s H vs Q E hr h => ?_)
  · obtain ⟨b, m, v, row, rooms, rfl, hb, hm, ⟨a, r, rfl, h1, h2⟩, hn, hp, q⟩ := h
    rfl
  · obtain ⟨b, m, v, row, rooms, rfl, hb, hm, ⟨a, r, rfl, h1, h2⟩, hn, hp, q⟩ := h
    refine ⟨_, pss_cons (ps_set (i := 2) s_lies.nd rfl (.inr rfl) (pe_df DT (hr.mono (by decide)) (by rfl) (pa_cons (pv 0) (pa_cons pe_int pa_nil))))
      (pss_cons (ps_if (pt_cmpR op_lt (pv 2) pe_int (nomark _)) (pss_one (ps_ret (pe_tupleOf (by rfl) N.tup (pe_lc (own := [("_law_home", 3)]) (g := gName 3) (tt := tYes) rfl s_lies.nd (pi_tup (pe_ix ix_tup (pv 1) pe_int (fun _ _ => rfl))) (blkOk_by (N := ["_law_box_here", "_law_own", "_law_sort", "_law_home"]) (sc := defScope (topS 18)) (by decide +kernel)) (fun _ _ _ _ _ => pg_name (i := 3) s_lies.nd rfl (.inl rfl)) (fun _ _ _ _ _ => pts_nil) (fun _ _ _ _ _ => pe_op op_mul (pv 3) (pv 2)))))) pss_nil)
      (pss_one (ps_ret (pe_tupleOf (by rfl) N.tup (pe_lc (own := [("_law_home", 3)]) (g := gName 3) (tt := tYes) (te := tCallG spTake (tCons (tVar 0) (tCons (tOp (rI0 fun i j => V.int (i + j)) (tVar 3) (tC (.int 1))) tNil))) rfl s_lies.nd (pi_tup (pe_ix ix_tup (pv 1) pe_int (fun _ _ => rfl))) (blkOk_by (N := ["_law_box_here", "_law_own", "_law_sort", "_law_home"]) (sc := defScope (topS 18)) (by decide +kernel)) (fun _ _ _ _ _ => pg_name (i := 3) s_lies.nd rfl (.inl rfl)) (fun _ _ _ _ _ => pts_nil) (fun _ _ _ _ _ => (pe_df DT (hr.mono (by decide)) (by rfl) (pa_cons (pv 0) (pa_cons (pe_op op_add (pv 3) pe_int) pa_nil))))))))), ?_⟩
    refine ⟨_, rfl, ?_⟩
    dsimp only [tNil, tC, tCons]
    refine takeR hb (by omega) (by decide) (by decide) fun so H1 s0 s1 k1 b1 => ?_
    have h11 := sqt_kp h1 hb k1
    have h21 := sqt_kp h2 hb k1
    refine ⟨_, rfl, _, _, rfl, rfl, _, rfl, ite2 (fun c => ?_) (fun c => ?_)⟩
    · have c1 : so < 2 := of_decide_eq_true c
      refine ⟨_, rfl, a, _, 1, _, rfl, rfl, h11, atI_nat (j := 1) rfl, r, rfl, ⟨_, h21⟩, fun D nD => lc_it (walk_tup (xs := rooms.map V.int)) (fun i H' => ∃ l : List Int, Evl.Ex H1 H' ∧ H' D = some (.lst (l.map V.int)) ∧ Fit l rooms i)
        ⟨[], Evl.Ex.new nD, upd_same, rfl, fun j h r e _ => by simp at e⟩ (fun i H' _ pe => Evl.ex_t pe.choose_spec.1 h21) (fun i x H2 H3 hi pe y => ?_) (fun H' pe => ?_)⟩
      · obtain ⟨l, x2, hD, hf⟩ := pe
        obtain ⟨rfl, ex⟩ := y
        obtain ⟨ro, rfl, er⟩ := int_at ex
        have hro := hp ro (List.mem_of_getElem? er)
        refine ⟨rfl, ?_⟩
        unfold tYes
        dsimp only
        rw [if_pos rfl]
        have m0 : 0 ≤ ro * so := Int.mul_nonneg (by omega) s0
        have m1 : ro * so ≤ ro := by
          have c2 : so = 0 ∨ so = 1 := by omega
          rcases c2 with rfl | rfl
          · rw [Int.mul_zero]
            omega
          · rw [Int.mul_one]
            exact Int.le_refl _
        rw [List.length_map] at hi
        refine ⟨_, rfl, _, rfl, ro, so, rfl, rfl, .inr ⟨by omega, by omega⟩, _, hD, ?_, l ++ [ro * so], Evl.Ex.mut x2 nD, ?_, hf.snoc er m0 m1⟩
        · rw [List.length_map, hf.1]
          exact Evl.sz_lt (by omega)
        · rw [upd_same, map_snoc]
      · obtain ⟨l, x2, hD, hf⟩ := pe
        rw [List.length_map] at hf
        refine .inl ⟨D, _, rfl, .inl (.inl hD), fun h nh => ?_⟩
        have x3 := x2.trans (Evl.Ex.new (o := .tup (l.map V.int)) nh)
        exact q _ _ l (k1.trans (Kp.ex x3)) ((b1.ex x3).le (by omega)) ⟨h, rfl, .inl (.inl upd_same)⟩ hf
    · refine ⟨_, rfl, a, _, 1, _, rfl, rfl, h11, atI_nat (j := 1) rfl, r, rfl, ⟨_, h21⟩, fun D nD => lc_it (walk_tup (xs := rooms.map V.int)) (fun i H' => ∃ l : List Int, Kp b H1 H' ∧ Bx H' b (m + 1 + i) ∧ H' D = some (.lst (l.map V.int)) ∧ Fit l rooms i)
        ⟨[], Kp.ex (Evl.Ex.new nD), (b1.upd (b1.ne nD)).le (by omega), upd_same, rfl, fun j h r e _ => by simp at e⟩ (fun i H' _ pe => sqt_kp h21 b1 pe.choose_spec.1) (fun i x H2 H3 hi pe y => ?_) (fun H' pe => ?_)⟩
      · obtain ⟨l, k2, b2, hD, hf⟩ := pe
        obtain ⟨rfl, ex⟩ := y
        obtain ⟨ro, rfl, er⟩ := int_at ex
        have hro := hp ro (List.mem_of_getElem? er)
        rw [List.length_map] at hi
        refine ⟨rfl, ?_⟩
        unfold tYes
        dsimp only
        rw [if_pos rfl]
        refine ⟨_, rfl, _, rfl, ro, 1, rfl, rfl, ?_⟩
        dsimp only [tNil, tC, tCons]
        refine takeR b2 (by omega) (by omega) (by omega) fun d H4 d0 d1 k3 b3 => ?_
        refine ⟨_, k3 D _ (b1.ne nD) hD, ?_, l ++ [d], Kp.mut (k2.trans k3) nD, (b3.upd (b1.ne nD)).le (by omega), ?_, hf.snoc er d0 (by omega)⟩
        · rw [List.length_map, hf.1]
          exact Evl.sz_lt (by omega)
        · rw [upd_same, map_snoc]
      · obtain ⟨l, k2, b2, hD, hf⟩ := pe
        rw [List.length_map] at hf b2
        refine .inl ⟨D, _, rfl, .inl (.inl hD), fun h nh => ?_⟩
        have x3 := Evl.Ex.new (o := .tup (l.map V.int)) nh
        exact q _ _ l ((k1.trans k2).trans (Kp.ex x3)) ((b2.ex x3).le (by omega)) ⟨h, rfl, .inl (.inl upd_same)⟩ hf
end
end Kd

namespace Kd
open PySem PySem.Spec PyProof.Rows L2 Xg
theorem pick6 {r : Int} (r0 : 0 ≤ r) (r1 : r < 6) : ∃ k : Int, atI [V.int 0, V.int 0, V.int 1, V.int 1, V.int 2, V.int 3] r = some (.int k) ∧ 0 ≤ k ∧ k < 4 := by
  have c : r = 0 ∨ r = 1 ∨ r = 2 ∨ r = 3 ∨ r = 4 ∨ r = 5 := by omega
  rcases c with rfl | rfl | rfl | rfl | rfl | rfl
  · exact ⟨0, atI_nat (j := 0) rfl, by omega, by omega⟩
  · exact ⟨0, atI_nat (j := 1) rfl, by omega, by omega⟩
  · exact ⟨1, atI_nat (j := 2) rfl, by omega, by omega⟩
  · exact ⟨1, atI_nat (j := 3) rfl, by omega, by omega⟩
  · exact ⟨2, atI_nat (j := 4) rfl, by omega, by omega⟩
  · exact ⟨3, atI_nat (j := 5) rfl, by omega, by omega⟩
theorem pickD {d e r : Int} (h0 : 0 ≤ d) (h1 : d < 1000000000) (g0 : 0 ≤ e) (g1 : e < 9) (r0 : 0 ≤ r) (r1 : r < 4) : ∃ x : Option Int, atI [V.non, V.int d, V.int (1 + e), V.int 0] r = some (vO x) ∧ ∀ i, x = some i → 0 ≤ i ∧ i ≤ 1000000000 := by
  have c : r = 0 ∨ r = 1 ∨ r = 2 ∨ r = 3 := by omega
  rcases c with rfl | rfl | rfl | rfl
  · exact ⟨none, atI_nat (j := 0) rfl, fun i z => nomatch z⟩
  · exact ⟨some d, atI_nat (j := 1) rfl, fun i z => by cases z; omega⟩
  · exact ⟨some (1 + e), atI_nat (j := 2) rfl, fun i z => by cases z; omega⟩
  · exact ⟨some 0, atI_nat (j := 3) rfl, fun i z => by cases z; omega⟩
section
variable {P : Program} {w : World} {K : PySem.W.Frag} {mg : Str → Option Value} {base : Heap}
end
end Kd

namespace Kd
open PySem PySem.Spec PyProof.Rows L2 Xg
def dO : Option Int → PyData
  | none => .none
  | some i => .int i
def dL (row : Bool) (rooms : List Int) : PyData := .tuple [.str (fT row), .tuple (rooms.map PyData.int)]
def dAll (row : Bool) (rooms : List Int) (ws : List (Option Int)) (held : List Int) : PyData := .list [dL row rooms, .tuple (ws.map dO), .tuple (held.map PyData.int)]
/-- leaves that are short -/
structure Lf (d : PyData) : Prop where
  sh : d.showable = true
  di : d.hasDict = false
  dp : d.depth = 0
  lv : d.leavesShort 13 = true
  wt : d.weight ≤ 40
theorem lf_int {i : Int} (h : 0 ≤ i ∧ i ≤ 1000000000) : Lf (.int i) := by
  have hn : i.natAbs < 2 ^ 30 := by omega
  have hlog : i.natAbs.log2 < 30 := by
    by_cases z : i.natAbs = 0
    · rw [z]
      decide
    · exact (Nat.log2_lt z).mpr hn
  refine ⟨?_, by simp [PyData.hasDict], by simp [PyData.depth], ?_, ?_⟩
  · rw [PyData.showable]
    exact decide_eq_true (by omega)
  · rw [PyData.leavesShort]
    exact decide_eq_true (PyData.shown_int_le (by omega))
  · rw [PyData.weight]
    split <;> omega
theorem lf_none : Lf .none := ⟨by simp [PyData.showable], by simp [PyData.hasDict], by simp [PyData.depth], by decide +kernel, by decide +kernel⟩
theorem lf_all {α : Type} (c : α → PyData) : ∀ l : List α, (∀ a ∈ l, Lf (c a)) → PyData.showableAll (l.map c) = true ∧ PyData.hasDictAll (l.map c) = false ∧ PyData.depthAll (l.map c) = 0 ∧ PyData.leavesShortAll 13 (l.map c) = true ∧ PyData.weightAll (l.map c) ≤ 41 * l.length
  | [], _ => ⟨by simp [PyData.showableAll], by simp [PyData.hasDictAll], by simp [PyData.depthAll], by simp [PyData.leavesShortAll], by simp [PyData.weightAll]⟩
  | a :: l, h => by
    obtain ⟨g1, g2, g3, g4, g5⟩ := lf_all c l fun x hx => h x (List.mem_cons_of_mem _ hx)
    obtain ⟨f1, f2, f3, f4, f5⟩ := h a List.mem_cons_self
    refine ⟨?_, ?_, ?_, ?_, ?_⟩
    · rw [List.map_cons, PyData.showableAll, f1, g1]
      rfl
    · rw [List.map_cons, PyData.hasDictAll, f2, g2]
      rfl
    · rw [List.map_cons, PyData.depthAll, f3, g3]
      rfl
    · rw [List.map_cons, PyData.leavesShortAll, f4, g4]
      rfl
    · rw [List.map_cons, PyData.weightAll, List.length_cons]
      omega
theorem lf_ints {l : List Int} (h : ∀ r ∈ l, 0 ≤ r ∧ r ≤ 1000000000) : ∀ a ∈ l, Lf (PyData.int a) := fun a ha => lf_int (h a ha)
theorem lf_opts {l : List (Option Int)} (h : ∀ x ∈ l, ∀ i, x = some i → 0 ≤ i ∧ i ≤ 1000000000) : ∀ a ∈ l, Lf (dO a) := fun a ha => by
  cases e : a with
  | none => exact lf_none
  | some i => exact lf_int (h a ha i e)
theorem dAll_ok {row : Bool} {rooms held : List Int} {ws : List (Option Int)} (h1 : ∀ r ∈ rooms, 0 ≤ r ∧ r ≤ 1000000000) (h2 : ∀ x ∈ ws, ∀ i, x = some i → 0 ≤ i ∧ i ≤ 1000000000) (h3 : ∀ r ∈ held, 0 ≤ r ∧ r ≤ 1000000000)
    (l1 : rooms.length ≤ 10) (l2 : ws.length ≤ 10) (l3 : held.length ≤ 10) :
    (dAll row rooms ws held).showable = true ∧ (dAll row rooms ws held).hasDict = false ∧ (dAll row rooms ws held).depth ≤ 60 ∧ (dAll row rooms ws held).shown.length ≤ sizeLine := by
  obtain ⟨a1, a2, a3, a4, a5⟩ := lf_all PyData.int rooms (lf_ints h1)
  obtain ⟨b1, b2, b3, b4, b5⟩ := lf_all dO ws (lf_opts h2)
  obtain ⟨c1, c2, c3, c4, c5⟩ := lf_all PyData.int held (lf_ints h3)
  have f1 : (PyData.str (fT row)).leavesShort 13 = true := by cases row <;> decide +kernel
  have f2 : (PyData.str (fT row)).weight ≤ 4 := by cases row <;> decide +kernel
  refine ⟨?_, ?_, ?_, PyData.shown_fits (B := 13) (by decide) (by decide) ?_ ?_⟩
  · simp [dAll, dL, PyData.showable, PyData.showableAll, a1, b1, c1]
  · simp [dAll, dL, PyData.hasDict, PyData.hasDictAll, a2, b2, c2]
  · simp [dAll, dL, PyData.depth, PyData.depthAll, a3, b3, c3]
  · rw [PyData.leavesShort] at f1
    simp only [dAll, dL, PyData.leavesShort, PyData.leavesShortAll, a4, b4, c4, f1]
    rfl
  · rw [PyData.weight] at f2
    simp only [dAll, dL, PyData.weight, PyData.weightAll]
    omega
theorem shal_int (n : Nat) (i : Int) : shal n (.int i) = true := by cases n <;> simp [shal]
theorem shal_str (n : Nat) (z : Str) : shal n (.str z) = true := by cases n <;> simp [shal]
theorem shal_opt (n : Nat) (x : Option Int) : shal n (dO x) = true := by cases x <;> cases n <;> simp [shal, dO]
theorem shal_tup (n : Nat) (ds : List PyData) (h : ds.length ≤ 1000) (g : ∀ d ∈ ds, shal n d = true) : shal (n + 1) (.tuple ds) = true := by
  rw [shal, Bool.and_eq_true_iff]
  exact ⟨decide_eq_true h, List.all_eq_true.mpr g⟩
theorem shal_lst (n : Nat) (ds : List PyData) (h : ds.length ≤ 1000) (g : ∀ d ∈ ds, shal n d = true) : shal (n + 1) (.list ds) = true := by
  rw [shal, Bool.and_eq_true_iff]
  exact ⟨decide_eq_true h, List.all_eq_true.mpr g⟩
theorem shal_ints (n : Nat) (l : List Int) (h : l.length ≤ 1000) : shal (n + 1) (.tuple (l.map PyData.int)) = true := shal_tup n _ (by rw [List.length_map]; exact h) fun d hd => by
  obtain ⟨i, _, rfl⟩ := List.mem_map.mp hd
  exact shal_int n i
theorem shal_opts (n : Nat) (l : List (Option Int)) (h : l.length ≤ 1000) : shal (n + 1) (.tuple (l.map dO)) = true := shal_tup n _ (by rw [List.length_map]; exact h) fun d hd => by
  obtain ⟨i, _, rfl⟩ := List.mem_map.mp hd
  exact shal_opt n i
theorem shal_line (n : Nat) (row : Bool) (l : List Int) (h : l.length ≤ 1000) : shal (n + 2) (dL row l) = true := by
  refine shal_tup (n + 1) _ (by show 2 ≤ 1000; decide) fun d hd => ?_
  rcases List.mem_cons.mp hd with e | e
  · rw [e]
    exact shal_str _ _
  · rw [List.mem_singleton.mp e]
    exact shal_ints n l h
theorem dp_opts {K : PySem.W.Frag} {H : Hp} : ∀ l : List (Option Int), DpAll K H (l.map vO) (l.map dO)
  | [] => .nil
  | none :: r => .cons .non (dp_opts r)
  | some i :: r => .cons (.int i) (dp_opts r)
section
variable {K : PySem.W.Frag} {H : Hp} {v : V}
theorem TpV.ints {l : List Int} (h : TpV K true H v (l.map V.int)) : Dp K H v (.tuple (l.map PyData.int)) := by
  obtain ⟨a, rfl, h⟩ := h
  exact .tup h (dp_ints l)
theorem TpV.opts {l : List (Option Int)} (h : TpV K true H v (l.map vO)) : Dp K H v (.tuple (l.map dO)) := by
  obtain ⟨a, rfl, h⟩ := h
  exact .tup h (dp_opts l)
theorem LnV.dp {row : Bool} {rooms : List Int} (h : LnV K true H v row rooms) : Dp K H v (dL row rooms) := by
  obtain ⟨a, r, rfl, h1, h2⟩ := h
  exact .tup h1 (.cons (.str _) (.cons (.tup h2 (dp_ints rooms)) .nil))
end
section
variable {P : Program} {w : World} {K : PySem.W.Frag} {mg : Str → Option Value} {base : Heap}
theorem FnOk.or {f : Addr} {fd : FuncData} {k : Nat} {ps : List Str} {sp1 sp2 : Sp} (a : FnOk P w K mg base CX0 k f fd ps sp1) (b : FnOk P w K mg base CX0 k f fd ps sp2) : FnOk P w K mg base CX0 k f fd ps (fun vs H Q E => sp1 vs H Q E ∨ sp2 vs H Q E) :=
  ⟨fun vs H Q E h => h.elim (a.len vs H Q E) (b.len vs H Q E), fun A outer s H args us vs Q E hr he hb hv h => h.elim (a.run A outer s H args us vs Q E hr he hb hv) (b.run A outer s H args us vs Q E hr he hb hv)⟩
def spL1 : Sp := fun vs H Q _ => ∃ v : V, vs = [v] ∧ ((∃ i, v = .int i) ∨ ∃ z, v = .str z) ∧ ∀ H', Evl.Ex H H' → Q v H'
def spL2 (K : PySem.W.Frag) : Sp := fun vs H Q _ => ∃ (a : Addr) (l : List Int), vs = [.ref a] ∧ SqT K H a (l.map V.int) ∧ l.length ≤ 1000 ∧ ∀ p H', Evl.Ex H H' → H' p = some (.lst (l.map V.int)) → Q (.ref p) H'
def spL3 (K : PySem.W.Frag) : Sp := fun vs H Q _ => ∃ (v : V) (row : Bool) (rooms : List Int), vs = [v] ∧ LnV K true H v row rooms ∧ rooms.length ≤ 1000 ∧ ∀ u H', Evl.Ex H H' → LnV K false H' u row rooms → Q u H'
end
end Kd
namespace Kd
open PySem PySem.Spec PyProof.Rows L2 Xg
/-! the program's looks over any data -/
def tyn : PyData → String
  | .none => "NoneType"
  | .bool _ => "bool"
  | .int _ => "int"
  | .str _ => "str"
  | .list _ => "list"
  | .tuple _ => "tuple"
  | .dict _ => "dict"
section
variable {K : PySem.W.Frag} {H : Hp} {v : V} {d : PyData}
theorem tyx_d : Dp K H v d → TyX K H v (.type (tyn d))
  | .non => .base .non
  | .bl b => .base (.bl b)
  | .int i => .base (.int i)
  | .str x => .base (.str x)
  | .lst h _ => tyx_l h
  | .tup h _ => tyx_t h
end
def dInt : PyData → Bool
  | .int _ => true
  | .bool _ => true
  | _ => false
def dBool : PyData → Bool
  | .bool _ => true
  | _ => false
def dTup : PyData → Bool
  | .tuple _ => true
  | _ => false
def dList : PyData → Bool
  | .list _ => true
  | _ => false
def dStr : PyData → Bool
  | .str _ => true
  | _ => false
theorem k_int (d : PyData) : kitB (tyn d) "int" = some (dInt d) := by
  cases d with
  | none => exact (show kitB "NoneType" "int" = some false by decide +kernel)
  | bool _ => exact (show kitB "bool" "int" = some true by decide +kernel)
  | int _ => exact (show kitB "int" "int" = some true by decide +kernel)
  | str _ => exact (show kitB "str" "int" = some false by decide +kernel)
  | list _ => exact (show kitB "list" "int" = some false by decide +kernel)
  | tuple _ => exact (show kitB "tuple" "int" = some false by decide +kernel)
  | dict _ => exact (show kitB "dict" "int" = some false by decide +kernel)
theorem k_bool (d : PyData) : kitB (tyn d) "bool" = some (dBool d) := by
  cases d with
  | none => exact (show kitB "NoneType" "bool" = some false by decide +kernel)
  | bool _ => exact (show kitB "bool" "bool" = some true by decide +kernel)
  | int _ => exact (show kitB "int" "bool" = some false by decide +kernel)
  | str _ => exact (show kitB "str" "bool" = some false by decide +kernel)
  | list _ => exact (show kitB "list" "bool" = some false by decide +kernel)
  | tuple _ => exact (show kitB "tuple" "bool" = some false by decide +kernel)
  | dict _ => exact (show kitB "dict" "bool" = some false by decide +kernel)
theorem k_tup (d : PyData) : kitB (tyn d) "tuple" = some (dTup d) := by
  cases d with
  | none => exact (show kitB "NoneType" "tuple" = some false by decide +kernel)
  | bool _ => exact (show kitB "bool" "tuple" = some false by decide +kernel)
  | int _ => exact (show kitB "int" "tuple" = some false by decide +kernel)
  | str _ => exact (show kitB "str" "tuple" = some false by decide +kernel)
  | list _ => exact (show kitB "list" "tuple" = some false by decide +kernel)
  | tuple _ => exact (show kitB "tuple" "tuple" = some true by decide +kernel)
  | dict _ => exact (show kitB "dict" "tuple" = some false by decide +kernel)
theorem k_list (d : PyData) : kitB (tyn d) "list" = some (dList d) := by
  cases d with
  | none => exact (show kitB "NoneType" "list" = some false by decide +kernel)
  | bool _ => exact (show kitB "bool" "list" = some false by decide +kernel)
  | int _ => exact (show kitB "int" "list" = some false by decide +kernel)
  | str _ => exact (show kitB "str" "list" = some false by decide +kernel)
  | list _ => exact (show kitB "list" "list" = some true by decide +kernel)
  | tuple _ => exact (show kitB "tuple" "list" = some false by decide +kernel)
  | dict _ => exact (show kitB "dict" "list" = some false by decide +kernel)
theorem k_str (d : PyData) : kitB (tyn d) "str" = some (dStr d) := by
  cases d with
  | none => exact (show kitB "NoneType" "str" = some false by decide +kernel)
  | bool _ => exact (show kitB "bool" "str" = some false by decide +kernel)
  | int _ => exact (show kitB "int" "str" = some false by decide +kernel)
  | str _ => exact (show kitB "str" "str" = some true by decide +kernel)
  | list _ => exact (show kitB "list" "str" = some false by decide +kernel)
  | tuple _ => exact (show kitB "tuple" "str" = some false by decide +kernel)
  | dict _ => exact (show kitB "dict" "str" = some false by decide +kernel)
def isNum : PyData → Bool
  | .int _ => true
  | _ => false
def fromB (l : Int) : PyData → Bool
  | .int i => decide (l ≤ i)
  | _ => false
def tupOf (n : Int) : PyData → Bool
  | .tuple ds => decide ((ds.length : Int) = n)
  | _ => false
theorem isNum_eq (d : PyData) : isNum d = (dInt d && !dBool d) := by cases d <;> rfl
section
variable {P : Program} {w : World} {K : PySem.W.Frag} {mg : Str → Option Value} {base : Heap}
def spNumD (K : PySem.W.Frag) : Sp := fun vs H Q _ => ∃ (v : V) (d : PyData), vs = [v] ∧ Dp K H v d ∧ Q (.bl (isNum d)) H
def spFromD (K : PySem.W.Frag) : Sp := fun vs H Q _ => ∃ (v : V) (d : PyData) (l : Int), vs = [v, .int l] ∧ Dp K H v d ∧ Q (.bl (fromB l d)) H
def spTupD (K : PySem.W.Frag) : Sp := fun vs H Q _ => ∃ (v : V) (d : PyData) (n : Int), vs = [v, .int n] ∧ Dp K H v d ∧ Q (.bl (tupOf n d)) H
theorem num_read {v : V} {d : PyData} {H : Hp} {Q : VK} (hv : Dp K H v d) (q : Q (.bl (isNum d)) H) :
    ∃ b : Bool, b = dInt d ∧ (b = true → Q (.bl (!dBool d)) H) ∧ (b = false → Q (.bl b) H) := by
  refine ⟨dInt d, rfl, fun e => ?_, fun e => ?_⟩
  · rw [isNum_eq, e] at q
    exact q
  · rw [isNum_eq, e] at q
    rw [e]
    exact q
theorem ok_numD {f : Addr} {fd : FuncData} {k : Nat} (F : Fun K "is_number" "is_number" (topS 1) f fd) (N : Names mg) :
    FnOk P w K mg base CX0 (k + 1) f fd ["thing"] (spNumD K) := by
  refine F.ok s_isNumber (fun vs H Q E h => ?_) (fun cdv A outer s H vs Q E hr h => ?_)
  · obtain ⟨v, d, rfl, _⟩ := h
    rfl
  · obtain ⟨v, d, rfl, hv, q⟩ := h
    refine ⟨_, pss_one (ps_ret (pe_and (pe_callB call_isi (by rfl) N.isi bt_isi (pa_cons (pv 0) (pa_cons (pe_bltn (v := .ty "int") (by rfl) N.int bt_int rfl) pa_nil))) (pe_one (pe_not (pe_callB call_isi (by rfl) N.isi bt_isi (pa_cons (pv 0) (pa_cons (pe_bltn (v := .ty "bool") (by rfl) N.bool bt_bool rfl) pa_nil))))))), ?_⟩
    rw [isNum_eq] at q
    refine ⟨_, rfl, _, _, _, _, dInt d, rfl, .ty _, tyx_d hv, kit_ty (k_int d), _, rfl, ite2 (fun e => ?_) (fun e => ?_)⟩
    · rw [e] at q
      exact ⟨_, rfl, _, _, _, _, dBool d, rfl, .ty _, tyx_d hv, kit_ty (k_bool d), _, rfl, q⟩
    · have e' : dInt d = false := by simpa using e
      rw [e'] at q
      exact q
theorem ok_fromD {f : Addr} {fd : FuncData} (F : Fun K "is_number_from" "is_number_from" (topS 2) f fd) (D : Df P w K mg base "is_number" ["thing"] 1 (spNumD K)) :
    FnOk P w K mg base CX0 2 f fd ["thing", "least"] (spFromD K) := by
  refine F.ok s_isFrom (fun vs H Q E h => ?_) (fun cdv A outer s H vs Q E hr h => ?_)
  · obtain ⟨v, d, l, rfl, _⟩ := h
    rfl
  · obtain ⟨v, d, l, rfl, hv, q⟩ := h
    refine ⟨_, pss_one (ps_ret (pe_and (pe_df D hr (by rfl) (pa_cons (pv 0) pa_nil)) (pe_one (pe_cmpR op_ge (pv 0) (pv 1) (nomark _))))), ?_⟩
    refine ⟨_, rfl, v, d, rfl, hv, _, rfl, ?_⟩
    cases hv with
    | int i => exact iteT ⟨_, rfl, _, rfl, i, l, rfl, rfl, q⟩
    | non => exact iteF q
    | bl b => exact iteF q
    | str x => exact iteF q
    | lst _ _ => exact iteF q
    | tup _ _ => exact iteF q
theorem ok_tupD {f : Addr} {fd : FuncData} {k : Nat} (F : Fun K "is_tuple_of" "is_tuple_of" (topS 3) f fd) (N : Names mg) :
    FnOk P w K mg base CX0 (k + 1) f fd ["thing", "many"] (spTupD K) := by
  refine F.ok s_isTup (fun vs H Q E h => ?_) (fun cdv A outer s H vs Q E hr h => ?_)
  · obtain ⟨v, d, n, rfl, _⟩ := h
    rfl
  · obtain ⟨v, d, n, rfl, hv, q⟩ := h
    refine ⟨_, pss_one (ps_ret (pe_and (pe_callB call_isi (by rfl) N.isi bt_isi (pa_cons (pv 0) (pa_cons (pe_bltn (v := .ty "tuple") (by rfl) N.tup bt_tup rfl) pa_nil))) (pe_one (pe_cmpR op_eq (pe_callB call_len_seq (by rfl) N.len PySem.boot_len (pa_cons (pv 0) pa_nil)) (pv 1) (nomark _))))), ?_⟩
    refine ⟨_, rfl, _, _, _, _, dTup d, rfl, .ty _, tyx_d hv, kit_ty (k_tup d), _, rfl, ?_⟩
    cases hv with
    | int i => exact iteF q
    | non => exact iteF q
    | bl b => exact iteF q
    | str x => exact iteF q
    | lst _ _ => exact iteF q
    | tup h g =>
      rename_i a xs ds
      refine iteT ⟨_, rfl, a, _, rfl, .inr h, _, rfl, rfl, ?_⟩
      have e : decide (V.int ((xs.length : Nat) : Int) = V.int n) = decide ((ds.length : Int) = n) := by
        rw [dpa_len g]
        exact decide_eq_decide.mpr ⟨fun z => by cases z; rfl, fun z => by rw [z]⟩
      rw [e]
      exact q
/-- a comprehension of truths, whatever they are -/
def Bls (H : Hp) (D : Addr) (bs : List Bool) (i : Nat) (H' : Hp) : Prop := Evl.Ex H H' ∧ H' D = some (.lst ((bs.take i).map V.bl))
theorem bls_next {H H' : Hp} {D : Addr} {bs : List Bool} {i : Nat} {b : Bool} (nD : H D = none) (hi : i ≤ 1000) (hb : bs[i]? = some b) (e : Evl.Ex H H') (h : H' D = some (.lst ((bs.take i).map V.bl))) :
    ∃ acc, H' D = some (.lst acc) ∧ acc.length < sizeLine ∧ Bls H D bs (i + 1) (upd H' D (.lst (acc ++ [.bl b]))) := by
  refine ⟨_, h, ?_, Evl.Ex.mut e nD, ?_⟩
  · rw [List.length_map, List.length_take]
    exact Evl.sz_lt (by omega)
  · rw [upd_same, List.take_add_one, hb, List.map_append]
    rfl
theorem bls_end {H H' : Hp} {D : Addr} {bs : List Bool} {n : Nat} {Q : VK} (hn : bs.length ≤ n) (p : Bls H D bs n H') (q : ∀ H', Evl.Ex H H' → Q (.bl (bs.all id)) H') : rAll K [.ref D] H' Q := by
  have e : bs.take n = bs := List.take_of_length_le hn
  refine ⟨D, bs, rfl, .inl (.inl ?_), q _ p.1⟩
  have := p.2
  rw [e] at this
  exact this
/-- rooms of at least so many bins -/
def roomsB (l : Int) : PyData → Bool
  | .tuple ds => !decide ((ds.length : Int) < l) && (ds.map (fromB 1)).all id
  | _ => false
def spRoomsD (K : PySem.W.Frag) : Sp := fun vs H Q _ => ∃ (v : V) (d : PyData) (l : Int), vs = [v, .int l] ∧ Dp K H v d ∧ (∀ ds, d = .tuple ds → ds.length ≤ 1000) ∧ ∀ H', Evl.Ex H H' → Q (.bl (roomsB l d)) H'
theorem ok_roomsD {f : Addr} {fd : FuncData} (F : Fun K "are_rooms" "are_rooms" (topS 8) f fd) (N : Names mg) (D : Df P w K mg base "is_number_from" ["thing", "least"] 2 (spFromD K)) :
    FnOk P w K mg base CX0 3 f fd ["thing", "least_bins"] (spRoomsD K) := by
  refine F.ok s_areRooms (fun vs H Q E h => ?_) (fun cdv A outer s H vs Q E hr h => ?_)
  · obtain ⟨v, d, l, rfl, _⟩ := h
    rfl
  · obtain ⟨v, d, l, rfl, hv, hz, q⟩ := h
    refine ⟨_, pss_cons (ps_if (pw_or (pt_not (pt_val (pe_callB call_isi (by rfl) N.isi bt_isi (pa_cons (pv 0) (pa_cons (pe_bltn (v := .ty "tuple") (by rfl) N.tup bt_tup rfl) pa_nil))))) (pw_or1 (pt_cmpR op_lt (pe_callB call_len_seq (by rfl) N.len PySem.boot_len (pa_cons (pv 0) pa_nil)) (pv 1) (nomark _)))).pt (pss_one (ps_ret pe_bl)) pss_nil)
      (pss_one (ps_ret (pe_callB (cr_all rfl) (by rfl) N.all bt_all (pa_cons (pe_lc (own := [("room", 2)]) (g := gName 2) (tt := tYes) rfl s_areRooms.nd (pi_tup (pv 0)) (blkOk_by (N := ["thing", "least_bins", "room"]) (sc := defScope (topS 8)) (by decide +kernel)) (fun _ _ _ _ _ => pg_name (i := 2) s_areRooms.nd rfl (.inl rfl)) (fun _ _ _ _ _ => pts_nil) (fun _ _ _ _ _ => pe_df D hr (by rfl) (pa_cons (pv 2) (pa_cons pe_int pa_nil)))) pa_nil)))), ?_⟩
    refine ⟨_, rfl, _, _, _, _, dTup d, rfl, .ty _, tyx_d hv, kit_ty (k_tup d), _, rfl, ?_⟩
    cases hv with
    | int i => exact ifY rfl (q _ (Evl.Ex.refl _))
    | non => exact ifY rfl (q _ (Evl.Ex.refl _))
    | bl b => exact ifY rfl (q _ (Evl.Ex.refl _))
    | str x => exact ifY rfl (q _ (Evl.Ex.refl _))
    | lst _ _ => exact ifY rfl (q _ (Evl.Ex.refl _))
    | tup h g =>
      rename_i a xs ds
      have hz' := hz ds rfl
      have hlen := dpa_len g
      refine ifN rfl ⟨_, rfl, a, _, rfl, .inr h, _, rfl, _, _, rfl, rfl, _, rfl, ite2 (fun e => ?_) (fun e => ?_)⟩
      · have e1 : decide ((ds.length : Int) < l) = true := by rw [← hlen]; exact e
        have q1 := q H (Evl.Ex.refl _)
        rw [roomsB, e1] at q1
        exact q1
      · have e1 : decide ((ds.length : Int) < l) = false := by rw [← hlen]; simpa using e
        have er : roomsB l (.tuple ds) = (ds.map (fromB 1)).all id := by rw [roomsB, e1]; rfl
        rw [er] at q
        refine ⟨_, rfl, a, rfl, ⟨_, h⟩, fun D' nD => lc_it (walk_tup (xs := xs)) (Bls H D' (ds.map (fromB 1))) ⟨Evl.Ex.new nD, upd_same⟩ (fun i H' _ pe => Evl.ex_t pe.1 h) (fun i x H2 H3 hi pe y => ?_) (fun H' pe => bls_end (by rw [List.length_map, hlen]; exact Nat.le_refl _) pe q)⟩
        obtain ⟨rfl, ex⟩ := y
        obtain ⟨d1, k1, j1⟩ := dpa_at g ex
        refine ⟨rfl, ?_⟩
        unfold tYes
        dsimp only
        rw [if_pos rfl]
        refine ⟨_, rfl, x, d1, 1, rfl, dp_mono pe.1 j1, ?_⟩
        exact bls_next nD (by omega) (by rw [List.getElem?_map, k1]; rfl) pe.1 pe.2
end
end Kd
namespace Kd
open PySem PySem.Spec PyProof.Rows L2 Xg
/-- a text's own -/
def eqS (x : Str) : PyData → Bool
  | .str y => y == x
  | _ => false
theorem eqv_S (x : Str) (d : PyData) : PyData.eqv d (.str x) = eqS x d := by cases d <;> simp [PyData.eqv, eqS]
theorem shp_S (x : Str) (h : PyData.strOk x = true) : SeqAt.shaped (.str x) = true := by simp [SeqAt.shaped, PyData.canLay0, PyData.depth, h]
def lineB : PyData → Bool
  | .tuple [f, r] => if eqS "row" f = true then roomsB 1 r else (eqS "ring" f && roomsB 2 r)
  | _ => false
/-- what may be looked at: not too wide, not too deep -/
def okW (d : PyData) : Bool := shal 60 d && SeqAt.shaped d
theorem two_of {α : Type} {l : List α} (h : l.length = 2) : ∃ a b, l = [a, b] := by
  match l, h with
  | [a, b], _ => exact ⟨a, b, rfl⟩
theorem lineB_no {d : PyData} (h : tupOf 2 d = false) : lineB d = false := by
  cases d with
  | tuple ds =>
    have : ¬ ds.length = 2 := fun e => by
      rw [tupOf, e] at h
      cases h
    match ds, this with
    | [], _ => rfl
    | [_], _ => rfl
    | [_, _], h => exact absurd rfl h
    | _ :: _ :: _ :: _, _ => rfl
  | _ => rfl
section
variable {P : Program} {w : World} {K : PySem.W.Frag} {mg : Str → Option Value} {base : Heap}
def wide (d : PyData) : Prop := ∀ ds, d = .tuple ds → ds.length ≤ 1000
def spLineD (K : PySem.W.Frag) : Sp := fun vs H Q _ => ∃ (v : V) (d : PyData), vs = [v] ∧ Dp K H v d ∧ (∀ f r, d = .tuple [f, r] → SeqAt.shaped f = true ∧ wide r) ∧ ∀ H', Evl.Ex H H' → Q (.bl (lineB d)) H'
theorem ok_lineD {f : Addr} {fd : FuncData} (F : Fun K "is_line" "is_line" (topS 7) f fd) (N : Names mg) (gR : ∃ u, mg "ROW" = some u ∧ L2.RelV (.str "row") u) (gG : ∃ u, mg "RING" = some u ∧ L2.RelV (.str "ring") u) (DT : Df P w K mg base "is_tuple_of" ["thing", "many"] 1 (spTupD K)) (DA : Df P w K mg base "are_rooms" ["thing", "least_bins"] 3 (spRoomsD K)) :
    FnOk P w K mg base CX0 4 f fd ["thing"] (spLineD K) := by
  refine F.ok s_isLine (fun vs H Q E h => ?_) (fun cdv A outer s H vs Q E hr h => ?_)
  · obtain ⟨v, d, rfl, _⟩ := h
    rfl
  · obtain ⟨v, d, rfl, hv, hz, q⟩ := h
    refine ⟨_, pss_cons (ps_if (pt_not (pt_val (pe_df DT (hr.mono (by decide)) (by rfl) (pa_cons (pv 0) (pa_cons pe_int pa_nil))))) (pss_one (ps_ret pe_bl)) pss_nil)
      (pss_cons (ps_asg (pv 0) (pg_tup rfl (pgs_cons (pg_name (i := 1) s_isLine.nd rfl (.inl rfl)) (pgs_cons (pg_name (i := 2) s_isLine.nd rfl (.inl rfl)) pgs_nil))))
      (pss_cons (ps_if (pt_cmpR (op_eqD hr.units) (pv 1) (pe_con (v := .str "row") (by rfl) gR) (nomark _)) (pss_one (ps_ret (pe_df DA hr (by rfl) (pa_cons (pv 2) (pa_cons pe_int pa_nil))))) pss_nil)
      (pss_one (ps_ret (pe_and (pe_cmpR (op_eqD hr.units) (pv 1) (pe_con (v := .str "ring") (by rfl) gG) (nomark _)) (pe_one (pe_df DA hr (by rfl) (pa_cons (pv 2) (pa_cons pe_int pa_nil))))))))), ?_⟩
    refine ⟨_, rfl, v, d, 2, rfl, hv, _, rfl, ite2 (fun e => ?_) (fun e => ?_)⟩
    · have e1 : tupOf 2 d = false := by simpa using e
      have q1 := q H (Evl.Ex.refl _)
      rw [lineB_no e1] at q1
      exact q1
    · have e1 : tupOf 2 d = true := by simpa using e
      cases hv with
      | int i => cases e1
      | non => cases e1
      | bl b => cases e1
      | str x => cases e1
      | lst _ _ => cases e1
      | tup h g =>
        rename_i a xs ds
        have l2 : ds.length = 2 := by
          have := of_decide_eq_true e1
          omega
        obtain ⟨d1, d2, rfl⟩ := two_of l2
        obtain ⟨x1, x2, rfl⟩ := two_of ((dpa_len g).trans l2)
        cases g with
        | cons g1 g' =>
        cases g' with
        | cons g2 g' =>
        obtain ⟨sh, wd⟩ := hz d1 d2 rfl
        refine ⟨_, rfl, a, _, rfl, h, rfl, _, _, rfl, _, [], rfl, rfl, ?_⟩
        refine ⟨_, rfl, d1, .str "row", g1, .str _, sh, shp_S _ (by decide +kernel), _, rfl, ?_⟩
        rw [eqv_S]
        refine ite2 (fun e2 => ?_) (fun e2 => ?_)
        · rw [lineB, if_pos e2] at q
          exact ⟨_, rfl, x2, d2, 1, rfl, g2, wd, q⟩
        · rw [lineB, if_neg e2] at q
          refine ⟨_, rfl, d1, .str "ring", g1, .str _, sh, shp_S _ (by decide +kernel), _, rfl, ?_⟩
          rw [eqv_S]
          refine ite2 (fun e3 => ?_) (fun e3 => ?_)
          · rw [e3] at q
            exact ⟨_, rfl, x2, d2, 2, rfl, g2, wd, q⟩
          · have e4 : eqS "ring" d1 = false := by simpa using e3
            have q1 := q H (Evl.Ex.refl _)
            rw [e4] at q1
            exact q1
/-- a line whose pair and whose rooms are tuples or lists, each by itself -/
def LnW (K : PySem.W.Frag) (b c : Bool) (H : Hp) (v : V) (row : Bool) (rooms : List Int) : Prop := ∃ a r, v = .ref a ∧ Sq K b H a [.str (fT row), .ref r] ∧ Sq K c H r (rooms.map V.int)
theorem LnW.mono {b c : Bool} {H H' : Hp} {v : V} {row : Bool} {rooms : List Int} (h : LnW K b c H v row rooms) (e : Evl.Ex H H') : LnW K b c H' v row rooms := let ⟨a, r, h1, h2, h3⟩ := h; ⟨a, r, h1, h2.mono e, h3.mono e⟩
theorem unpW {b c : Bool} {H : Hp} {v : V} {row : Bool} {rooms : List Int} {σ : L2.St} {t : TGs} {Q : L2.St → Hp → Prop} (h : LnW K b c H v row rooms) (k : ∀ r, Sq K c H r (rooms.map V.int) → t [.str (fT row), .ref r] σ H Q) :
    gTup K 2 t v σ H Q ∨ gLst K 2 t v σ H Q := by
  obtain ⟨a, r, rfl, h1, h2⟩ := h
  cases b with
  | true => exact .inl ⟨a, _, rfl, h1, rfl, k r h2⟩
  | false => exact .inr ⟨a, _, rfl, h1, rfl, k r h2⟩
def spGatesW (K : PySem.W.Frag) : Sp := fun vs H Q _ => ∃ (b c : Bool) (v : V) (row : Bool) (rooms : List Int), vs = [v] ∧ LnW K b c H v row rooms ∧ Q (.int (gts row rooms.length)) H
theorem ok_gatesW {f : Addr} {fd : FuncData} {k : Nat} (F : Fun K "gates" "gates" (topS 9) f fd) (N : Names mg) (gR : ∃ u, mg "ROW" = some u ∧ L2.RelV (.str "row") u) :
    FnOk P w K mg base CX0 (k + 1) f fd ["line"] (spGatesW K) := by
  refine F.ok s_gates (fun vs H Q E h => ?_) (fun cdv A outer s H vs Q E hr h => ?_)
  · obtain ⟨b, c, v, row, rooms, rfl, hL, q⟩ := h
    rfl
  · obtain ⟨b, c, v, row, rooms, rfl, hL, q⟩ := h
    refine ⟨_, pss_cons (ps_asg (pv 0) (pg_or (pg_tup rfl (pgs_cons (pg_name (i := 1) s_gates.nd rfl (.inl rfl)) (pgs_cons (pg_name (i := 2) s_gates.nd rfl (.inl rfl)) pgs_nil))) (pg_lst rfl (pgs_cons (pg_name (i := 1) s_gates.nd rfl (.inl rfl)) (pgs_cons (pg_name (i := 2) s_gates.nd rfl (.inl rfl)) pgs_nil))))) (pss_one (ps_ret (pe_ifExp (pt_cmpR op_eq (pv 1) (pe_con (v := .str "row") (by rfl) gR) (nomark _)) (pe_op op_add (pe_callB call_len_seq (by rfl) N.len PySem.boot_len (pa_cons (pv 2) pa_nil)) pe_int) (pe_callB call_len_seq (by rfl) N.len PySem.boot_len (pa_cons (pv 2) pa_nil))))), ?_⟩
    refine ⟨_, rfl, unpW hL fun r hr' => ?_⟩
    refine ⟨_, _, rfl, _, [], rfl, rfl, ?_⟩
    refine ⟨_, rfl, rfl, _, rfl, ?_⟩
    rw [fT_row]
    have z : (((rooms.map V.int).length : Nat) : Int) = rooms.length := by rw [List.length_map]
    cases row with
    | true =>
      refine iteT ⟨_, rfl, r, _, rfl, hr'.or, _, 1, rfl, rfl, ?_⟩
      rw [z]
      exact q
    | false =>
      refine iteF ⟨_, rfl, r, _, rfl, hr'.or, ?_⟩
      rw [z]
      exact q
/-- a width -/
def widthB : PyData → Bool
  | .none => true
  | d => fromB 0 d
def widthsB (n : Int) : PyData → Bool
  | .tuple ds => decide ((ds.length : Int) = n) && (ds.map widthB).all id
  | _ => false
theorem widthsB_no {n : Int} {d : PyData} (h : tupOf n d = false) : widthsB n d = false := by
  cases d with
  | tuple ds =>
    rw [tupOf] at h
    rw [widthsB, h]
    rfl
  | _ => rfl
def spWidthsD (K : PySem.W.Frag) : Sp := fun vs H Q _ => ∃ (b c : Bool) (v u : V) (row : Bool) (rooms : List Int) (d : PyData), vs = [v, u] ∧ LnW K b c H v row rooms ∧ Dp K H u d ∧ wide d ∧
  ∀ H', Evl.Ex H H' → Q (.bl (widthsB (gts row rooms.length) d)) H'
theorem ok_widthsD {f : Addr} {fd : FuncData} (F : Fun K "is_widths" "is_widths" (topS 10) f fd) (N : Names mg) (D : Df P w K mg base "is_number_from" ["thing", "least"] 2 (spFromD K)) (DT : Df P w K mg base "is_tuple_of" ["thing", "many"] 1 (spTupD K)) (DG : Df P w K mg base "gates" ["line"] 1 (spGatesW K)) :
    FnOk P w K mg base CX0 3 f fd ["line", "thing"] (spWidthsD K) := by
  refine F.ok s_isWidths (fun vs H Q E h => ?_) (fun cdv A outer s H vs Q E hr h => ?_)
  · obtain ⟨b, c, v, u, row, rooms, d, rfl, _⟩ := h
    rfl
  · obtain ⟨b, c, v, u, row, rooms, d, rfl, hL, hu, hz, q⟩ := h
    refine ⟨_, pss_cons (ps_if (pt_not (pt_val (pe_df DT (hr.mono (by decide)) (by rfl) (pa_cons (pv 1) (pa_cons (pe_df DG (hr.mono (by decide)) (by rfl) (pa_cons (pv 0) pa_nil)) pa_nil))))) (pss_one (ps_ret pe_bl)) pss_nil)
      (pss_one (ps_ret (pe_callB (cr_all rfl) (by rfl) N.all bt_all (pa_cons (pe_lc (own := [("width", 2)]) (g := gName 2) (tt := tYes) rfl s_isWidths.nd (pi_tup (pv 1)) (blkOk_by (N := ["line", "thing", "width"]) (sc := defScope (topS 10)) (by decide +kernel)) (fun _ _ _ _ _ => pg_name (i := 2) s_isWidths.nd rfl (.inl rfl)) (fun _ _ _ _ _ => pts_nil) (fun _ _ _ _ _ => L2.pe_or (pe_cmpR op_isN (pv 2) pe_non (nomark _)) (pe_one (pe_df D (hr.mono (by decide)) (by rfl) (pa_cons (pv 2) (pa_cons pe_int pa_nil)))))) pa_nil)))), ?_⟩
    refine ⟨_, rfl, _, rfl, b, c, v, row, rooms, rfl, hL, u, d, _, rfl, hu, _, rfl, ite2 (fun e => ?_) (fun e => ?_)⟩
    · have e1 : tupOf (gts row rooms.length) d = false := by simpa using e
      have q1 := q H (Evl.Ex.refl _)
      rw [widthsB_no e1] at q1
      exact q1
    · have e1 : tupOf (gts row rooms.length) d = true := by simpa using e
      cases hu with
      | int i => cases e1
      | non => cases e1
      | bl b => cases e1
      | str x => cases e1
      | lst _ _ => cases e1
      | tup h g =>
        rename_i a xs ds
        have hz' := hz ds rfl
        have hlen := dpa_len g
        rw [tupOf] at e1
        rw [widthsB, e1, Bool.true_and] at q
        refine ⟨_, rfl, a, rfl, ⟨_, h⟩, fun D' nD => lc_it (walk_tup (xs := xs)) (Bls H D' (ds.map widthB)) ⟨Evl.Ex.new nD, upd_same⟩ (fun i H' _ pe => Evl.ex_t pe.1 h) (fun i x H2 H3 hi pe y => ?_) (fun H' pe => bls_end (by rw [List.length_map, hlen]; exact Nat.le_refl _) pe q)⟩
        obtain ⟨rfl, ex⟩ := y
        obtain ⟨d1, k1, j1⟩ := dpa_at g ex
        have kb : (ds.map widthB)[i]? = some (widthB d1) := by rw [List.getElem?_map, k1]; rfl
        refine ⟨rfl, ?_⟩
        unfold tYes
        dsimp only
        rw [if_pos rfl]
        by_cases en : x = .non
        · subst en
          cases j1
          refine ⟨_, rfl, rfl, _, rfl, ifY (decide_eq_true rfl) ?_⟩
          exact bls_next nD (by omega) kb pe.1 pe.2
        · have ew : widthB d1 = fromB 0 d1 := by
            cases j1 with
            | non => exact absurd rfl en
            | _ => rfl
          refine ⟨_, rfl, rfl, _, rfl, ifN (decide_eq_false en) ?_⟩
          refine ⟨_, rfl, x, d1, 0, rfl, dp_mono pe.1 j1, ?_⟩
          rw [← ew]
          exact bls_next nD (by omega) kb pe.1 pe.2
end
end Kd
/-! zip of two, each a tuple or a list by itself -/
namespace Zq
open PySem PySem.Spec PyProof.Rows L2
open PySem.Sem (wp)
def sqK (t : Bool) (g : Heap) (l : Addr) (xs : Array Value) : Prop := bif t then g.IsTuple l xs else g.IsList l xs
def itK (t : Bool) (g : Heap) (p l : Addr) (i : Nat) : Prop := bif t then g.IsTupleIter p l i else g.IsListIter p l i
theorem sq_ext {t : Bool} {g g' : Heap} {l b : Addr} {xs : Array Value} (x : sqK t g l xs) (e : Heap.ExtBut b g g') (n : l ≠ b) : sqK t g' l xs := by
  cases t
  · exact Heap.IsList.extBut x e n
  · exact Heap.IsTuple.extBut x e n
theorem it_ext {t : Bool} {g g' : Heap} {p l b : Addr} {i : Nat} (x : itK t g p l i) (e : Heap.ExtBut b g g') (n : p ≠ b) : itK t g' p l i := by
  cases t
  · exact Heap.IsListIter.extBut x e n
  · exact Heap.IsTupleIter.extBut x e n
theorem it_at {t : Bool} {g g' : Heap} {p l : Addr} {i : Nat} (x : itK t g p l i) (e : ∀ o, g.get? p = some o → g'.get? p = some o) : itK t g' p l i := by
  cases t
  · exact Heap.IsListIter.at x e
  · exact Heap.IsTupleIter.at x e
theorem it_obj {t : Bool} {g : Heap} {p l : Addr} {i : Nat} (x : itK t g p l i) : ∃ o, g.get? p = some o ∧ o.data = .fields #[.ref l, .int i 0] := by
  cases t
  · exact let ⟨o, e, _, d⟩ := x; ⟨o, e, d⟩
  · exact let ⟨o, e, _, d⟩ := x; ⟨o, e, d⟩
theorem it_lt {t : Bool} {g : Heap} {p l : Addr} {i : Nat} (x : itK t g p l i) : p < g.objs.size := let ⟨_, e, _⟩ := it_obj x; Heap.lt_size e
section
variable {prog : Program} {w : World} {A : Around} {E : Value → Shared → Prop} {s : Shared}
theorem nx_item {t : Bool} {p l : Addr} {i : Nat} {xs : Array Value} {x : Value} {Q : Value → Shared → Prop} (h : itK t s.heap p l i) (hl : sqK t s.heap l xs) (hx : xs[i]? = some x)
    (q : ∀ g, itK t g p l (i + 1) → Heap.SameBut p s.heap g → Q x { s with heap := g }) : wpAny (model prog w) A (Builtin.SmallTypes.nextOf (.ref p)) Q E s := by
  cases t
  · exact wpAny_nextOf_list_item h hl hx q
  · exact RZ.nextOf_tuple_item h hl hx q
theorem nx_end {t : Bool} {p l : Addr} {i : Nat} {xs : Array Value} {Q : Value → Shared → Prop} (hh : A.handled = none) (h : itK t s.heap p l i) (hl : sqK t s.heap l xs) (hx : xs[i]? = none)
    (q : ∀ g e, Heap.ExtBut p s.heap g → (∃ o, g.get? e = some o ∧ o.cls = .type "StopIteration") → E (.ref e) { s with heap := g }) : wpAny (model prog w) A (Builtin.SmallTypes.nextOf (.ref p)) Q E s := by
  cases t
  · exact wpAny_nextOf_list_end hh h hl hx q
  · exact RZ.nextOf_tuple_end hh h hl hx q
/-- all but four stay -/
def Stay (g g' : Heap) (z T p1 p2 : Addr) : Prop := ∀ c o, c ≠ z → c ≠ T → c ≠ p1 → c ≠ p2 → g.get? c = some o → g'.get? c = some o
theorem zq_item {t u : Bool} {z S T p1 p2 l1 l2 : Addr} {i j : Nat} {xs ys : Array Value} {x y a b : Value} {Q : Value → Shared → Prop} (D : ZipApart z S T p1 p2 l1 l2)
    (z0 : IsZip s.heap z S T .none) (S0 : IsPair s.heap S (.ref p1) (.ref p2)) (T0 : IsPair s.heap T a b) (f1 : itK t s.heap p1 l1 i) (f2 : itK u s.heap p2 l2 j)
    (m1 : sqK t s.heap l1 xs) (m2 : sqK u s.heap l2 ys) (hx : xs[i]? = some x) (hy : ys[j]? = some y)
    (q : ∀ g, IsZip g z S T (rawInt s.heap.objs.size) → IsPair g T x y → itK t g p1 l1 (i + 1) → itK u g p2 l2 (j + 1) → IsPair g s.heap.objs.size x y → g.objs.size = s.heap.objs.size + 1 → Stay s.heap g z T p1 p2 →
      Q (.ref s.heap.objs.size) { s with heap := g }) : wpAny (model prog w) A (Builtin.«zip.__next__» ⟨[.ref z], []⟩) (fun r s' => ∃ v, r = .done (.ret v) ∧ Q v s') E s := by
  show wpAny _ _ (field (.ref z) 2 >>= fun _ => _) _ _ _
  refine wpAny_bind (wpAny_field z0 rfl (x := .bool false) rfl ?_)
  show wpAny _ _ (field (.ref z) 3 >>= fun _ => _) _ _ _
  refine wpAny_bind (wpAny_field z0 rfl (x := .ref S) rfl (wpAny_bind (wpAny_seqItems S0 rfl ?_)))
  show wpAny _ _ (Builtin.SmallTypes.ownedTupleIsFree (.ref z) >>= fun _ => _) _ _ _
  refine wpAny_bind ?_
  unfold Builtin.SmallTypes.ownedTupleIsFree; refine wpAny_bind (wpAny_field z0 rfl (x := .none) rfl (wpAny_pure ?_))
  simp only [if_true]
  refine wpAny_bind (wpAny_rule (wpAny_bind (wpAny_field z0 rfl (x := .ref T) rfl (wpAny_bind (wpAny_setField_rec z0 (by simp) fun g1 z1 k1 => ?_)))))
  replace z1 : IsZip g1 z S T .ellipsis := z1
  refine wpAny_bind ?_
  simp only [List.zipIdx_nil, List.zipIdx_cons, List.forIn_nil, List.forIn_cons]; refine wpAny_bind (wpAny_bind (wpAny_onRaise ?_))
  show wpAny _ _ (Builtin.SmallTypes.nextOf (.ref p1) >>= fun _ => _) _ _ _
  refine wpAny_bind (nx_item (it_ext f1 k1.extBut D.i1z) (sq_ext m1 k1.extBut D.l1z) hx fun g2 f1b k2 => wpAny_pure ?_)
  have T2 : IsPair g2 T a b := k2.extBut _ _ D.TOi1 (k1.extBut _ _ D.TOz T0)
  refine wpAny_bind (wpAny_seqItems T2 rfl (wpAny_bind (wpAny_updateSeq_pair T2 fun g3 T3 k3 => ?_)))
  replace T3 : IsPair g3 T x b := T3
  refine wpAny_bind (wpAny_letGo (wpAny_pure (wpAny_bind (wpAny_bind (wpAny_onRaise ?_)))))
  show wpAny _ _ (Builtin.SmallTypes.nextOf (.ref p2) >>= fun _ => _) _ _ _
  have f2c := it_ext (it_ext (it_ext f2 k1.extBut D.i2z) k2.extBut D.i12.symm) k3.extBut D.TOi2.symm
  have m2c := sq_ext (sq_ext (sq_ext m2 k1.extBut D.l2z) k2.extBut D.l2i1) k3.extBut D.l2TO
  refine wpAny_bind (nx_item f2c m2c hy fun g4 f2d k4 => wpAny_pure ?_)
  have T4 : IsPair g4 T x b := k4.extBut _ _ D.TOi2 T3
  refine wpAny_bind (wpAny_seqItems T4 rfl (wpAny_bind (wpAny_updateSeq_pair T4 fun g5 T5 k5 => ?_)))
  replace T5 : IsPair g5 T x y := T5
  refine wpAny_bind (wpAny_letGo (wpAny_pure (wpAny_pure (wpAny_bind (wpAny_seqItems T5 rfl (wpAny_bind (wpAny_newTuple ?_)))))))
  have n5 : g5.objs.size = s.heap.objs.size := by rw [k5.1, k4.1, k3.1, k2.1, k1.1]
  have z5 : IsZip g5 z S T .ellipsis := k5.extBut _ _ D.TOz.symm (k4.extBut _ _ D.i2z.symm (k3.extBut _ _ D.TOz.symm (k2.extBut _ _ D.i1z.symm z1)))
  have st5 : Stay s.heap g5 z T p1 p2 := fun c o c1 c2 c3 c4 e => k5.extBut _ _ c2 (k4.extBut _ _ c4 (k3.extBut _ _ c2 (k2.extBut _ _ c3 (k1.extBut _ _ c1 e))))
  have f15 : itK t g5 p1 l1 (i + 1) := it_ext (it_ext (it_ext f1b k3.extBut D.TOi1.symm) k4.extBut D.i12) k5.extBut D.TOi1.symm
  have f25 : itK u g5 p2 l2 (j + 1) := it_ext f2d k5.extBut D.TOi2.symm
  have ltz : z < g5.objs.size := Heap.lt_size z5
  show wpAny _ _ (Builtin.SmallTypes.ownedTupleHandOut (.ref z) (.ref g5.objs.size) >>= fun _ => _) _ _ _
  refine wpAny_bind ?_
  unfold Builtin.SmallTypes.ownedTupleHandOut; have z6 : IsZip (g5.push { cls := .type "tuple", data := .seq #[x, y] }) z S T .ellipsis := Heap.get?_push_of_some _ z5
  refine wpAny_bind (wpAny_setField_rec z6 (by simp) fun g7 z7 k7 => ?_)
  replace z7 : IsZip g7 z S T (rawInt g5.objs.size) := z7
  refine wpAny_setField_rec z7 (by simp) fun g8 z8 k8 => ?_
  replace z8 : IsZip g8 z S T (rawInt g5.objs.size) := z8
  have on : ∀ c o, c ≠ z → g5.get? c = some o → g8.get? c = some o := fun c o c1 e => k8.extBut _ _ c1 (k7.extBut _ _ c1 (Heap.get?_push_of_some _ e))
  have W8 : IsPair g8 g5.objs.size x y := k8.extBut _ _ (Nat.ne_of_gt ltz) (k7.extBut _ _ (Nat.ne_of_gt ltz) (Heap.get?_push_size _ rfl))
  have n8 : g8.objs.size = g5.objs.size + 1 := by rw [k8.1, k7.1, Heap.size_push]
  rw [n5] at z8 W8 n8
  refine wpAny_pure ⟨.ref g5.objs.size, rfl, ?_⟩
  rw [n5]
  exact q g8 z8 (on _ _ D.TOz T5) (it_at f15 fun o e => on _ o D.i1z e) (it_at f25 fun o e => on _ o D.i2z e) W8 n8 fun c o c1 c2 c3 c4 e => on c o c1 (st5 c o c1 c2 c3 c4 e)
theorem zq_end {t u : Bool} {z S T p1 p2 l1 l2 : Addr} {i j : Nat} {xs ys : Array Value} {a b : Value} {Q : Fin → Shared → Prop} (hh : A.handled = none) (D : ZipApart z S T p1 p2 l1 l2)
    (z0 : IsZip s.heap z S T .none) (S0 : IsPair s.heap S (.ref p1) (.ref p2)) (T0 : IsPair s.heap T a b) (f1 : itK t s.heap p1 l1 i) (f2 : itK u s.heap p2 l2 j)
    (m1 : sqK t s.heap l1 xs) (m2 : sqK u s.heap l2 ys) (he : xs[i]? = none ∨ ys[j]? = none)
    (q : ∀ g e, Stay s.heap g z T p1 p2 → (∃ o, g.get? e = some o ∧ o.cls = .type "StopIteration") → E (.ref e) { s with heap := g }) : wpAny (model prog w) A (Builtin.«zip.__next__» ⟨[.ref z], []⟩) Q E s := by
  show wpAny _ _ (field (.ref z) 2 >>= fun _ => _) _ _ _
  refine wpAny_bind (wpAny_field z0 rfl (x := .bool false) rfl ?_)
  show wpAny _ _ (field (.ref z) 3 >>= fun _ => _) _ _ _
  refine wpAny_bind (wpAny_field z0 rfl (x := .ref S) rfl (wpAny_bind (wpAny_seqItems S0 rfl ?_)))
  show wpAny _ _ (Builtin.SmallTypes.ownedTupleIsFree (.ref z) >>= fun _ => _) _ _ _
  refine wpAny_bind ?_
  unfold Builtin.SmallTypes.ownedTupleIsFree; refine wpAny_bind (wpAny_field z0 rfl (x := .none) rfl (wpAny_pure ?_))
  simp only [if_true]
  refine wpAny_bind (wpAny_rule (wpAny_bind (wpAny_field z0 rfl (x := .ref T) rfl (wpAny_bind (wpAny_setField_rec z0 (by simp) fun g1 z1 k1 => ?_)))))
  replace z1 : IsZip g1 z S T .ellipsis := z1
  refine wpAny_bind ?_
  simp only [List.zipIdx_nil, List.zipIdx_cons, List.forIn_nil, List.forIn_cons]; refine wpAny_bind (wpAny_bind (wpAny_onRaise ?_))
  show wpAny _ _ (Builtin.SmallTypes.nextOf (.ref p1) >>= fun _ => _) _ _ _
  have f1a := it_ext f1 k1.extBut D.i1z
  have m1a := sq_ext m1 k1.extBut D.l1z
  cases hx : xs[i]? with
  | none =>
    refine wpAny_bind (nx_end hh f1a m1a hx fun g2 e k2 ⟨o, eo, ec⟩ => ?_)
    have z2 : IsZip g2 z S T .ellipsis := k2 _ _ D.i1z.symm z1
    have ne : e ≠ z := fun c => by rw [c, z2] at eo; cases eo; simp at ec
    exact wpAny_setField_rec z2 (by simp) fun g3 _ k3 => q g3 e (fun c o c1 _ c3 _ v => k3.extBut _ _ c1 (k2 _ _ c3 (k1.extBut _ _ c1 v))) ⟨o, k3.extBut _ _ ne eo, ec⟩
  | some x =>
    have hy : ys[j]? = none := he.resolve_left (by rw [hx]; simp)
    refine wpAny_bind (nx_item f1a m1a hx fun g2 f1b k2 => wpAny_pure ?_)
    have T2 : IsPair g2 T a b := k2.extBut _ _ D.TOi1 (k1.extBut _ _ D.TOz T0)
    refine wpAny_bind (wpAny_seqItems T2 rfl (wpAny_bind (wpAny_updateSeq_pair T2 fun g3 T3 k3 => ?_)))
    refine wpAny_bind (wpAny_letGo (wpAny_pure (wpAny_bind (wpAny_bind (wpAny_onRaise ?_)))))
    show wpAny _ _ (Builtin.SmallTypes.nextOf (.ref p2) >>= fun _ => _) _ _ _
    have f2c := it_ext (it_ext (it_ext f2 k1.extBut D.i2z) k2.extBut D.i12.symm) k3.extBut D.TOi2.symm
    have m2c := sq_ext (sq_ext (sq_ext m2 k1.extBut D.l2z) k2.extBut D.l2i1) k3.extBut D.l2TO
    refine wpAny_bind (nx_end hh f2c m2c hy fun g4 e k4 ⟨o, eo, ec⟩ => ?_)
    have z4 : IsZip g4 z S T .ellipsis := k4 _ _ D.i2z.symm (k3.extBut _ _ D.TOz.symm (k2.extBut _ _ D.i1z.symm z1))
    have ne : e ≠ z := fun c => by rw [c, z4] at eo; cases eo; simp at ec
    exact wpAny_setField_rec z4 (by simp) fun g5 _ k5 => q g5 e (fun c o c1 c2 c3 c4 v => k5.extBut _ _ c1 (k4 _ _ c4 (k3.extBut _ _ c2 (k2.extBut _ _ c3 (k1.extBut _ _ c1 v))))) ⟨o, k5.extBut _ _ ne eo, ec⟩
end
end Zq
namespace Zq
open PySem PySem.Spec PyProof.Rows L2
open PySem.Sem (wp)
section
variable {prog : Program} {w : World} {A : Around} {E : Value → Shared → Prop} {s : Shared}
theorem pyn_item {t u : Bool} {z S T p1 p2 l1 l2 : Addr} {i j : Nat} {xs ys : Array Value} {x y a b : Value} {Q : Option Value → Shared → Prop} (D : ZipApart z S T p1 p2 l1 l2)
    (z0 : IsZip s.heap z S T .none) (S0 : IsPair s.heap S (.ref p1) (.ref p2)) (T0 : IsPair s.heap T a b) (f1 : itK t s.heap p1 l1 i) (f2 : itK u s.heap p2 l2 j)
    (m1 : sqK t s.heap l1 xs) (m2 : sqK u s.heap l2 ys) (hx : xs[i]? = some x) (hy : ys[j]? = some y)
    (q : ∀ g, IsZip g z S T (rawInt s.heap.objs.size) → IsPair g T x y → itK t g p1 l1 (i + 1) → itK u g p2 l2 (j + 1) → IsPair g s.heap.objs.size x y → g.objs.size = s.heap.objs.size + 1 → Stay s.heap g z T p1 p2 →
      Q (some (.ref s.heap.objs.size)) { s with heap := g }) : wpAny (model prog w) A (pyNext (.ref z)) Q E s := by
  have ty : s.TypeIs (.ref z) "zip" := ⟨_, z0, rfl⟩
  unfold pyNext
  refine wpAny_bind (wpAny_attempt (wpAny_callSpecial?_slot (name := Str.ofString "__next__") ty F.slot_zip_next (wpAny_call_entry F.slot_zip_next ty F.entry_zip_next (zq_item D z0 S0 T0 f1 f2 m1 m2 hx hy fun g a1 a2 a3 a4 a5 a6 a7 => wpAny_pure (q g a1 a2 a3 a4 a5 a6 a7)) (F.args_zip_next_1 _))))
theorem pyn_end {t u : Bool} {z S T p1 p2 l1 l2 : Addr} {i j : Nat} {xs ys : Array Value} {a b : Value} {Q : Option Value → Shared → Prop} (hh : A.handled = none) (D : ZipApart z S T p1 p2 l1 l2)
    (z0 : IsZip s.heap z S T .none) (S0 : IsPair s.heap S (.ref p1) (.ref p2)) (T0 : IsPair s.heap T a b) (f1 : itK t s.heap p1 l1 i) (f2 : itK u s.heap p2 l2 j)
    (m1 : sqK t s.heap l1 xs) (m2 : sqK u s.heap l2 ys) (he : xs[i]? = none ∨ ys[j]? = none) (q : ∀ g, Stay s.heap g z T p1 p2 → Q none { s with heap := g }) : wpAny (model prog w) A (pyNext (.ref z)) Q E s := by
  have ty : s.TypeIs (.ref z) "zip" := ⟨_, z0, rfl⟩
  unfold pyNext
  refine wpAny_bind (wpAny_attempt (wpAny_callSpecial?_slot (name := Str.ofString "__next__") ty F.slot_zip_next (wpAny_call_entry F.slot_zip_next ty F.entry_zip_next (zq_end hh D z0 S0 T0 f1 f2 m1 m2 he fun g e st ⟨o, eo, ec⟩ => ?_) (F.args_zip_next_1 _))))
  exact wpAny_bind (wpAny_isInstance (T := "StopIteration") (b := true) ⟨o, eo, ec⟩ isSubtype_stop (wpAny_pure (q _ st)))
/-- zip's five new ones, of a tuple and a list -/
abbrev e1 (g : Heap) (l1 : Addr) : Heap := g.push { cls := .type "tuple_iterator", data := .fields #[.ref l1, .int 0 0] }
abbrev e2 (g : Heap) (l1 l2 : Addr) : Heap := (e1 g l1).push { cls := .type "list_iterator", data := .fields #[.ref l2, .int 0 0] }
abbrev e3 (g : Heap) (l1 l2 : Addr) : Heap := (e2 g l1 l2).push { cls := .type "tuple", data := .seq #[.ref g.objs.size, .ref (e1 g l1).objs.size] }
abbrev e4 (g : Heap) (l1 l2 : Addr) : Heap := (e3 g l1 l2).push { cls := .type "tuple", data := .seq #[.none, .none] }
abbrev e5 (g : Heap) (l1 l2 : Addr) : Heap := (e4 g l1 l2).push { cls := .type "zip", data := .fields #[.none, .bool false, .bool false, .ref (e2 g l1 l2).objs.size, .ref (e3 g l1 l2).objs.size] }
theorem made (l1 l2 : Addr) (xs ys : Array Value) : Meets (Builtin.«zip.__new__» ⟨[.type "zip", .ref l1, .ref l2], []⟩) (fun _ R s => s.heap.IsTuple l1 xs ∧ s.heap.IsList l2 ys ∧ R (.ok (.ret (.ref (e4 s.heap l1 l2).objs.size))) { s with heap := e5 s.heap l1 l2 }) :=
  .of_wp fun prog w A R s h => by
    obtain ⟨g, a, d, k, o⟩ := s; obtain ⟨m1, m2, r⟩ := h
    have sub := sub_zip
    have M1 : Heap.IsTuple (Shared.heap ⟨g, a, d, k, o⟩) l1 xs := m1
    have M2 : Heap.IsList (Shared.heap ⟨e1 g l1, a, d, k, o⟩) l2 ys := Heap.IsList.push m2 _
    wp_walk using wpAny_pyIter_tuple M1, wpAny_pyIter_list M2
    exact ⟨_, rfl, r⟩
theorem call_zq {l1 l2 : Addr} {xs ys : Array Value} {Q : Value → Shared → Prop} (m1 : s.heap.IsTuple l1 xs) (m2 : s.heap.IsList l2 ys)
    (q : ∀ g, IsZip g (s.heap.objs.size + 4) (s.heap.objs.size + 2) (s.heap.objs.size + 3) .none → IsPair g (s.heap.objs.size + 2) (.ref s.heap.objs.size) (.ref (s.heap.objs.size + 1)) → IsPair g (s.heap.objs.size + 3) .none .none →
      itK true g s.heap.objs.size l1 0 → itK false g (s.heap.objs.size + 1) l2 0 → (∀ c o, s.heap.get? c = some o → g.get? c = some o) → Q (.ref (s.heap.objs.size + 4)) { s with heap := g }) :
    wpAny (model prog w) A (call (.type "zip") [.ref l1, .ref l2]) Q E s := by
  refine callType_new F.called_zip (by decide) (F.typeCall_zip_2 _ _) (F.newCall_zip_2 _ _) (fun obj => F.args_object_init_3 obj _ _) F.entry_zip_new (made l1 l2 xs ys) ⟨m1, m2, ?_⟩
  have n1 : (e1 s.heap l1).objs.size = s.heap.objs.size + 1 := Heap.size_push ..
  have n2 : (e2 s.heap l1 l2).objs.size = s.heap.objs.size + 2 := (Heap.size_push ..).trans (congrArg (· + 1) n1)
  have n3 : (e3 s.heap l1 l2).objs.size = s.heap.objs.size + 3 := (Heap.size_push ..).trans (congrArg (· + 1) n2)
  have n4 : (e4 s.heap l1 l2).objs.size = s.heap.objs.size + 4 := (Heap.size_push ..).trans (congrArg (· + 1) n3)
  have k1 : ∀ {c : Addr} {o : Obj}, (e1 s.heap l1).get? c = some o → (e5 s.heap l1 l2).get? c = some o := fun e => Heap.get?_push_of_some _ (Heap.get?_push_of_some _ (Heap.get?_push_of_some _ (Heap.get?_push_of_some _ e)))
  have k2 : ∀ {c : Addr} {o : Obj}, (e2 s.heap l1 l2).get? c = some o → (e5 s.heap l1 l2).get? c = some o := fun e => Heap.get?_push_of_some _ (Heap.get?_push_of_some _ (Heap.get?_push_of_some _ e))
  have g5 : (e5 s.heap l1 l2).get? (e4 s.heap l1 l2).objs.size = some _ := Heap.get?_push_size _ rfl
  have g4 : (e5 s.heap l1 l2).get? (e3 s.heap l1 l2).objs.size = some _ := Heap.get?_push_of_some _ (Heap.get?_push_size _ rfl)
  have g3 : (e5 s.heap l1 l2).get? (e2 s.heap l1 l2).objs.size = some _ := Heap.get?_push_of_some _ (Heap.get?_push_of_some _ (Heap.get?_push_size _ rfl))
  have g2 : (e5 s.heap l1 l2).get? (e1 s.heap l1).objs.size = some _ := k2 (Heap.get?_push_size _ rfl)
  have g1 : (e5 s.heap l1 l2).get? s.heap.objs.size = some _ := k1 (Heap.get?_push_size _ rfl)
  show _ ∧ _
  rw [n2, n3, n4] at g5
  rw [n3] at g4
  rw [n1, n2] at g3
  rw [n1] at g2
  rw [n4]
  exact ⟨⟨_, g5, rfl⟩, q _ g5 g3 g4 ⟨_, g1, rfl, rfl⟩ ⟨_, g2, rfl, rfl⟩ fun c o e => k1 (Heap.get?_push_of_some _ e)⟩
end
end Zq
namespace Zq
open PySem PySem.Spec PyProof.Rows L2
/-- a tuple at a, a list at b, pair by pair -/
def ItM (K : PySem.W.Frag) (a b : Addr) : It where
  go i H := ∃ (xs ys : List V) (x y : V), (SqT K H a xs ∧ xs[i]? = some x) ∧ (SqL K H b ys ∧ ys[i]? = some y)
  yld i H v H' := ∃ W x y, v = .ref W ∧ H W = none ∧ H' = upd H W (.tup [x, y]) ∧ (∀ l, SqT K H a l → l[i]? = some x) ∧ (∀ l, SqL K H b l → l[i]? = some y)
  stop i H := ∃ xs ys : List V, SqT K H a xs ∧ SqL K H b ys ∧ min xs.length ys.length ≤ i
def tnM (z S T p1 p2 a b : Addr) (i : Nat) (g : Heap) : Prop := IsZip g z S T .none ∧ IsPair g S (.ref p1) (.ref p2) ∧ (∃ x y, IsPair g T x y) ∧ itK true g p1 a i ∧ itK false g p2 b i
theorem five {z S T p1 p2 c : Addr} {M : Prop} (h : c ∈ [z, S, T, p1, p2]) (m1 : c = z → M) (m2 : c = S → M) (m3 : c = T → M) (m4 : c = p1 → M) (m5 : c = p2 → M) : M := by
  simp only [List.mem_cons, List.not_mem_nil, or_false] at h
  exact h.elim m1 fun h => h.elim m2 fun h => h.elim m3 fun h => h.elim m4 m5
theorem tnM_obj {z S T p1 p2 a b : Addr} {i : Nat} {g : Heap} (st : tnM z S T p1 p2 a b i g) {c : Addr} (hc : c ∈ [z, S, T, p1, p2]) : ∃ o, g.get? c = some o ∧ ∀ v, o.data ≠ .cell v := by
  obtain ⟨z0, S0, ⟨x, y, T0⟩, f1, f2⟩ := st
  obtain ⟨o1, g1, d1⟩ := it_obj f1
  obtain ⟨o2, g2, d2⟩ := it_obj f2
  refine five hc (fun e => ?_) (fun e => ?_) (fun e => ?_) (fun e => ?_) (fun e => ?_) <;> rw [e]
  · exact ⟨_, z0, fun _ k => nomatch k⟩
  · exact ⟨_, S0, fun _ k => nomatch k⟩
  · exact ⟨_, T0, fun _ k => nomatch k⟩
  · exact ⟨o1, g1, fun _ k => by cases d1.symm.trans k⟩
  · exact ⟨o2, g2, fun _ k => by cases d2.symm.trans k⟩
theorem turn_M {P : Program} {w : World} {K : PySem.W.Frag} {es : List Expr} {kk : Nat} {tp : Pos} {a b z S T p1 p2 : Addr} (D : ZipApart z S T p1 p2 a b) :
    Turn P w K (.Tuple es kk tp) (ItM K a b) [z, S, T, p1, p2] z (tnM z S T p1 p2 a b) where
  mem := List.mem_cons_self
  obj := fun i g st c hc => tnM_obj st hc
  keep := fun i g g' ⟨z0, S0, ⟨x, y, T0⟩, f1, f2⟩ k => ⟨k z (by simp) _ z0, k S (by simp) _ S0, ⟨x, y, k T (by simp) _ T0⟩, it_at f1 (k p1 (by simp)), it_at f2 (k p2 (by simp))⟩
  item := by
    rintro X rfl rfl rfl hc i pins s σ H E I hf st ⟨xs, ys, x, y, ⟨qx, ex⟩, qy, ey⟩
    have lts : ∀ c ∈ [z, S, T, p1, p2], c < s.heap.objs.size := fun c hm => let ⟨_, e, _⟩ := tnM_obj st hm; Heap.lt_size e
    obtain ⟨z0, S0, ⟨x0, y0, T0⟩, f1, f2⟩ := st
    obtain ⟨us, r1, m1, _⟩ := I.tuple qx
    obtain ⟨vs, r2, m2, _⟩ := I.list qy
    obtain ⟨u, eu, ru⟩ := r1.get ex
    obtain ⟨v, ev, rv⟩ := r2.get ey
    refine pyn_item (t := true) (u := false) D z0 S0 T0 f1 f2 m1 m2.isList (x := u) (y := v) (by simpa using eu) (by simpa using ev) fun g z1 T1 f1' f2' W1 n1 st => ⟨_, rfl, ?_⟩
    refine wpAny_letOwnedTupleGo_zip (s := { s with heap := g }) z1 fun g' z2 sb => ?_
    have out : ∀ c o, c ∉ [z, S, T, p1, p2] → s.heap.get? c = some o → g'.get? c = some o := fun c o hb e => by
      have h5 : c ≠ z ∧ c ≠ T ∧ c ≠ p1 ∧ c ≠ p2 := by
        simp only [List.mem_cons, List.not_mem_nil, or_false, not_or] at hb
        exact ⟨hb.1, hb.2.2.1, hb.2.2.2.1, hb.2.2.2.2⟩
      exact (sb.2 c h5.1).trans (st c o h5.1 h5.2.1 h5.2.2.1 h5.2.2.2 e)
    have W2 : g'.get? s.heap.objs.size = some { cls := .type "tuple", data := .seq #[u, v] } := (sb.2 _ (Nat.ne_of_gt (lts z List.mem_cons_self))).trans W1
    have okW : ObjOk X.prog X.w (upd H s.heap.objs.size (.tup [x, y])) g' s.heap.objs.size (.tup [x, y]) := ⟨(by decide : 2 ≤ sizeLine), [u, v], .cons ru (.cons rv .nil), ⟨_, W2, rfl, _, rfl⟩⟩
    have I' : Inv X pins σ (upd H s.heap.objs.size (.tup [x, y])) { s with heap := g' } := I.turnedNew (t' := s.toks) (ch := [z, S, T, p1, p2]) out hf (Nat.le_refl _) okW
    refine ⟨.ref s.heap.objs.size, _, I', rfl, ⟨_, x, y, rfl, I.hok.fresh (Nat.le_refl _), rfl, fun l hl => I.tuple_inj hl qx ▸ ex, fun l hl => I.list_inj hl qy ▸ ey⟩, ⟨z2, ?_, ⟨u, v, ?_⟩, it_at f1' fun o e => (sb.2 _ D.i1z).trans e, it_at f2' fun o e => (sb.2 _ D.i2z).trans e⟩, fun c hm => ?_⟩
    · exact (sb.2 _ D.TIz).trans (st _ _ D.TIz D.TITO D.TIi1 D.TIi2 S0)
    · exact (sb.2 _ D.TOz).trans T1
    · exact (upd_ne (Nat.ne_of_lt (lts c hm))).trans (hf c hm).1
  done := by
    rintro X rfl rfl rfl hc i pins s σ H E I hf ⟨z0, S0, ⟨x0, y0, T0⟩, f1, f2⟩ ⟨xs, ys, qx, qy, he⟩
    obtain ⟨us, r1, m1, _⟩ := I.tuple qx
    obtain ⟨vs, r2, m2, _⟩ := I.list qy
    have n1 := r1.length
    have n2 := r2.length
    have no : us.toArray[i]? = none ∨ vs.toArray[i]? = none := by
      simp only [List.getElem?_toArray, List.getElem?_eq_none_iff]
      omega
    refine pyn_end (t := true) (u := false) (I.ok.hd hc) D z0 S0 T0 f1 f2 m1 m2.isList no fun g st => ⟨rfl, I.turnedL (t' := s.toks) (ch := [z, S, T, p1, p2]) (fun c o hb e => ?_) hf⟩
    simp only [List.mem_cons, List.not_mem_nil, or_false, not_or] at hb
    exact st c o hb.1 hb.2.2.1 hb.2.2.2.1 hb.2.2.2.2 e
  self := fun A i s Q E st q => wpAny_pyIter_zip st.1 q
def iZipM (K : PySem.W.Frag) (ta : TA) : TI := fun σ H R => ta σ H fun vs H1 => ∃ a b xs ys, vs = [.ref a, .ref b] ∧ SqT K H1 a xs ∧ SqL K H1 b ys ∧ R (ItM K a b) H1
theorem pi_zipM {X : Cx} {e e' : Expr} {ta : TA} {p pos tp : Pos} {es : List Expr} {kk : Nat} (hg : Gl X "zip") (hm : X.mg "zip" = none) (ha : PA X [e, e'] ta)
    (hs : starEach [e, e'] X.env = (false, eval e X.env) :: starEach [e'] X.env := by rfl) (hp : (backTo pos (starEach [e'] X.env)).any (·.1) = false := by rfl) : PI X (.Tuple es kk tp) (.Call (.Name "zip" p) [e, e'] [] pos) (iZipM X.K ta) := by
  refine ⟨fun pins s σ H R I h => Call_ (ld_blt I hg hm PyProof.Rows.boot_zip (PyProof.Rows.callWith_type1 (thn (ha.run pos pins s σ H _ I h) fun us s1 ⟨vs, H1, I1, r1, a, b, xs, ys, ex, qx, qy, q⟩ => ?_) hs hp))⟩
  subst ex
  cases r1 with
  | cons ra rr =>
  cases rr with
  | cons rb rr =>
  cases rr
  cases ra
  cases rb
  obtain ⟨is, _, m1, _⟩ := I1.tuple qx
  obtain ⟨js, _, m2, _⟩ := I1.list qy
  have la : a < s1.heap.objs.size := let ⟨_, e, _⟩ := id m1; Heap.lt_size e
  refine call_zq (show s1.heap.IsTuple a is.toArray from m1) m2.isList fun g z0 S0 T0 f1 f2 k => wpAny_pyIter_zip z0 ?_
  refine ⟨s1.heap.objs.size + 4, _, _, _, H1, rfl, I1.kept (t' := s1.toks) k, turn_M (PySem.W.ktu_apart s1.heap.objs.size a b la m2.lt), ⟨z0, S0, ⟨_, _, T0⟩, f1, f2⟩, fun c hm => ?_, q⟩
  have le : s1.heap.objs.size ≤ c := five hm (fun e => by rw [e]; exact Nat.le_add_right _ 4) (fun e => by rw [e]; exact Nat.le_add_right _ 2) (fun e => by rw [e]; exact Nat.le_add_right _ 3) (fun e => by rw [e]; exact Nat.le_refl _) (fun e => by rw [e]; exact Nat.le_add_right _ 1)
  exact I1.fpOk le (I1.hok.fresh le)
theorem pi_or {X : Cx} {tg e : Expr} {t u : TI} (a : PI X tg e t) (b : PI X tg e u) : PI X tg e (fun σ H R => t σ H R ∨ u σ H R) := ⟨fun pins s σ H R I h => h.elim (a.run pins s σ H R I) (b.run pins s σ H R I)⟩
theorem walk_zipM {K : PySem.W.Frag} {a b : Addr} {xs ys : List V} {n : Nat} (hn : n = min xs.length ys.length) : Walk (ItM K a b) n (fun H => SqT K H a xs ∧ SqL K H b ys) (YPair (fun i => xs[i]?) (fun i => ys[i]?)) := by
  subst hn
  refine ⟨fun i _ hi q => ?_, fun _ q => ⟨xs, ys, q.1, q.2, Nat.le_refl _⟩, fun i H v H' _ q ⟨W, x, y, g1, g2, g3, g4, g5⟩ => ⟨W, x, y, g1, g2, g3, g4 xs q.1, g5 ys q.2⟩⟩
  exact ⟨xs, ys, xs[i]'(by omega), ys[i]'(by omega), ⟨q.1, List.getElem?_eq_getElem _⟩, q.2, List.getElem?_eq_getElem _⟩
end Zq
namespace Kd
open PySem PySem.Spec PyProof.Rows L2 Xg
def heldB : PyData → Int → Bool
  | .int i, r => decide (0 ≤ i) && decide (i ≤ r)
  | _, _ => false
def standB (rooms : List Int) : PyData → Bool
  | .tuple ds => decide ((ds.length : Int) = (rooms.length : Int)) && (List.zipWith heldB ds rooms).all id
  | _ => false
theorem standB_no {rooms : List Int} {d : PyData} (h : tupOf (rooms.length : Int) d = false) : standB rooms d = false := by
  cases d with
  | tuple ds =>
    rw [tupOf] at h
    rw [standB, h]
    rfl
  | _ => rfl
section
variable {P : Program} {w : World} {K : PySem.W.Frag} {mg : Str → Option Value} {base : Heap}
def spStandD (K : PySem.W.Frag) : Sp := fun vs H Q _ => ∃ (c : Bool) (v u : V) (row : Bool) (rooms : List Int) (d : PyData), vs = [v, u] ∧ LnW K true c H v row rooms ∧ Dp K H u d ∧ wide d ∧
  ∀ H', Evl.Ex H H' → Q (.bl (standB rooms d)) H'
theorem held_yes {H0 : Hp} {d1 : PyData} {x1 : V} (j : Dp K H0 x1 d1) (t : fromB 0 d1 = true) : ∃ z1 : Int, x1 = .int z1 ∧ ∀ z2, heldB d1 z2 = decide (z1 ≤ z2) := by
  cases j with
  | int z1 =>
    refine ⟨z1, rfl, fun z2 => ?_⟩
    have t1 : decide (0 ≤ z1) = true := t
    rw [heldB, t1, Bool.true_and]
  | non => cases t
  | bl b => cases t
  | str x => cases t
  | lst _ _ => cases t
  | tup _ _ => cases t
theorem held_no {d1 : PyData} {z2 : Int} (t : fromB 0 d1 = false) : heldB d1 z2 = false := by
  cases d1 with
  | int z1 =>
    have t1 : decide (0 ≤ z1) = false := t
    rw [heldB, t1]
    rfl
  | _ => rfl
theorem ok_standD {f : Addr} {fd : FuncData} (F : Fun K "is_standing" "is_standing" (topS 11) f fd) (N : Names mg) (D : Df P w K mg base "is_number_from" ["thing", "least"] 2 (spFromD K)) (DT : Df P w K mg base "is_tuple_of" ["thing", "many"] 1 (spTupD K)) :
    FnOk P w K mg base CX0 3 f fd ["line", "thing"] (spStandD K) := by
  refine F.ok s_isStanding (fun vs H Q E h => ?_) (fun cdv A outer s H vs Q E hr h => ?_)
  · obtain ⟨c, v, u, row, rooms, d, rfl, _⟩ := h
    rfl
  · obtain ⟨c, v, u, row, rooms, d, rfl, ⟨a0, r, rfl, h1, h2⟩, hu, hz, q⟩ := h
    refine ⟨_, pss_cons (ps_asg (pv 0) (pg_tup rfl (pgs_cons (pg_name (i := 2) s_isStanding.nd rfl (.inl rfl)) (pgs_cons (pg_name (i := 3) s_isStanding.nd rfl (.inl rfl)) pgs_nil))))
      (pss_cons (ps_if (pt_not (pt_val (pe_df DT (hr.mono (by decide)) (by rfl) (pa_cons (pv 1) (pa_cons (pe_callB call_len_seq (by rfl) N.len PySem.boot_len (pa_cons (pv 3) pa_nil)) pa_nil))))) (pss_one (ps_ret pe_bl)) pss_nil)
      (pss_one (ps_ret (pe_callB (cr_all rfl) (by rfl) N.all bt_all (pa_cons (pe_lc (own := [("held", 4), ("room", 5)]) (g := gTup K 2 (gCons (gName 4) (gCons (gName 5) gNil))) (tt := tYes) rfl s_isStanding.nd (Zq.pi_or (RZ.pi_zipA (by rfl) N.zip (pa_cons (pv 1) (pa_cons (pv 3) pa_nil))) (Zq.pi_zipM (by rfl) N.zip (pa_cons (pv 1) (pa_cons (pv 3) pa_nil)))) (blkOk_by (N := ["line", "thing", "form", "rooms", "held", "room"]) (sc := defScope (topS 11)) (by decide +kernel)) (fun _ _ _ _ _ => pg_tup rfl (pgs_cons (pg_name (i := 4) s_isStanding.nd rfl (.inl rfl)) (pgs_cons (pg_name (i := 5) s_isStanding.nd rfl (.inl rfl)) pgs_nil))) (fun _ _ _ _ _ => pts_nil) (fun _ _ _ _ _ => pe_and (pe_df D (hr.mono (by decide)) (by rfl) (pa_cons (pv 4) (pa_cons pe_int pa_nil))) (pe_one (pe_cmpR op_le (pv 4) (pv 5) (nomark _))))) pa_nil))))), ?_⟩
    have zl : (((rooms.map V.int).length : Nat) : Int) = rooms.length := by rw [List.length_map]
    refine ⟨_, rfl, a0, _, rfl, h1, rfl, _, _, rfl, _, [], rfl, rfl, ?_⟩
    refine ⟨_, rfl, _, rfl, r, _, rfl, h2.or, u, d, _, rfl, hu, _, rfl, ?_⟩
    rw [zl]
    refine ite2 (fun e => ?_) (fun e => ?_)
    · have e1 : tupOf (rooms.length : Int) d = false := by simpa using e
      have q1 := q H (Evl.Ex.refl _)
      rw [standB_no e1] at q1
      exact q1
    · have e1 : tupOf (rooms.length : Int) d = true := by simpa using e
      cases hu with
      | int i => cases e1
      | non => cases e1
      | bl b => cases e1
      | str x => cases e1
      | lst _ _ => cases e1
      | tup h g =>
        rename_i a xs ds
        have hz' := hz ds rfl
        have hlen := dpa_len g
        rw [tupOf] at e1
        have el : ds.length = rooms.length := by have := of_decide_eq_true e1; omega
        rw [standB, e1, Bool.true_and] at q
        have ql := q
        cases c with
        | true =>
          refine .inl ⟨_, rfl, _, rfl, a, r, xs, rooms.map V.int, rfl, .inr ⟨h, h2, fun D' nD => lc_it (walk_zipT (xs := xs) (ys := rooms.map V.int) rfl) (Bls H D' (List.zipWith heldB ds rooms)) ⟨Evl.Ex.new nD, upd_same⟩
            (fun i H' _ pe => ⟨Evl.ex_t pe.1 h, Evl.ex_t pe.1 h2⟩) (fun i x H2 H3 hi pe y => ?_) (fun H' pe => bls_end (by rw [List.length_zipWith, List.length_map, hlen]; exact Nat.le_refl _) pe q)⟩⟩
          obtain ⟨T, x1, x2, rfl, nT, rfl, e1, e2⟩ := y
          obtain ⟨d1, k1, j1⟩ := dpa_at g e1
          obtain ⟨z2, rfl, g2⟩ := int_at e2
          have ex := pe.1.trans (Evl.Ex.new (o := .tup [x1, .int z2]) nT)
          have kb : (List.zipWith heldB ds rooms)[i]? = some (heldB d1 z2) := by rw [List.getElem?_zipWith, k1, g2]
          rw [List.length_map] at hi
          refine ⟨T, _, rfl, .inl (.inl upd_same), rfl, _, _, rfl, _, [], rfl, rfl, rfl, ?_⟩
          unfold tYes
          dsimp only
          rw [if_pos rfl]
          refine ⟨_, rfl, x1, d1, 0, rfl, dp_mono ex j1, _, rfl, ?_⟩
          refine ite2 (fun t => ?_) (fun t => ?_)
          · obtain ⟨z1, rfl, ez⟩ := held_yes j1 t
            rw [ez] at kb
            exact ⟨_, rfl, _, rfl, z1, z2, rfl, rfl, bls_next nD (by omega) kb ex (carry pe.2 nT)⟩
          · have t1 : fromB 0 d1 = false := by simpa using t
            rw [held_no t1] at kb
            exact bls_next nD (by omega) kb ex (carry pe.2 nT)
        | false =>
          refine .inr ⟨_, rfl, _, rfl, a, r, xs, rooms.map V.int, rfl, h, h2, fun D' nD => lc_it (Zq.walk_zipM (xs := xs) (ys := rooms.map V.int) rfl) (Bls H D' (List.zipWith heldB ds rooms)) ⟨Evl.Ex.new nD, upd_same⟩
            (fun i H' _ pe => ⟨Evl.ex_t pe.1 h, Evl.ex_l pe.1 h2⟩) (fun i x H2 H3 hi pe y => ?_) (fun H' pe => bls_end (by rw [List.length_zipWith, List.length_map, hlen]; exact Nat.le_refl _) pe q)⟩
          obtain ⟨T, x1, x2, rfl, nT, rfl, e1, e2⟩ := y
          obtain ⟨d1, k1, j1⟩ := dpa_at g e1
          obtain ⟨z2, rfl, g2⟩ := int_at e2
          have ex := pe.1.trans (Evl.Ex.new (o := .tup [x1, .int z2]) nT)
          have kb : (List.zipWith heldB ds rooms)[i]? = some (heldB d1 z2) := by rw [List.getElem?_zipWith, k1, g2]
          rw [List.length_map] at hi
          refine ⟨T, _, rfl, .inl (.inl upd_same), rfl, _, _, rfl, _, [], rfl, rfl, rfl, ?_⟩
          unfold tYes
          dsimp only
          rw [if_pos rfl]
          refine ⟨_, rfl, x1, d1, 0, rfl, dp_mono ex j1, _, rfl, ?_⟩
          refine ite2 (fun t => ?_) (fun t => ?_)
          · obtain ⟨z1, rfl, ez⟩ := held_yes j1 t
            rw [ez] at kb
            exact ⟨_, rfl, _, rfl, z1, z2, rfl, rfl, bls_next nD (by omega) kb ex (carry pe.2 nT)⟩
          · have t1 : fromB 0 d1 = false := by simpa using t
            rw [held_no t1] at kb
            exact bls_next nD (by omega) kb ex (carry pe.2 nT)
end
end Kd
namespace Kd
open PySem PySem.Spec PyProof.Rows L2 Xg
theorem s_lnum : FnScope ["_law_matter"] ["_law_matter"] (defScope (topS 21)) := ⟨rfl, rfl, rfl, by decide +kernel, rfl, by decide +kernel, by decide +kernel⟩
theorem s_lline : FnScope ["_law_matter", "_law_home"] ["_law_matter"] (defScope (topS 22)) := ⟨rfl, rfl, rfl, by decide +kernel, rfl, by decide +kernel, by decide +kernel⟩
theorem eS (x y : Str) : decide (V.str y = V.str x) = (y == x) := by
  by_cases h : y = x
  · subst h
    rw [decide_eq_true rfl]
    simp
  · rw [decide_eq_false (fun e => h (by cases e; rfl))]
    simp [h]
theorem row_ring {y : Str} (h : (y == "row") = true) : (y == "ring") = false := by
  have : y = "row" := eq_of_beq h
  subst this
  decide +kernel
section
variable {P : Program} {w : World} {K : PySem.W.Frag} {mg : Str → Option Value} {base : Heap}
theorem ok_lnum {f : Addr} {fd : FuncData} {k : Nat} (F : Fun K "_law_is_number" "_law_is_number" (topS 21) f fd) (N : Names mg) :
    FnOk P w K mg base CX0 (k + 1) f fd ["_law_matter"] (spNumD K) := by
  refine F.ok s_lnum (fun vs H Q E h => ?_) (fun cdv A outer s H vs Q E hr h => ?_)
  · obtain ⟨v, d, rfl, _⟩ := h
    rfl
  · obtain ⟨v, d, rfl, hv, q⟩ := h
    refine ⟨_, pss_one (ps_ret (pe_and (pe_callB call_isi (by rfl) N.isi bt_isi (pa_cons (pv 0) (pa_cons (pe_bltn (v := .ty "int") (by rfl) N.int bt_int rfl) pa_nil))) (pe_one (pe_not (pe_callB call_isi (by rfl) N.isi bt_isi (pa_cons (pv 0) (pa_cons (pe_bltn (v := .ty "bool") (by rfl) N.bool bt_bool rfl) pa_nil))))))), ?_⟩
    rw [isNum_eq] at q
    refine ⟨_, rfl, _, _, _, _, dInt d, rfl, .ty _, tyx_d hv, kit_ty (k_int d), _, rfl, ite2 (fun e => ?_) (fun e => ?_)⟩
    · rw [e] at q
      exact ⟨_, rfl, _, _, _, _, dBool d, rfl, .ty _, tyx_d hv, kit_ty (k_bool d), _, rfl, q⟩
    · have e' : dInt d = false := by simpa using e
      rw [e'] at q
      exact q
theorem num_yes {H0 : Hp} {d1 : PyData} {x1 : V} (j : Dp K H0 x1 d1) (t : isNum d1 = true) : ∃ z1 : Int, x1 = .int z1 ∧ d1 = .int z1 := by
  cases j with
  | int z1 => exact ⟨z1, rfl, rfl⟩
  | non => cases t
  | bl b => cases t
  | str x => cases t
  | lst _ _ => cases t
  | tup _ _ => cases t
theorem from_no {d : PyData} {l : Int} (t : isNum d = false) : fromB l d = false := by
  cases d with
  | int z1 => cases t
  | _ => rfl
theorem bls_at {H H' : Hp} {D : Addr} {bs : List Bool} {n : Nat} (hn : bs.length ≤ n) (p : Bls H D bs n H') : H' D = some (.lst (bs.map V.bl)) := by
  have := p.2
  rw [List.take_of_length_le hn] at this
  exact this
theorem ok_lline {f : Addr} {fd : FuncData} (F : Fun K "_law_is_line" "_law_is_line" (topS 22) f fd) (N : Names mg) (DN : Df P w K mg base "_law_is_number" ["_law_matter"] 1 (spNumD K)) :
    FnOk P w K mg base CX0 2 f fd ["_law_matter"] (spLineD K) := by
  refine F.ok s_lline (fun vs H Q E h => ?_) (fun cdv A outer s H vs Q E hr h => ?_)
  · obtain ⟨v, d, rfl, _⟩ := h
    rfl
  · obtain ⟨v, d, rfl, hv, hz, q⟩ := h
    refine ⟨_, pss_cons (ps_if (pw_or (pt_not (pt_val (pe_callB call_isi (by rfl) N.isi bt_isi (pa_cons (pv 0) (pa_cons (pe_bltn (v := .ty "tuple") (by rfl) N.tup bt_tup rfl) pa_nil))))) (pw_or1 (pt_cmpR op_ne (pe_callB call_len_seq (by rfl) N.len PySem.boot_len (pa_cons (pv 0) pa_nil)) pe_int (nomark _)))).pt (pss_one (ps_ret pe_bl)) pss_nil)
      (pss_cons (ps_if (pw_or (pt_not (pt_val (pe_callB call_isi (by rfl) N.isi bt_isi (pa_cons (pe_ix ix_tup (pv 0) pe_int (fun _ _ => rfl)) (pa_cons (pe_bltn (v := .ty "str") (by rfl) N.str bt_str rfl) pa_nil))))) (pw_or1 (pt_not (pt_val (pe_callB call_isi (by rfl) N.isi bt_isi (pa_cons (pe_ix ix_tup (pv 0) pe_int (fun _ _ => rfl)) (pa_cons (pe_bltn (v := .ty "tuple") (by rfl) N.tup bt_tup rfl) pa_nil))))))).pt (pss_one (ps_ret pe_bl)) pss_nil)
      (pss_cons (ps_if (pt_not (pt_val (pe_callB (cr_all rfl) (by rfl) N.all bt_all (pa_cons (pe_lc (own := [("_law_home", 1)]) (g := gName 1) (tt := tYes) rfl s_lline.nd (pi_tup (pe_ix ix_tup (pv 0) pe_int (fun _ _ => rfl))) (blkOk_by (N := ["_law_matter", "_law_home"]) (sc := defScope (topS 22)) (by decide +kernel)) (fun _ _ _ _ _ => pg_name (i := 1) s_lline.nd rfl (.inl rfl)) (fun _ _ _ _ _ => pts_nil) (fun _ _ _ _ _ => pe_and (pe_df DN hr (by rfl) (pa_cons (pv 1) pa_nil)) (pe_one (pe_cmpR op_gt (pv 1) pe_int (nomark _))))) pa_nil)))) (pss_one (ps_ret pe_bl)) pss_nil)
      (pss_one (ps_ret (L2.pe_or (pe_and (pe_cmpR op_eq (pe_ix ix_tup (pv 0) pe_int (fun _ _ => rfl)) pe_str (nomark _)) (pe_one (pe_cmpR op_gt (pe_callB call_len_seq (by rfl) N.len PySem.boot_len (pa_cons (pe_ix ix_tup (pv 0) pe_int (fun _ _ => rfl)) pa_nil)) pe_int (nomark _)))) (pe_one (pe_and (pe_cmpR op_eq (pe_ix ix_tup (pv 0) pe_int (fun _ _ => rfl)) pe_str (nomark _)) (pe_one (pe_cmpR op_gt (pe_callB call_len_seq (by rfl) N.len PySem.boot_len (pa_cons (pe_ix ix_tup (pv 0) pe_int (fun _ _ => rfl)) pa_nil)) pe_int (nomark _)))))))))), ?_⟩
    refine ⟨_, rfl, _, _, _, _, dTup d, rfl, .ty _, tyx_d hv, kit_ty (k_tup d), _, rfl, ?_⟩
    have q0 := q H (Evl.Ex.refl _)
    cases hv with
    | int i => exact ifY rfl q0
    | non => exact ifY rfl q0
    | bl b => exact ifY rfl q0
    | str x => exact ifY rfl q0
    | lst _ _ => exact ifY rfl q0
    | tup h g =>
      rename_i a xs ds
      have hlen := dpa_len g
      refine ifN rfl ⟨_, rfl, a, _, rfl, .inr h, rfl, _, rfl, ?_⟩
      by_cases l2 : ds.length = 2
      · obtain ⟨d1, d2, rfl⟩ := two_of l2
        obtain ⟨x1, x2, rfl⟩ := two_of (hlen.trans l2)
        cases g with
        | cons g1 g' =>
        cases g' with
        | cons g2 g' =>
        obtain ⟨sh, wd⟩ := hz d1 d2 rfl
        refine ifN rfl ?_
        refine ⟨_, rfl, a, _, 0, _, rfl, rfl, h, atI_nat (j := 0) rfl, _, _, _, _, dStr d1, rfl, .ty _, tyx_d g1, kit_ty (k_str d1), _, rfl, ite2 (fun e => ?_) (fun e => ?_)⟩
        · have e1 : dStr d1 = false := by simpa using e
          have z : lineB (.tuple [d1, d2]) = false := by
            cases d1 with
            | str _ => cases e1
            | _ => rfl
          rw [z] at q0
          exact q0
        have e1 : dStr d1 = true := by simpa using e
        cases g1 with
        | int i => cases e1
        | non => cases e1
        | bl b => cases e1
        | lst _ _ => cases e1
        | tup _ _ => cases e1
        | str y =>
        refine ⟨_, rfl, a, _, 1, _, rfl, rfl, h, atI_nat (j := 1) rfl, _, _, _, _, dTup d2, rfl, .ty _, tyx_d g2, kit_ty (k_tup d2), _, rfl, ite2 (fun e => ?_) (fun e => ?_)⟩
        · have e2 : dTup d2 = false := by simpa using e
          have z0 : ∀ l, roomsB l d2 = false := fun l => by
            cases d2 with
            | tuple _ => cases e2
            | _ => rfl
          have z : lineB (.tuple [.str y, d2]) = false := by
            rw [lineB, z0, z0]
            cases eqS "row" (PyData.str y) <;> cases eqS "ring" (PyData.str y) <;> rfl
          rw [z] at q0
          exact q0
        have e2 : dTup d2 = true := by simpa using e
        cases g2 with
        | int i => cases e2
        | non => cases e2
        | bl b => cases e2
        | lst _ _ => cases e2
        | str _ => cases e2
        | tup h2 g2 =>
        rename_i r ys es
        have hlen2 := dpa_len g2
        have hz' := wd es rfl
        refine ⟨_, rfl, a, _, 1, _, rfl, rfl, h, atI_nat (j := 1) rfl, r, rfl, ⟨_, h2⟩, fun D' nD => lc_it (walk_tup (xs := ys)) (Bls H D' (es.map (fromB 1))) ⟨Evl.Ex.new nD, upd_same⟩ (fun i H' _ pe => Evl.ex_t pe.1 h2) (fun i x H2 H3 hi pe y => ?_)
          (fun H' pe => ?_)⟩
        · obtain ⟨rfl, ex⟩ := y
          obtain ⟨d3, k1, j1⟩ := dpa_at g2 ex
          have kb : (es.map (fromB 1))[i]? = some (fromB 1 d3) := by rw [List.getElem?_map, k1]; rfl
          refine ⟨rfl, ?_⟩
          unfold tYes
          dsimp only
          rw [if_pos rfl]
          refine ⟨_, rfl, x, d3, rfl, dp_mono pe.1 j1, _, rfl, ite2 (fun t => ?_) (fun t => ?_)⟩
          · obtain ⟨z1, rfl, rfl⟩ := num_yes j1 t
            refine ⟨_, rfl, z1, 0, rfl, rfl, ?_⟩
            have ez : decide (z1 > 0) = fromB 1 (.int z1) := decide_eq_decide.mpr (by omega)
            dsimp only
            rw [ez]
            exact bls_next nD (by omega) kb pe.1 pe.2
          · have t1 : isNum d3 = false := by simpa using t
            rw [from_no t1] at kb
            exact bls_next nD (by omega) kb pe.1 pe.2
        · refine ⟨D', es.map (fromB 1), rfl, .inl (.inl (bls_at (by rw [List.length_map, hlen2]; exact Nat.le_refl _) pe)), ?_⟩
          have ex := pe.1
          have h' := Evl.ex_t ex h
          have h2' := Evl.ex_t ex h2
          have q1 := q H' ex
          have elen : ((ys.length : Nat) : Int) = (es.length : Int) := by rw [hlen2]
          refine ⟨_, rfl, ite2 (fun t => ?_) (fun t => ?_)⟩
          · have t1 : (es.map (fromB 1)).all id = false := by simpa using t
            have z0 : ∀ l, roomsB l (.tuple es) = false := fun l => by rw [roomsB, t1, Bool.and_false]
            have z : lineB (.tuple [.str y, .tuple es]) = false := by
              rw [lineB, z0, z0]
              cases eqS "row" (PyData.str y) <;> cases eqS "ring" (PyData.str y) <;> rfl
            rw [z] at q1
            exact q1
          · have t1 : (es.map (fromB 1)).all id = true := by simpa using t
            have z0 : ∀ l, roomsB l (.tuple es) = !decide ((es.length : Int) < l) := fun l => by rw [roomsB, t1, Bool.and_true]
            rw [lineB, z0, z0, eqS, eqS] at q1
            refine ⟨_, rfl, a, _, 0, _, rfl, rfl, h', atI_nat (j := 0) rfl, rfl, _, rfl, ?_⟩
            rw [eS]
            refine ite2 (fun t2 => ?_) (fun t2 => ?_)
            · rw [if_pos t2] at q1
              refine ⟨_, rfl, a, _, 1, _, rfl, rfl, h', atI_nat (j := 1) rfl, r, _, rfl, .inr h2', _, 0, rfl, rfl, _, rfl, ?_⟩
              rw [elen]
              refine ite2 (fun t3 => ?_) (fun t3 => ?_)
              · have t4 := of_decide_eq_true t3
                rw [decide_eq_false (by omega)] at q1
                exact q1
              · have t4 := of_decide_eq_false (by simpa using t3 : decide ((es.length : Int) > 0) = false)
                refine ⟨_, rfl, a, _, 0, _, rfl, rfl, h', atI_nat (j := 0) rfl, rfl, _, rfl, ?_⟩
                rw [eS, row_ring t2]
                rw [decide_eq_true (by omega)] at q1
                exact iteF q1
            · rw [if_neg t2] at q1
              refine ⟨_, rfl, iteF ?_⟩
              refine ⟨_, rfl, a, _, 0, _, rfl, rfl, h', atI_nat (j := 0) rfl, rfl, _, rfl, ?_⟩
              rw [eS]
              refine ite2 (fun t3 => ?_) (fun t3 => ?_)
              · rw [t3, Bool.true_and] at q1
                refine ⟨_, rfl, a, _, 1, _, rfl, rfl, h', atI_nat (j := 1) rfl, r, _, rfl, .inr h2', _, 1, rfl, rfl, ?_⟩
                dsimp only
                rw [elen]
                have ez : decide ((es.length : Int) > 1) = !decide ((es.length : Int) < 2) := by
                  by_cases c : (es.length : Int) < 2
                  · rw [decide_eq_true c, decide_eq_false (by omega)]; rfl
                  · rw [decide_eq_false c, decide_eq_true (by omega)]; rfl
                rw [ez]
                exact q1
              · have t4 : (y == "ring") = false := by simpa using t3
                rw [t4, Bool.false_and] at q1
                exact q1
      · have z : lineB (.tuple ds) = false := lineB_no (by rw [tupOf]; exact decide_eq_false (by omega))
        rw [z] at q0
        refine ifY ?_ q0
        rw [hlen, decide_eq_false (fun c => l2 (by have := V.int.inj c; omega))]
        rfl
end
end Kd
namespace Kd
open PySem PySem.Spec PyProof.Rows L2 Xg
theorem s_fit : FnScope ["_law_own", "_law_matter", "_law_size", "_law_doors_here", "_law_lies_here", "_law_part", "_law_home"] ["_law_own", "_law_matter"] (defScope (topS 23)) := ⟨rfl, rfl, rfl, by decide +kernel, rfl, by decide +kernel, by decide +kernel⟩
section
variable {P : Program} {w : World} {K : PySem.W.Frag} {mg : Str → Option Value} {base : Heap}
def spFitD (K : PySem.W.Frag) : Sp := fun vs H Q _ => ∃ (v u : V) (row : Bool) (rooms : List Int) (d : PyData), vs = [v, u] ∧ LnW K true true H v row rooms ∧ Dp K H u d ∧ wide d ∧
  ∀ p H', Evl.Ex H H' → H' p = some (.lst [.bl (widthsB (gts row rooms.length) d), .bl (standB rooms d)]) → Q (.ref p) H'
theorem num_all {ds : List PyData} {rooms : List Int} (hl : ds.length = rooms.length) (h : (ds.map isNum).all id = false) : (List.zipWith heldB ds rooms).all id = false := by
  induction ds generalizing rooms with
  | nil => cases h
  | cons d ds ih =>
    cases rooms with
    | nil => cases hl
    | cons r rooms =>
      rw [List.map_cons, List.all_cons] at h
      rw [List.zipWith_cons_cons, List.all_cons]
      cases e : isNum d with
      | false =>
        have : heldB d r = false := by
          cases d with
          | int _ => cases e
          | _ => rfl
        rw [this]
        rfl
      | true =>
        rw [e] at h
        rw [ih (by simpa using hl) (by simpa using h), Bool.and_false]
theorem ok_fitD {f : Addr} {fd : FuncData} (F : Fun K "_law_fit" "_law_fit" (topS 23) f fd) (N : Names mg) (DN : Df P w K mg base "_law_is_number" ["_law_matter"] 1 (spNumD K)) :
    FnOk P w K mg base CX0 2 f fd ["_law_own", "_law_matter"] (spFitD K) := by
  refine F.ok s_fit (fun vs H Q E h => ?_) (fun cdv A outer s H vs Q E hr h => ?_)
  · obtain ⟨v, u, row, rooms, d, rfl, _⟩ := h
    rfl
  · obtain ⟨v, u, row, rooms, d, rfl, ⟨a0, r, rfl, h1, h2⟩, hu, hz, q⟩ := h
    refine ⟨_, pss_cons (ps_set (i := 2) s_fit.nd rfl (.inl rfl) (pe_callB call_len_seq (by rfl) N.len PySem.boot_len (pa_cons (pe_ix ix_tup (pv 0) pe_int (fun _ _ => rfl)) pa_nil)))
      (pss_cons (ps_if (pt_not (pt_val (pe_callB call_isi (by rfl) N.isi bt_isi (pa_cons (pv 1) (pa_cons (pe_bltn (v := .ty "tuple") (by rfl) N.tup bt_tup rfl) pa_nil))))) (pss_one (ps_ret (pe_lst (pa_cons pe_bl (pa_cons pe_bl pa_nil))))) pss_nil)
      (pss_cons (ps_set (i := 3) s_fit.nd rfl (.inl rfl) (pe_cmpR op_eq (pe_callB call_len_seq (by rfl) N.len PySem.boot_len (pa_cons (pv 1) pa_nil)) (pe_op op_add (pv 2) (pe_callTy call_int1 (by rfl) N.int bt_int (pa_cons (pe_cmpR op_eq (pe_ix ix_tup (pv 0) pe_int (fun _ _ => rfl)) pe_str (nomark _)) pa_nil))) (nomark _)))
      (Evl.pss_cut (ps_set (i := 3) s_fit.nd rfl (.inl rfl) (pe_and (pv 3) (pe_one (pe_callB (cr_all rfl) (by rfl) N.all bt_all (pa_cons (pe_lc (own := [("_law_part", 5)]) (g := gName 5) (tt := tYes) rfl s_fit.nd (pi_tup (pv 1)) (blkOk_by (N := ["_law_own", "_law_matter", "_law_size", "_law_doors_here", "_law_lies_here", "_law_part", "_law_home"]) (sc := defScope (topS 23)) (by decide +kernel)) (fun _ _ _ _ _ => pg_name (i := 5) s_fit.nd rfl (.inl rfl)) (fun _ _ _ _ _ => pts_nil) (fun _ _ _ _ _ => L2.pe_or (pe_cmpR op_isN (pv 5) pe_non (nomark _)) (pe_one (pe_and (pe_df DN hr (by rfl) (pa_cons (pv 5) pa_nil)) (pe_one (pe_cmpR op_ge (pv 5) pe_int (nomark _))))))) pa_nil)))))
      (Evl.pss_cut (ps_set (i := 4) s_fit.nd rfl (.inl rfl) (pe_and (pe_cmpR op_eq (pe_callB call_len_seq (by rfl) N.len PySem.boot_len (pa_cons (pv 1) pa_nil)) (pv 2) (nomark _)) (pe_one (pe_callB (cr_all rfl) (by rfl) N.all bt_all (pa_cons (pe_lc (own := [("_law_part", 5)]) (g := gName 5) (tt := tYes) rfl s_fit.nd (pi_tup (pv 1)) (blkOk_by (N := ["_law_own", "_law_matter", "_law_size", "_law_doors_here", "_law_lies_here", "_law_part", "_law_home"]) (sc := defScope (topS 23)) (by decide +kernel)) (fun _ _ _ _ _ => pg_name (i := 5) s_fit.nd rfl (.inl rfl)) (fun _ _ _ _ _ => pts_nil) (fun _ _ _ _ _ => pe_df DN hr (by rfl) (pa_cons (pv 5) pa_nil))) pa_nil)))))
      (pss_one (ps_ret (pe_lst (pa_cons (pv 3) (pa_cons (pe_and (pv 4) (pe_one (pe_callB (cr_all rfl) (by rfl) N.all bt_all (pa_cons (pe_lc (own := [("_law_part", 5), ("_law_home", 6)]) (g := gTup K 2 (gCons (gName 5) (gCons (gName 6) gNil))) (tt := tYes) rfl s_fit.nd (RZ.pi_zipA (by rfl) N.zip (pa_cons (pv 1) (pa_cons (pe_ix ix_tup (pv 0) pe_int (fun _ _ => rfl)) pa_nil))) (blkOk_by (N := ["_law_own", "_law_matter", "_law_size", "_law_doors_here", "_law_lies_here", "_law_part", "_law_home"]) (sc := defScope (topS 23)) (by decide +kernel)) (fun _ _ _ _ _ => pg_tup rfl (pgs_cons (pg_name (i := 5) s_fit.nd rfl (.inl rfl)) (pgs_cons (pg_name (i := 6) s_fit.nd rfl (.inl rfl)) pgs_nil))) (fun _ _ _ _ _ => pts_nil) (fun _ _ _ _ _ => pe_chain op_le op_le pe_int (pv 5) (pv 6))) pa_nil)))) pa_nil))))))))), ?_⟩
    have zl : (((rooms.map V.int).length : Nat) : Int) = rooms.length := by rw [List.length_map]
    refine ⟨_, rfl, a0, _, 1, _, rfl, rfl, h1, atI_nat (j := 1) rfl, r, _, rfl, .inr h2, ?_⟩
    rw [zl]
    refine ⟨_, rfl, _, _, _, _, dTup d, rfl, .ty _, tyx_d hu, kit_ty (k_tup d), _, rfl, ?_⟩
    cases hu with
    | int i => exact ifY rfl ⟨(by decide : 2 ≤ sizeLine), fun p np => q p _ (Evl.Ex.new np) upd_same⟩
    | non => exact ifY rfl ⟨(by decide : 2 ≤ sizeLine), fun p np => q p _ (Evl.Ex.new np) upd_same⟩
    | bl b => exact ifY rfl ⟨(by decide : 2 ≤ sizeLine), fun p np => q p _ (Evl.Ex.new np) upd_same⟩
    | str x => exact ifY rfl ⟨(by decide : 2 ≤ sizeLine), fun p np => q p _ (Evl.Ex.new np) upd_same⟩
    | lst _ _ => exact ifY rfl ⟨(by decide : 2 ≤ sizeLine), fun p np => q p _ (Evl.Ex.new np) upd_same⟩
    | tup h g =>
      rename_i a xs ds
      have hlen := dpa_len g
      have hz' := hz ds rfl
      refine ifN rfl ?_
      have en : (rooms.length : Int) + (if decide (V.str (fT row) = V.str "row") = true then 1 else 0) = gts row rooms.length := by
        rw [fT_row]
        cases row <;> simp [gts]
      refine ⟨_, rfl, a, _, rfl, .inr h, _, rfl, _, rfl, a0, _, 0, _, rfl, rfl, h1, atI_nat (j := 0) rfl, rfl, .inr ⟨_, rfl, _, _, rfl, rfl, rfl, ?_⟩⟩
      have eB : decide (V.int ((xs.length : Nat) : Int) = V.int ((rooms.length : Int) + (if decide (V.str (fT row) = V.str "row") = true then 1 else 0))) = decide ((ds.length : Int) = gts row rooms.length) := by
        rw [en, hlen]
        exact decide_eq_decide.mpr ⟨fun c => V.int.inj c, fun c => by rw [c]⟩
      dsimp only
      rw [eB]
      refine ⟨fun σ' H' => Evl.Ex H H' ∧ σ' = [some (.ref a0), some (.ref a), some (.int rooms.length), some (.bl (widthsB (gts row rooms.length) (.tuple ds))), none, none, none], ?_, fun σ' H' m => ?_⟩
      · refine ⟨_, rfl, _, rfl, ite2 (fun e => ?_) (fun e => ?_)⟩
        · refine ⟨_, rfl, a, rfl, ⟨_, h⟩, fun D' nD => lc_it (walk_tup (xs := xs)) (Bls H D' (ds.map widthB)) ⟨Evl.Ex.new nD, upd_same⟩ (fun i H' _ pe => Evl.ex_t pe.1 h) (fun i x H2 H3 hi pe y => ?_) (fun H' pe => ?_)⟩
          · obtain ⟨rfl, ex⟩ := y
            obtain ⟨d1, k1, j1⟩ := dpa_at g ex
            have kb : (ds.map widthB)[i]? = some (widthB d1) := by rw [List.getElem?_map, k1]; rfl
            refine ⟨rfl, ?_⟩
            unfold tYes
            dsimp only
            rw [if_pos rfl]
            by_cases en : x = .non
            · subst en
              cases j1
              refine ⟨_, rfl, rfl, _, rfl, ifY (decide_eq_true rfl) ?_⟩
              exact bls_next nD (by omega) kb pe.1 pe.2
            · have ew : widthB d1 = fromB 0 d1 := by
                cases j1 with
                | non => exact absurd rfl en
                | _ => rfl
              rw [ew] at kb
              refine ⟨_, rfl, rfl, _, rfl, ifN (decide_eq_false en) ?_⟩
              refine ⟨_, rfl, x, d1, rfl, dp_mono pe.1 j1, _, rfl, ite2 (fun t => ?_) (fun t => ?_)⟩
              · obtain ⟨z1, rfl, rfl⟩ := num_yes j1 t
                refine ⟨_, rfl, z1, 0, rfl, rfl, ?_⟩
                exact bls_next nD (by omega) kb pe.1 pe.2
              · have t1 : isNum d1 = false := by simpa using t
                rw [from_no t1] at kb
                exact bls_next nD (by omega) kb pe.1 pe.2
          · refine ⟨D', ds.map widthB, rfl, .inl (.inl (bls_at (by rw [List.length_map, hlen]; exact Nat.le_refl _) pe)), pe.1, ?_⟩
            rw [widthsB, e, Bool.true_and]
            rfl
        · have e1 : decide ((ds.length : Int) = gts row rooms.length) = false := by simpa using e
          refine ⟨Evl.Ex.refl _, ?_⟩
          rw [widthsB, e1, Bool.false_and]
          rfl
      obtain ⟨x1, rfl⟩ := m
      refine ⟨fun σ' H' => Evl.Ex H H' ∧ σ' = [some (.ref a0), some (.ref a), some (.int rooms.length), some (.bl (widthsB (gts row rooms.length) (.tuple ds))), some (.bl (decide ((ds.length : Int) = (rooms.length : Int)) && (ds.map isNum).all id)), none, none], ?_, fun σ' H2 m => ?_⟩
      · have eC : decide (V.int ((xs.length : Nat) : Int) = V.int (rooms.length : Int)) = decide ((ds.length : Int) = (rooms.length : Int)) := by
          rw [hlen]
          exact decide_eq_decide.mpr ⟨fun c => V.int.inj c, fun c => by rw [c]⟩
        have h' := Evl.ex_t x1 h
        refine ⟨_, rfl, a, _, rfl, .inr h', _, rfl, rfl, _, rfl, ?_⟩
        rw [eC]
        refine ite2 (fun e => ?_) (fun e => ?_)
        · refine ⟨_, rfl, a, rfl, ⟨_, h'⟩, fun D' nD => lc_it (walk_tup (xs := xs)) (Bls H' D' (ds.map isNum)) ⟨Evl.Ex.new nD, upd_same⟩ (fun i H' _ pe => Evl.ex_t pe.1 h') (fun i x H2 H3 hi pe y => ?_) (fun H' pe => ?_)⟩
          · obtain ⟨rfl, ex⟩ := y
            obtain ⟨d1, k1, j1⟩ := dpa_at g ex
            have kb : (ds.map isNum)[i]? = some (isNum d1) := by rw [List.getElem?_map, k1]; rfl
            refine ⟨rfl, ?_⟩
            unfold tYes
            dsimp only
            rw [if_pos rfl]
            refine ⟨_, rfl, x, d1, rfl, dp_mono (x1.trans pe.1) j1, ?_⟩
            exact bls_next nD (by omega) kb pe.1 pe.2
          · refine ⟨D', ds.map isNum, rfl, .inl (.inl (bls_at (by rw [List.length_map, hlen]; exact Nat.le_refl _) pe)), x1.trans pe.1, ?_⟩
            rw [e, Bool.true_and]
            rfl
        · have e1 : decide ((ds.length : Int) = (rooms.length : Int)) = false := by simpa using e
          refine ⟨x1, ?_⟩
          rw [e1, Bool.false_and]
          rfl
      obtain ⟨x2, rfl⟩ := m
      have h' := Evl.ex_t x2 h
      have h1' := Evl.ex_t x2 h1
      have h2' := Evl.ex_t x2 h2
      refine ⟨_, rfl, _, rfl, _, rfl, ite2 (fun e => ?_) (fun e => ?_)⟩
      · obtain ⟨e1, e2⟩ := Bool.and_eq_true_iff.mp e
        have el : ds.length = rooms.length := by have := of_decide_eq_true e1; omega
        refine ⟨_, rfl, _, rfl, a0, _, 1, _, rfl, rfl, h1', atI_nat (j := 1) rfl, a, r, xs, rooms.map V.int, rfl, .inr ⟨h', h2', fun D' nD => lc_it (walk_zipT (xs := xs) (ys := rooms.map V.int) rfl) (Bls H2 D' (List.zipWith heldB ds rooms)) ⟨Evl.Ex.new nD, upd_same⟩
          (fun i H' _ pe => ⟨Evl.ex_t pe.1 h', Evl.ex_t pe.1 h2'⟩) (fun i x H2 H3 hi pe y => ?_) (fun H' pe => ?_)⟩⟩
        · obtain ⟨T, y1, y2, rfl, nT, rfl, f1, f2⟩ := y
          obtain ⟨d1, k1, j1⟩ := dpa_at g f1
          obtain ⟨z2, rfl, g2⟩ := int_at f2
          have ex := pe.1.trans (Evl.Ex.new (o := .tup [y1, .int z2]) nT)
          have kb : (List.zipWith heldB ds rooms)[i]? = some (heldB d1 z2) := by rw [List.getElem?_zipWith, k1, g2]
          rw [List.length_map] at hi
          obtain ⟨z1, rfl, rfl⟩ := num_yes j1 (all_at (p := id) e2 (by rw [List.getElem?_map, k1]; rfl))
          refine ⟨T, _, rfl, .inl (.inl upd_same), rfl, _, _, rfl, _, [], rfl, rfl, rfl, ?_⟩
          unfold tYes
          dsimp only
          rw [if_pos rfl]
          refine ⟨_, rfl, 0, z1, rfl, rfl, _, rfl, ite2 (fun t => ?_) (fun t => ?_)⟩
          · refine ⟨_, rfl, z1, z2, rfl, rfl, ?_⟩
            rw [heldB, t, Bool.true_and] at kb
            exact bls_next nD (by omega) kb ex (carry pe.2 nT)
          · have t1 : decide (0 ≤ z1) = false := by simpa using t
            rw [heldB, t1, Bool.false_and] at kb
            exact bls_next nD (by omega) kb ex (carry pe.2 nT)
        · refine ⟨D', List.zipWith heldB ds rooms, rfl, .inl (.inl (bls_at (by rw [List.length_zipWith, List.length_map, hlen]; exact Nat.le_refl _) pe)), (by decide : 2 ≤ sizeLine), fun p np => ?_⟩
          refine q p _ (x2.trans (pe.1.trans (Evl.Ex.new np))) ?_
          rw [upd_same, standB, e1, Bool.true_and]
      · have e3 : standB rooms (.tuple ds) = false := by
          rw [standB]
          cases e1 : decide ((ds.length : Int) = (rooms.length : Int)) with
          | false => rfl
          | true =>
            have el : ds.length = rooms.length := by have := of_decide_eq_true e1; omega
            rw [e1, Bool.true_and] at e
            rw [num_all el (by simpa using e)]
            rfl
        refine ⟨(by decide : 2 ≤ sizeLine), fun p np => q p _ (x2.trans (Evl.Ex.new np)) ?_⟩
        rw [upd_same, e3]
end
end Kd
namespace Kd
open PySem PySem.Spec PyProof.Rows L2 Xg
/-- the heap without some that are there: the box, and lists that are still being made -/
def rm (S : Addr → Bool) (H : Hp) : Hp := fun c => if S c = true then none else H c
theorem rm_no {S : Addr → Bool} {c : Addr} {H : Hp} (n : S c = false) : rm S H c = H c := by
  unfold rm
  rw [n]
  rfl
theorem rm_ex (S : Addr → Bool) (H : Hp) : Evl.Ex (rm S H) H := fun c o e => by
  cases n : S c with
  | true =>
    rw [rm, if_pos n] at e
    cases e
  | false =>
    rw [rm_no n] at e
    exact e
theorem kp_rm {b : Addr} {S : Addr → Bool} {H H' : Hp} (hS : S b = true) (k : Kp b H H') : Evl.Ex (rm S H) (rm S H') := fun c o e => by
  cases n : S c with
  | true =>
    rw [rm, if_pos n] at e
    cases e
  | false =>
    rw [rm_no n] at e ⊢
    exact k c o (fun x => by rw [x, hS] at n; cases n) e
/-- the box is there, all else is as it was, those left out are there -/
structure Gd (b : Addr) (S : Addr → Bool) (m : Int) (H H' : Hp) : Prop where
  kp : Kp b H H'
  bx : Bx H' b m
  sb : S b = true
  has : ∀ c, S c = true → H' c ≠ none
theorem Gd.no {b p : Addr} {S : Addr → Bool} {m : Int} {H H' : Hp} (g : Gd b S m H H') (n : H' p = none) : S p = false := by
  cases h : S p with
  | false => rfl
  | true => exact absurd n (g.has p h)
theorem Gd.new {b p : Addr} {S : Addr → Bool} {m : Int} {H H' : Hp} {o : HO} (g : Gd b S m H H') (n : H' p = none) : Gd b S m H (upd H' p o) ∧ Evl.Ex (rm S H') (rm S (upd H' p o)) ∧ rm S (upd H' p o) p = some o := by
  have e := Evl.Ex.new (o := o) n
  refine ⟨⟨g.kp.trans (Kp.ex e), g.bx.ex e, g.sb, fun c h x => ?_⟩, kp_rm g.sb (Kp.ex (b := b) e), ?_⟩
  · by_cases y : c = p
    · rw [y, g.no n] at h
      cases h
    · rw [upd_ne y] at x
      exact g.has c h x
  · rw [rm_no (g.no n), upd_same]
/-- the box has changed -/
theorem Gd.on {b : Addr} {S : Addr → Bool} {m k : Int} {H H1 H2 : Hp} (g : Gd b S m H H1) (e : Kp b H1 H2) (x : Bx H2 b k) : Gd b S k H H2 ∧ Evl.Ex (rm S H1) (rm S H2) := by
  refine ⟨⟨g.kp.trans e, x, g.sb, fun c h y => ?_⟩, kp_rm g.sb e⟩
  by_cases z : c = b
  · obtain ⟨_, _, _, _, _, _, _, _, w⟩ := x
    rw [z, w] at y
    cases y
  · cases w : H1 c with
    | none => exact g.has c h w
    | some o =>
      rw [e c o z w] at y
      cases y
theorem s_odd : FnScope ["_law_box_here", "_law_some"] ["_law_box_here"] (defScope (topS 19)) := ⟨rfl, rfl, rfl, by decide +kernel, rfl, by decide +kernel, by decide +kernel⟩
def odds : List PyData := [.none, .bool true, .bool false, .int (-1), .int 0, .int 1, .int 2, .int (10 ^ (30 : Int).toNat), .str "", .str "row", .str "ring", .str "forth", .tuple [], .list [], .tuple [.int 0], .list [.int 1], .tuple [.int 1, .int 1], .list [.list [.int 1]], .tuple [.tuple [.int 1]], .tuple [.str "row", .tuple [.int 1]], .tuple [.str "ring", .tuple [.int 1, .int 1]], .list [.str "row", .list [.int 1]]]
section
variable {P : Program} {w : World} {K : PySem.W.Frag} {mg : Str → Option Value} {base : Heap}
def spOdd (K : PySem.W.Frag) : Sp := fun vs H Q _ => ∃ (b : Addr) (S : Addr → Bool) (m : Int), vs = [.ref b] ∧ Gd b S m H H ∧ m < 900000000 ∧ ∀ v H' d, Gd b S (m + 1) H H' → Dp K (rm S H') v d → d ∈ odds → Q v H'
theorem ok_odd {f : Addr} {fd : FuncData} (F : Fun K "_law_odd" "_law_odd" (topS 19) f fd) (DT : Df P w K mg base "_law_take" ["_law_box_here", "_law_bound"] 1 spTake) :
    FnOk P w K mg base CX0 2 f fd ["_law_box_here"] (spOdd K) := by
  refine F.ok s_odd (fun vs H Q E h => ?_) (fun cdv A outer s H vs Q E hr h => ?_)
  · obtain ⟨b, S, m, rfl, _⟩ := h
    rfl
  · obtain ⟨b, S, m, rfl, g0, hm, q⟩ := h
    refine ⟨_, pss_cons (ps_set (i := 1) s_odd.nd rfl (.inl rfl) (pe_lst (pa_cons pe_non (pa_cons pe_bl (pa_cons pe_bl (pa_cons (pe_un un_neg pe_int) (pa_cons pe_int (pa_cons pe_int (pa_cons pe_int (pa_cons (pe_op op_pow pe_int pe_int) (pa_cons pe_str (pa_cons pe_str (pa_cons pe_str (pa_cons pe_str (pa_cons (pe_tup pa_nil) (pa_cons (pe_lst pa_nil) (pa_cons (pe_tup (pa_cons pe_int pa_nil)) (pa_cons (pe_lst (pa_cons pe_int pa_nil)) (pa_cons (pe_tup (pa_cons pe_int (pa_cons pe_int pa_nil))) (pa_cons (pe_lst (pa_cons (pe_lst (pa_cons pe_int pa_nil)) pa_nil)) pa_nil))))))))))))))))))))
      (pss_one (ps_ret (pe_ix ix_list (pe_op op_cat (pv 1) (pe_lst (pa_cons (pe_tup (pa_cons (pe_tup (pa_cons pe_int pa_nil)) pa_nil)) (pa_cons (pe_tup (pa_cons pe_str (pa_cons (pe_tup (pa_cons pe_int pa_nil)) pa_nil))) (pa_cons (pe_tup (pa_cons pe_str (pa_cons (pe_tup (pa_cons pe_int (pa_cons pe_int pa_nil))) pa_nil))) (pa_cons (pe_lst (pa_cons pe_str (pa_cons (pe_lst (pa_cons pe_int pa_nil)) pa_nil))) pa_nil)))))) (pe_df DT hr (by rfl) (pa_cons (pv 0) (pa_cons pe_int pa_nil))) (fun _ _ => rfl)))), ?_⟩
    refine ⟨1, rfl, 10, 30, rfl, rfl, ⟨by decide, by decide, by decide⟩, ?_⟩
    refine ⟨(by decide : 0 ≤ sizeLine), fun p1 n1 => ?_⟩
    obtain ⟨g1, e1, f1⟩ := g0.new (o := .tup []) n1
    generalize hH1 : upd H p1 (.tup []) = H1 at *
    have w1 : Dp K (rm S H1) (.ref p1) (.tuple []) := .tup (.inl (.inl f1)) .nil
    refine ⟨(by decide : 0 ≤ sizeLine), fun p2 n2 => ?_⟩
    obtain ⟨g2, e2, f2⟩ := g1.new (o := .lst []) n2
    generalize hH2 : upd H1 p2 (.lst []) = H2 at *
    have w1 := dp_mono e2 w1
    have w2 : Dp K (rm S H2) (.ref p2) (.list []) := .lst (.inl (.inl f2)) .nil
    refine ⟨(by decide : 1 ≤ sizeLine), fun p3 n3 => ?_⟩
    obtain ⟨g3, e3, f3⟩ := g2.new (o := .tup [.int 0]) n3
    generalize hH3 : upd H2 p3 (.tup [.int 0]) = H3 at *
    have w1 := dp_mono e3 w1
    have w2 := dp_mono e3 w2
    have w3 : Dp K (rm S H3) (.ref p3) (.tuple [.int 0]) := .tup (.inl (.inl f3)) (.cons (.int _) .nil)
    refine ⟨(by decide : 1 ≤ sizeLine), fun p4 n4 => ?_⟩
    obtain ⟨g4, e4, f4⟩ := g3.new (o := .lst [.int 1]) n4
    generalize hH4 : upd H3 p4 (.lst [.int 1]) = H4 at *
    have w1 := dp_mono e4 w1
    have w2 := dp_mono e4 w2
    have w3 := dp_mono e4 w3
    have w4 : Dp K (rm S H4) (.ref p4) (.list [.int 1]) := .lst (.inl (.inl f4)) (.cons (.int _) .nil)
    refine ⟨(by decide : 2 ≤ sizeLine), fun p5 n5 => ?_⟩
    obtain ⟨g5, e5, f5⟩ := g4.new (o := .tup [.int 1, .int 1]) n5
    generalize hH5 : upd H4 p5 (.tup [.int 1, .int 1]) = H5 at *
    have w1 := dp_mono e5 w1
    have w2 := dp_mono e5 w2
    have w3 := dp_mono e5 w3
    have w4 := dp_mono e5 w4
    have w5 : Dp K (rm S H5) (.ref p5) (.tuple [.int 1, .int 1]) := .tup (.inl (.inl f5)) (.cons (.int _) (.cons (.int _) .nil))
    refine ⟨(by decide : 1 ≤ sizeLine), fun p6 n6 => ?_⟩
    obtain ⟨g6, e6, f6⟩ := g5.new (o := .lst [.int 1]) n6
    generalize hH6 : upd H5 p6 (.lst [.int 1]) = H6 at *
    have w1 := dp_mono e6 w1
    have w2 := dp_mono e6 w2
    have w3 := dp_mono e6 w3
    have w4 := dp_mono e6 w4
    have w5 := dp_mono e6 w5
    have w6 : Dp K (rm S H6) (.ref p6) (.list [.int 1]) := .lst (.inl (.inl f6)) (.cons (.int _) .nil)
    refine ⟨(by decide : 1 ≤ sizeLine), fun p7 n7 => ?_⟩
    obtain ⟨g7, e7, f7⟩ := g6.new (o := .lst [.ref p6]) n7
    generalize hH7 : upd H6 p7 (.lst [.ref p6]) = H7 at *
    have w1 := dp_mono e7 w1
    have w2 := dp_mono e7 w2
    have w3 := dp_mono e7 w3
    have w4 := dp_mono e7 w4
    have w5 := dp_mono e7 w5
    have w6 := dp_mono e7 w6
    have w7 : Dp K (rm S H7) (.ref p7) (.list [.list [.int 1]]) := .lst (.inl (.inl f7)) (.cons w6 .nil)
    refine ⟨(by decide : 18 ≤ sizeLine), fun p8 n8 => ?_⟩
    obtain ⟨g8, e8, f8⟩ := g7.new (o := .lst [.non, .bl true, .bl false, .int (-1), .int 0, .int 1, .int 2, .int (10 ^ (30 : Int).toNat), .str "", .str "row", .str "ring", .str "forth", .ref p1, .ref p2, .ref p3, .ref p4, .ref p5, .ref p7]) n8
    generalize hH8 : upd H7 p8 (.lst [.non, .bl true, .bl false, .int (-1), .int 0, .int 1, .int 2, .int (10 ^ (30 : Int).toNat), .str "", .str "row", .str "ring", .str "forth", .ref p1, .ref p2, .ref p3, .ref p4, .ref p5, .ref p7]) = H8 at *
    have w1 := dp_mono e8 w1
    have w2 := dp_mono e8 w2
    have w3 := dp_mono e8 w3
    have w4 := dp_mono e8 w4
    have w5 := dp_mono e8 w5
    have w6 := dp_mono e8 w6
    have w7 := dp_mono e8 w7
    refine ⟨_, rfl, (by decide : 1 ≤ sizeLine), fun p9 n9 => ?_⟩
    obtain ⟨g9, e9, f9⟩ := g8.new (o := .tup [.int 1]) n9
    generalize hH9 : upd H8 p9 (.tup [.int 1]) = H9 at *
    have f8 := e9 _ _ f8
    have w1 := dp_mono e9 w1
    have w2 := dp_mono e9 w2
    have w3 := dp_mono e9 w3
    have w4 := dp_mono e9 w4
    have w5 := dp_mono e9 w5
    have w6 := dp_mono e9 w6
    have w7 := dp_mono e9 w7
    have w9 : Dp K (rm S H9) (.ref p9) (.tuple [.int 1]) := .tup (.inl (.inl f9)) (.cons (.int _) .nil)
    refine ⟨(by decide : 1 ≤ sizeLine), fun p10 n10 => ?_⟩
    obtain ⟨g10, e10, f10⟩ := g9.new (o := .tup [.ref p9]) n10
    generalize hH10 : upd H9 p10 (.tup [.ref p9]) = H10 at *
    have f8 := e10 _ _ f8
    have w1 := dp_mono e10 w1
    have w2 := dp_mono e10 w2
    have w3 := dp_mono e10 w3
    have w4 := dp_mono e10 w4
    have w5 := dp_mono e10 w5
    have w6 := dp_mono e10 w6
    have w7 := dp_mono e10 w7
    have w9 := dp_mono e10 w9
    have w10 : Dp K (rm S H10) (.ref p10) (.tuple [.tuple [.int 1]]) := .tup (.inl (.inl f10)) (.cons w9 .nil)
    refine ⟨(by decide : 1 ≤ sizeLine), fun p11 n11 => ?_⟩
    obtain ⟨g11, e11, f11⟩ := g10.new (o := .tup [.int 1]) n11
    generalize hH11 : upd H10 p11 (.tup [.int 1]) = H11 at *
    have f8 := e11 _ _ f8
    have w1 := dp_mono e11 w1
    have w2 := dp_mono e11 w2
    have w3 := dp_mono e11 w3
    have w4 := dp_mono e11 w4
    have w5 := dp_mono e11 w5
    have w6 := dp_mono e11 w6
    have w7 := dp_mono e11 w7
    have w9 := dp_mono e11 w9
    have w10 := dp_mono e11 w10
    have w11 : Dp K (rm S H11) (.ref p11) (.tuple [.int 1]) := .tup (.inl (.inl f11)) (.cons (.int _) .nil)
    refine ⟨(by decide : 2 ≤ sizeLine), fun p12 n12 => ?_⟩
    obtain ⟨g12, e12, f12⟩ := g11.new (o := .tup [.str "row", .ref p11]) n12
    generalize hH12 : upd H11 p12 (.tup [.str "row", .ref p11]) = H12 at *
    have f8 := e12 _ _ f8
    have w1 := dp_mono e12 w1
    have w2 := dp_mono e12 w2
    have w3 := dp_mono e12 w3
    have w4 := dp_mono e12 w4
    have w5 := dp_mono e12 w5
    have w6 := dp_mono e12 w6
    have w7 := dp_mono e12 w7
    have w9 := dp_mono e12 w9
    have w10 := dp_mono e12 w10
    have w11 := dp_mono e12 w11
    have w12 : Dp K (rm S H12) (.ref p12) (.tuple [.str "row", .tuple [.int 1]]) := .tup (.inl (.inl f12)) (.cons (.str _) (.cons w11 .nil))
    refine ⟨(by decide : 2 ≤ sizeLine), fun p13 n13 => ?_⟩
    obtain ⟨g13, e13, f13⟩ := g12.new (o := .tup [.int 1, .int 1]) n13
    generalize hH13 : upd H12 p13 (.tup [.int 1, .int 1]) = H13 at *
    have f8 := e13 _ _ f8
    have w1 := dp_mono e13 w1
    have w2 := dp_mono e13 w2
    have w3 := dp_mono e13 w3
    have w4 := dp_mono e13 w4
    have w5 := dp_mono e13 w5
    have w6 := dp_mono e13 w6
    have w7 := dp_mono e13 w7
    have w9 := dp_mono e13 w9
    have w10 := dp_mono e13 w10
    have w11 := dp_mono e13 w11
    have w12 := dp_mono e13 w12
    have w13 : Dp K (rm S H13) (.ref p13) (.tuple [.int 1, .int 1]) := .tup (.inl (.inl f13)) (.cons (.int _) (.cons (.int _) .nil))
    refine ⟨(by decide : 2 ≤ sizeLine), fun p14 n14 => ?_⟩
    obtain ⟨g14, e14, f14⟩ := g13.new (o := .tup [.str "ring", .ref p13]) n14
    generalize hH14 : upd H13 p14 (.tup [.str "ring", .ref p13]) = H14 at *
    have f8 := e14 _ _ f8
    have w1 := dp_mono e14 w1
    have w2 := dp_mono e14 w2
    have w3 := dp_mono e14 w3
    have w4 := dp_mono e14 w4
    have w5 := dp_mono e14 w5
    have w6 := dp_mono e14 w6
    have w7 := dp_mono e14 w7
    have w9 := dp_mono e14 w9
    have w10 := dp_mono e14 w10
    have w11 := dp_mono e14 w11
    have w12 := dp_mono e14 w12
    have w13 := dp_mono e14 w13
    have w14 : Dp K (rm S H14) (.ref p14) (.tuple [.str "ring", .tuple [.int 1, .int 1]]) := .tup (.inl (.inl f14)) (.cons (.str _) (.cons w13 .nil))
    refine ⟨(by decide : 1 ≤ sizeLine), fun p15 n15 => ?_⟩
    obtain ⟨g15, e15, f15⟩ := g14.new (o := .lst [.int 1]) n15
    generalize hH15 : upd H14 p15 (.lst [.int 1]) = H15 at *
    have f8 := e15 _ _ f8
    have w1 := dp_mono e15 w1
    have w2 := dp_mono e15 w2
    have w3 := dp_mono e15 w3
    have w4 := dp_mono e15 w4
    have w5 := dp_mono e15 w5
    have w6 := dp_mono e15 w6
    have w7 := dp_mono e15 w7
    have w9 := dp_mono e15 w9
    have w10 := dp_mono e15 w10
    have w11 := dp_mono e15 w11
    have w12 := dp_mono e15 w12
    have w13 := dp_mono e15 w13
    have w14 := dp_mono e15 w14
    have w15 : Dp K (rm S H15) (.ref p15) (.list [.int 1]) := .lst (.inl (.inl f15)) (.cons (.int _) .nil)
    refine ⟨(by decide : 2 ≤ sizeLine), fun p16 n16 => ?_⟩
    obtain ⟨g16, e16, f16⟩ := g15.new (o := .lst [.str "row", .ref p15]) n16
    generalize hH16 : upd H15 p16 (.lst [.str "row", .ref p15]) = H16 at *
    have f8 := e16 _ _ f8
    have w1 := dp_mono e16 w1
    have w2 := dp_mono e16 w2
    have w3 := dp_mono e16 w3
    have w4 := dp_mono e16 w4
    have w5 := dp_mono e16 w5
    have w6 := dp_mono e16 w6
    have w7 := dp_mono e16 w7
    have w9 := dp_mono e16 w9
    have w10 := dp_mono e16 w10
    have w11 := dp_mono e16 w11
    have w12 := dp_mono e16 w12
    have w13 := dp_mono e16 w13
    have w14 := dp_mono e16 w14
    have w15 := dp_mono e16 w15
    have w16 : Dp K (rm S H16) (.ref p16) (.list [.str "row", .list [.int 1]]) := .lst (.inl (.inl f16)) (.cons (.str _) (.cons w15 .nil))
    refine ⟨(by decide : 4 ≤ sizeLine), fun p17 n17 => ?_⟩
    obtain ⟨g17, e17, f17⟩ := g16.new (o := .lst [.ref p10, .ref p12, .ref p14, .ref p16]) n17
    generalize hH17 : upd H16 p17 (.lst [.ref p10, .ref p12, .ref p14, .ref p16]) = H17 at *
    have f8 := e17 _ _ f8
    have w1 := dp_mono e17 w1
    have w2 := dp_mono e17 w2
    have w3 := dp_mono e17 w3
    have w4 := dp_mono e17 w4
    have w5 := dp_mono e17 w5
    have w6 := dp_mono e17 w6
    have w7 := dp_mono e17 w7
    have w9 := dp_mono e17 w9
    have w10 := dp_mono e17 w10
    have w11 := dp_mono e17 w11
    have w12 := dp_mono e17 w12
    have w13 := dp_mono e17 w13
    have w14 := dp_mono e17 w14
    have w15 := dp_mono e17 w15
    have w16 := dp_mono e17 w16
    refine ⟨p8, p17, _, _, rfl, rfl, rm_ex _ _ _ _ f8, rm_ex _ _ _ _ f17, (by show 22 ≤ sizeLine; decide), fun p18 n18 => ?_⟩
    obtain ⟨g18, e18, f18⟩ := g17.new (o := .lst [.non, .bl true, .bl false, .int (-1), .int 0, .int 1, .int 2, .int (10 ^ (30 : Int).toNat), .str "", .str "row", .str "ring", .str "forth", .ref p1, .ref p2, .ref p3, .ref p4, .ref p5, .ref p7, .ref p10, .ref p12, .ref p14, .ref p16]) n18
    refine ⟨_, rfl, ?_⟩
    dsimp only [tNil, tC, tCons]
    refine takeR g18.bx (by omega) (by decide) (by decide) fun r H19 r0 r1 k19 b19 => ?_
    obtain ⟨g19, x19⟩ := g18.on k19 b19
    have e19 := e18.trans x19
    have f19 := x19 _ _ f18
    have w1 := dp_mono e19 w1
    have w2 := dp_mono e19 w2
    have w3 := dp_mono e19 w3
    have w4 := dp_mono e19 w4
    have w5 := dp_mono e19 w5
    have w6 := dp_mono e19 w6
    have w7 := dp_mono e19 w7
    have w9 := dp_mono e19 w9
    have w10 := dp_mono e19 w10
    have w11 := dp_mono e19 w11
    have w12 := dp_mono e19 w12
    have w13 := dp_mono e19 w13
    have w14 := dp_mono e19 w14
    have w15 := dp_mono e19 w15
    have w16 := dp_mono e19 w16
    have all : DpAll K (rm S H19) [.non, .bl true, .bl false, .int (-1), .int 0, .int 1, .int 2, .int (10 ^ (30 : Int).toNat), .str "", .str "row", .str "ring", .str "forth", .ref p1, .ref p2, .ref p3, .ref p4, .ref p5, .ref p7, .ref p10, .ref p12, .ref p14, .ref p16] odds := (.cons (.non) (.cons (.bl true) (.cons (.bl false) (.cons (.int _) (.cons (.int _) (.cons (.int _) (.cons (.int _) (.cons (.int _) (.cons (.str _) (.cons (.str _) (.cons (.str _) (.cons (.str _) (.cons w1 (.cons w2 (.cons w3 (.cons w4 (.cons w5 (.cons w7 (.cons w10 (.cons w12 (.cons w14 (.cons w16 .nil))))))))))))))))))))))
    obtain ⟨i, rfl⟩ : ∃ i : Nat, r = (i : Int) := ⟨r.toNat, by omega⟩
    have hi : i < ([.non, .bl true, .bl false, .int (-1), .int 0, .int 1, .int 2, .int (10 ^ (30 : Int).toNat), .str "", .str "row", .str "ring", .str "forth", .ref p1, .ref p2, .ref p3, .ref p4, .ref p5, .ref p7, .ref p10, .ref p12, .ref p14, .ref p16] : List V).length := by
      show i < 22
      omega
    have gi := List.getElem?_eq_getElem hi
    obtain ⟨d, kd, jd⟩ := dpa_at all gi
    exact ⟨p18, _, _, _, rfl, rfl, .inl (.inl (rm_ex _ _ _ _ f19)), atI_nat gi, q _ _ d g19 jd (List.mem_of_getElem? kd)⟩
end
end Kd
namespace Kd
open PySem PySem.Spec PyProof.Rows L2 Xg
/-- a short text of plain signs -/
structure Tx (n : Nat) (x : Str) : Prop where
  asc : ∀ c ∈ x.cps.toList, c < 128
  len : x.cps.size ≤ n
theorem Tx.mono {n k : Nat} {x : Str} (h : Tx n x) (l : n ≤ k) : Tx k x := ⟨h.asc, Nat.le_trans h.len l⟩
theorem tx_cat {n k : Nat} {x y : Str} (h : Tx n x) (g : Tx k y) : Tx (n + k) (x ++ y) := by
  refine ⟨fun c m => ?_, ?_⟩
  · have e : (x ++ y).cps.toList = x.cps.toList ++ y.cps.toList := Array.toList_append
    rw [e] at m
    exact (List.mem_append.mp m).elim (h.asc c) (g.asc c)
  · have e : (x ++ y).cps.size = x.cps.size + y.cps.size := Array.size_append
    rw [e]
    exact Nat.add_le_add h.len g.len
theorem tx_cut {n : Nat} {x : Str} (h : Tx n x) (lo hi : Option Int) : Tx n (cutS x lo hi) := by
  refine ⟨fun c m => h.asc c ?_, ?_⟩
  · have m1 : c ∈ (x.cps.toList.drop (HT.sIx x.length 0 lo)).take (HT.sIx x.length x.length hi - HT.sIx x.length 0 lo) := m
    exact List.mem_of_mem_drop (List.mem_of_mem_take m1)
  · exact Nat.le_trans (cutS_length x lo hi) h.len
theorem up1_asc : ∀ c, c < 128 → up1 c < 128 := by decide +kernel
theorem tx_up {n : Nat} {x : Str} (h : Tx n x) : Tx (3 * n) (Txt.upper x) := by
  refine ⟨fun c m => ?_, ?_⟩
  · have m1 : c ∈ (placed x fun _ c => Unicode.upperOf c) := Array.mem_toList_iff.mp m
    unfold placed at m1
    obtain ⟨l, hl, hc⟩ := Array.mem_flatten.mp m1
    obtain ⟨i, hi, e⟩ := Array.mem_mapIdx.mp hl
    have a1 := h.asc _ (Array.mem_toList_iff.mpr (Array.getElem_mem hi))
    rw [← e] at hc
    dsimp only at hc
    rw [upperOf_ascii _ a1] at hc
    have e2 : c = up1 x.cps[i] := by simpa using hc
    rw [e2]
    exact up1_asc _ a1
  · exact Nat.le_trans (len_upper x) (Nat.mul_le_mul_left 3 h.len)
theorem tx_int {i : Int} {k : Nat} (hk : 0 < k) (h : i.natAbs < 10 ^ k) : Tx (k + 1) (Str.ofString (toString i)) := by
  have e0 : Str.ofString (toString i) = Str.ofStringByList (toString i) := by rw [Str.ofString_eq_byList]
  have dig : ∀ (m : Nat) (c : Char), c ∈ (Nat.repr m).toList → c.toNat < 128 := fun m c hc => by
    have hd : c ∈ Nat.toDigits 10 m := by
      unfold Nat.repr at hc
      simpa using hc
    have := Nat.isDigit_of_mem_toDigits (b := 10) (by decide) (by decide) hd
    rw [Char.isDigit] at this
    simp at this
    have h2 := this.2
    have : c.toNat ≤ 57 := h2
    omega
  refine ⟨fun c m => ?_, ?_⟩
  · rw [e0] at m
    have m1 : c ∈ (toString i).toList.map Char.toNat := by simpa [Str.ofStringByList] using m
    obtain ⟨ch, hm, rfl⟩ := List.mem_map.mp m1
    cases i with
    | ofNat k => exact dig k ch hm
    | negSucc k =>
      have hs : (toString (Int.negSucc k)).toList = '-' :: (Nat.repr (k + 1)).toList := by
        show ("-" ++ Nat.repr (k + 1)).toList = _
        rw [String.toList_append]
        rfl
      rw [hs] at hm
      cases hm with
      | head => decide
      | tail _ hm => exact dig _ ch hm
  · have := int_text_length_le10 hk h
    show (Str.ofString (toString i)).length ≤ k + 1
    rw [PySem.ofString_length]
    exact this
/-! text[::-1] -/
def revS (x : Str) : Str := ⟨x.cps.toList.reverse.toArray⟩
theorem tx_rev {n : Nat} {x : Str} (h : Tx n x) : Tx n (revS x) := by
  refine ⟨fun c m => h.asc c ?_, ?_⟩
  · simpa [revS] using m
  · simpa [revS] using h.len
theorem picked (x : Str) (k : Tok) : ((slicePicked x none none (some (-1, k))).filterMap (x.cps[·]?)).toArray = x.cps.toList.reverse.toArray := by
  have e : slicePicked x none none (some (-1, k)) = (List.range x.cps.size).reverse := by
    show sliceRange ((x.cps.size : Int) - 1) (-1) (-1) = _
    rw [PySem.W.krv_sliceRange, PySem.W.krv_range]
  rw [e, List.filterMap_reverse, PySem.W.krv_all]
def tRevS (te : TE) : TE := fun σ H Q => te σ H fun x H1 => ∃ z, x = .str z ∧ z.length ≤ sizeLine ∧ Q (.str (revS z)) H1
section
variable {X : Cx}
theorem pe_revS {e : Expr} {te : TE} {k : Nat} {p1 p2 p3 pos : Pos} (he : PE X e te) : PE X (.Subscript e (.Slice none none (some (.UnaryOp .USub (.Constant (.int 1) k p1) p2)) p3) pos) (tRevS te) := by
  refine ⟨fun pins s σ H Q I h => Subscript_ (thn (he.run pins s σ H _ I h) fun v s1 ⟨x, H1, I1, r1, z, ex, hz, q⟩ => ?_)⟩
  subst ex
  obtain ⟨t, rfl⟩ := r1
  have step : PO X (some (.UnaryOp .USub (.Constant (.int 1) k p1) p2)) (tPart (tUn (rU fun i => .int (-i)) (tC (.int 1)))) := po_some (pe_un un_neg pe_int)
  refine wpAny_Slice (thn (po_none.run pins s1 σ H1 (fun o H2 => o = none ∧ H2 = H1) I1 ⟨rfl, rfl⟩) fun v1 s2 ⟨o1, H2, I2, w1, y1, y2⟩ => ?_)
  subst y1 y2
  refine thn (po_none.run pins s2 σ H2 (fun o H3 => o = none ∧ H3 = H2) I2 ⟨rfl, rfl⟩) fun v2 s3 ⟨o2, H3, I3, w2, y1, y2⟩ => ?_
  subst y1 y2
  refine thn (step.run pins s3 σ H3 (fun o H4 => o = some (-1) ∧ H4 = H3) I3 ⟨1, rfl, -1, rfl, rfl, rfl⟩) fun v3 s4 ⟨o3, H4, I4, w3, y1, y2⟩ => ?_
  subst y1 y2
  cases w1
  cases w2
  cases w3 with
  | int _ c =>
  have I5 : Inv X pins σ H4 { s4 with heap := s4.heap.push { cls := .type "slice", data := .fields #[.none, .none, .int (-1) c] } } := I4.kept (t' := s4.toks) fun b o y => Heap.get?_push_of_some _ y
  show wpAny (model X.prog X.w) X.A (subscriptTail e (.Slice none none (some (.UnaryOp .USub (.Constant (.int 1) k p1) p2)) p3) (.str z t) (.ref s4.heap.objs.size)) (EP X pins σ Q) X.xe { s4 with heap := s4.heap.push { cls := .type "slice", data := .fields #[.none, .none, .int (-1) c] } }
  refine tail_any (ops := [.ref s4.heap.objs.size, .str z t]) (typeIs_str _ _ _) F.slot_str_getitem.lookup ?_ (by with_unfolding_all rfl)
  refine wpAny_getItem_str_slice (l := none) (u := none) (st := some (-1, c)) ⟨_, Heap.get?_push_size _ rfl, rfl, rfl⟩ rfl ?_
  show Made.post (Made.str ⟨((slicePicked z none none (some (-1, c))).filterMap (z.cps[·]?)).toArray⟩) (EP X pins σ Q) _
  rw [picked]
  refine ⟨?_, .str (revS z), H4, I5.tok _, ⟨_, rfl⟩, q⟩
  show (revS z).length ≤ sizeLine
  have el : (revS z).length = z.length := by
    show (z.cps.toList.reverse.toArray).size = z.cps.size
    simp
  rw [el]
  exact hz
end
end Kd
namespace Kd
open PySem PySem.Spec PyProof.Rows L2 Xg
/-- how long a text may be behind so many changes -/
def sB : Nat → Nat
  | 0 => 40
  | t + 1 => 3 * sB t + 1
theorem sB_mono (t : Nat) : sB t ≤ sB (t + 1) := by
  show sB t ≤ 3 * sB t + 1
  omega
/-- data of at most n lists, one in another, behind t changes -/
def okD (t : Nat) : Nat → PyData → Prop
  | _, .none => True
  | _, .bool _ => True
  | _, .int i => i.natAbs ≤ 10 ^ 30 + t
  | _, .str x => Tx (sB t) x
  | n + 1, .list ds => ds.length ≤ 10 + t ∧ ∀ d ∈ ds, okD t n d
  | n + 1, .tuple ds => ds.length ≤ 10 + t ∧ ∀ d ∈ ds, okD t n d
  | _, _ => False
theorem okD_n {t : Nat} : ∀ {n : Nat} {d : PyData}, okD t n d → okD t (n + 1) d
  | 0, .none, _ => trivial
  | 0, .bool _, _ => trivial
  | 0, .int _, h => h
  | 0, .str _, h => h
  | 0, .list _, h => h.elim
  | 0, .tuple _, h => h.elim
  | 0, .dict _, h => h.elim
  | _ + 1, .none, _ => trivial
  | _ + 1, .bool _, _ => trivial
  | _ + 1, .int _, h => h
  | _ + 1, .str _, h => h
  | _ + 1, .list _, h => ⟨h.1, fun d m => okD_n (h.2 d m)⟩
  | _ + 1, .tuple _, h => ⟨h.1, fun d m => okD_n (h.2 d m)⟩
  | _ + 1, .dict _, h => h.elim
theorem okD_t {t : Nat} : ∀ {n : Nat} {d : PyData}, okD t n d → okD (t + 1) n d
  | 0, .none, _ => trivial
  | 0, .bool _, _ => trivial
  | 0, .int i, h => by
    have h1 : i.natAbs ≤ 10 ^ 30 + t := h
    show i.natAbs ≤ 10 ^ 30 + (t + 1)
    omega
  | 0, .str _, h => Tx.mono h (sB_mono t)
  | 0, .list _, h => h.elim
  | 0, .tuple _, h => h.elim
  | 0, .dict _, h => h.elim
  | _ + 1, .none, _ => trivial
  | _ + 1, .bool _, _ => trivial
  | _ + 1, .int i, h => by
    have h1 : i.natAbs ≤ 10 ^ 30 + t := h
    show i.natAbs ≤ 10 ^ 30 + (t + 1)
    omega
  | _ + 1, .str _, h => Tx.mono h (sB_mono t)
  | _ + 1, .list _, h => ⟨by have := h.1; omega, fun d m => okD_t (h.2 d m)⟩
  | _ + 1, .tuple _, h => ⟨by have := h.1; omega, fun d m => okD_t (h.2 d m)⟩
  | _ + 1, .dict _, h => h.elim
theorem okD_le {t n k : Nat} {d : PyData} (h : okD t n d) (l : n ≤ k) : okD t k d := by
  induction l with
  | refl => exact h
  | step _ ih => exact okD_n ih
theorem okD_tl {t u n : Nat} {d : PyData} (h : okD t n d) (l : t ≤ u) : okD u n d := by
  induction l with
  | refl => exact h
  | step _ ih => exact okD_t ih
theorem tx_lit {x : Str} (h : (x.cps.toList.all (· < 128) && decide (x.cps.size ≤ 40)) = true) : Tx 40 x := by
  obtain ⟨h1, h2⟩ := Bool.and_eq_true_iff.mp h
  exact ⟨fun c m => of_decide_eq_true (List.all_eq_true.mp h1 c m), of_decide_eq_true h2⟩
theorem ok_i {t n : Nat} {i : Int} (h : i.natAbs ≤ 10 ^ 30) : okD t n (.int i) := by
  cases n <;> exact Nat.le_trans h (Nat.le_add_right _ _)
theorem ok_s {t n : Nat} {x : Str} (h : Tx (sB t) x) : okD t n (.str x) := by
  cases n <;> exact h
theorem ok_non {t n : Nat} : okD t n .none := by
  cases n <;> exact trivial
theorem ok_bl {t n : Nat} {b : Bool} : okD t n (.bool b) := by
  cases n <;> exact trivial
theorem ok_tup {t n : Nat} {ds : List PyData} (h : ds.length ≤ 10 + t) (g : ∀ d ∈ ds, okD t n d) : okD t (n + 1) (.tuple ds) := ⟨h, g⟩
theorem ok_lst {t n : Nat} {ds : List PyData} (h : ds.length ≤ 10 + t) (g : ∀ d ∈ ds, okD t n d) : okD t (n + 1) (.list ds) := ⟨h, g⟩
theorem m0 {n t : Nat} : ∀ d ∈ ([] : List PyData), okD t n d := fun _ h => nomatch h
theorem m1 {n t : Nat} {a : PyData} {l : List PyData} (h : okD t n a) (g : ∀ d ∈ l, okD t n d) : ∀ d ∈ a :: l, okD t n d := fun d m => by
  cases m with
  | head => exact h
  | tail _ m => exact g d m
theorem odd_w : ∀ d ∈ odds, d.weight ≤ 200 := by decide +kernel
theorem odd_ok : ∀ d ∈ odds, okD 0 2 d := by
  have i : ∀ {n : Nat} {k : Int}, k.natAbs ≤ 10 ^ 30 → okD 0 n (.int k) := fun h => ok_i h
  unfold odds
  refine m1 ok_non (m1 ok_bl (m1 ok_bl (m1 (i (by decide)) (m1 (i (by decide)) (m1 (i (by decide)) (m1 (i (by decide)) (m1 (i (by decide)) ?_)))))))
  refine m1 (ok_s (tx_lit (by decide +kernel))) (m1 (ok_s (tx_lit (by decide +kernel))) (m1 (ok_s (tx_lit (by decide +kernel))) (m1 (ok_s (tx_lit (by decide +kernel))) ?_)))
  have o1 : ∀ {n : Nat}, okD 0 n (.int 1) := fun {n} => i (by decide)
  have o0 : ∀ {n : Nat}, okD 0 n (.int 0) := fun {n} => i (by decide)
  refine m1 (ok_tup (by decide) m0) (m1 (ok_lst (by decide) m0) (m1 (ok_tup (by decide) (m1 o0 m0)) (m1 (ok_lst (by decide) (m1 o1 m0)) (m1 (ok_tup (by decide) (m1 o1 (m1 o1 m0))) (m1 (ok_lst (by decide) (m1 (ok_lst (by decide) (m1 o1 m0)) m0)) ?_)))))
  have row : okD 0 1 (.str "row") := ok_s (tx_lit (by decide +kernel))
  have ring : okD 0 1 (.str "ring") := ok_s (tx_lit (by decide +kernel))
  exact m1 (ok_tup (by decide) (m1 (ok_tup (by decide) (m1 o1 m0)) m0)) (m1 (ok_tup (by decide) (m1 row (m1 (ok_tup (by decide) (m1 o1 m0)) m0))) (m1 (ok_tup (by decide) (m1 ring (m1 (ok_tup (by decide) (m1 o1 (m1 o1 m0))) m0))) (m1 (ok_lst (by decide) (m1 row (m1 (ok_lst (by decide) (m1 o1 m0)) m0))) m0)))
theorem Gd.le {b : Addr} {S : Addr → Bool} {m k : Int} {H H' : Hp} (g : Gd b S m H H') (l : m ≤ k) : Gd b S k H H' := ⟨g.kp, g.bx.le l, g.sb, g.has⟩
theorem Gd.base {b : Addr} {S : Addr → Bool} {m : Int} {H H' : Hp} (g : Gd b S m H H') : Gd b S m H' H' := ⟨Kp.refl _ _, g.bx, g.sb, g.has⟩
theorem sB_ge : ∀ t : Nat, 40 ≤ sB t
  | 0 => Nat.le_refl _
  | t + 1 => by
    have := sB_ge t
    show 40 ≤ 3 * sB t + 1
    omega
def mkD (T : Bool) (ds : List PyData) : PyData := bif T then .tuple ds else .list ds
theorem seqD {K : PySem.W.Frag} {H : Hp} {v : V} {d : PyData} (h : Dp K H v d) (e : (dList d || dTup d) = true) : ∃ (T : Bool) (a : Addr) (xs : List V) (ds : List PyData), v = .ref a ∧ Sq K T H a xs ∧ DpAll K H xs ds ∧ d = mkD T ds := by
  cases h with
  | lst h g => exact ⟨false, _, _, _, rfl, h, g, rfl⟩
  | tup h g => exact ⟨true, _, _, _, rfl, h, g, rfl⟩
  | int i => cases e
  | non => cases e
  | bl b => cases e
  | str x => cases e
theorem okD_seq {t n : Nat} {T : Bool} {ds : List PyData} (h : okD t n (mkD T ds)) : ∃ n', n = n' + 1 ∧ ds.length ≤ 10 + t ∧ ∀ d ∈ ds, okD t n' d := by
  cases n with
  | zero => cases T <;> exact h.elim
  | succ n => cases T <;> exact ⟨n, rfl, h.1, h.2⟩
theorem okD_str {t n : Nat} {x : Str} (h : okD t n (.str x)) : Tx (sB t) x := by
  cases n <;> exact h
theorem okD_int {t n : Nat} {i : Int} (h : okD t n (.int i)) : i.natAbs ≤ 10 ^ 30 + t := by
  cases n <;> exact h
theorem ok_it {t n : Nat} {i : Int} (h : i.natAbs ≤ 10 ^ 30 + t) : okD t n (.int i) := by
  cases n <;> exact h
theorem rix {K : PySem.W.Frag} {T : Bool} {H : Hp} {a : Addr} {xs : List V} {i : Int} {x : V} {Q : VK} (h : Sq K T H a xs) (e : atI xs i = some x) (q : Q x H) : rIx K (.ref a) (.int i) H Q := by
  cases T with
  | true => exact .inr (.inl ⟨a, xs, i, x, rfl, rfl, h, e, q⟩)
  | false => exact .inl ⟨a, xs, i, x, rfl, rfl, h, e, q⟩
section
variable {K : PySem.W.Frag} {H : Hp}
theorem dpa_app : ∀ {vs us : List V} {ds es : List PyData}, DpAll K H vs ds → DpAll K H us es → DpAll K H (vs ++ us) (ds ++ es)
  | _, _, _, _, .nil, g => g
  | _, _, _, _, .cons h k, g => .cons h (dpa_app k g)
theorem dpa_take : ∀ (n : Nat) {vs : List V} {ds : List PyData}, DpAll K H vs ds → DpAll K H (vs.take n) (ds.take n)
  | 0, _, _, _ => .nil
  | _ + 1, _, _, .nil => .nil
  | n + 1, _, _, .cons h k => .cons h (dpa_take n k)
theorem dpa_drop : ∀ (n : Nat) {vs : List V} {ds : List PyData}, DpAll K H vs ds → DpAll K H (vs.drop n) (ds.drop n)
  | 0, _, _, h => h
  | _ + 1, _, _, .nil => .nil
  | n + 1, _, _, .cons h k => dpa_drop n k
theorem dpa_set {v : V} {d : PyData} (h : Dp K H v d) : ∀ (j : Nat) {vs : List V} {ds : List PyData}, DpAll K H vs ds → DpAll K H (vs.set j v) (ds.set j d)
  | _, _, _, .nil => .nil
  | 0, _, _, .cons _ k => .cons h k
  | j + 1, _, _, .cons g k => .cons g (dpa_set h j k)
theorem dpa_erase : ∀ (j : Nat) {vs : List V} {ds : List PyData}, DpAll K H vs ds → DpAll K H (vs.eraseIdx j) (ds.eraseIdx j)
  | _, _, _, .nil => .nil
  | 0, _, _, .cons _ k => k
  | j + 1, _, _, .cons g k => .cons g (dpa_erase j k)
theorem dpa_rev : ∀ {vs : List V} {ds : List PyData}, DpAll K H vs ds → DpAll K H vs.reverse ds.reverse
  | _, _, .nil => .nil
  | _, _, .cons h k => by
    rw [List.reverse_cons, List.reverse_cons]
    exact dpa_app (dpa_rev k) (.cons h .nil)
end
/-- one more is left out -/
def out (S : Addr → Bool) (l : Addr) : Addr → Bool := fun c => S c || c == l
theorem out_new {S : Addr → Bool} {l : Addr} {H : Hp} {o : HO} (n : H l = none) : Evl.Ex (rm S H) (rm (out S l) (upd H l o)) := fun c u e => by
  cases h : S c with
  | true =>
    rw [rm, if_pos h] at e
    cases e
  | false =>
    rw [rm_no h] at e
    have ne : c ≠ l := ne_of_none e n
    have h2 : out S l c = false := by
      unfold out
      rw [h]
      simpa using ne
    rw [rm_no h2, upd_ne ne]
    exact e
theorem out_set {S : Addr → Bool} {l : Addr} {H : Hp} {o : HO} : Evl.Ex (rm (out S l) H) (rm S (upd H l o)) := fun c u e => by
  cases h : out S l c with
  | true =>
    rw [rm, if_pos h] at e
    cases e
  | false =>
    rw [rm_no h] at e
    have h1 : S c = false ∧ c ≠ l := by
      unfold out at h
      simpa using h
    rw [rm_no h1.1, upd_ne h1.2]
    exact e
theorem out_same {S : Addr → Bool} {l : Addr} {H : Hp} {o : HO} : Evl.Ex (rm (out S l) H) (rm (out S l) (upd H l o)) := fun c u e => by
  cases h : out S l c with
  | true =>
    rw [rm, if_pos h] at e
    cases e
  | false =>
    rw [rm_no h] at e ⊢
    have h1 : S c = false ∧ c ≠ l := by
      unfold out at h
      simpa using h
    rw [upd_ne h1.2]
    exact e
theorem out_in {S : Addr → Bool} {l : Addr} {H : Hp} : Evl.Ex (rm (out S l) H) (rm S H) := fun c u e => by
  cases h : out S l c with
  | true =>
    rw [rm, if_pos h] at e
    cases e
  | false =>
    rw [rm_no h] at e
    have h1 : S c = false ∧ c ≠ l := by
      unfold out at h
      simpa using h
    rw [rm_no h1.1]
    exact e
theorem Gd.was {b l : Addr} {S : Addr → Bool} {m : Int} {H H' : Hp} (g : Gd b S m H H') (n : H' l = none) : H l = none := by
  cases e : H l with
  | none => rfl
  | some o =>
    have nb : l ≠ b := fun z => g.has b g.sb (z ▸ n)
    rw [g.kp l o nb e] at n
    cases n
theorem Gd.mut {b l : Addr} {S : Addr → Bool} {m : Int} {H H' : Hp} {o : HO} (g : Gd b S m H H') (n : H l = none) (sl : S l = false) : Gd b S m H (upd H' l o) := by
  have nb : l ≠ b := fun z => by rw [z, g.sb] at sl; cases sl
  refine ⟨g.kp.mut n, g.bx.upd nb, g.sb, fun c h x => ?_⟩
  have nc : c ≠ l := fun z => by rw [z, sl] at h; cases h
  rw [upd_ne nc] at x
  exact g.has c h x
theorem tup_mk (T : Bool) (ds : List PyData) : dTup (mkD T ds) = T := by cases T <;> rfl
theorem list_mk (T : Bool) (ds : List PyData) : dList (mkD T ds) = !T := by cases T <;> rfl
section
open PyData
theorem w_app : ∀ ds es : List PyData, weightAll (ds ++ es) = weightAll ds + weightAll es
  | [], es => by simp [weightAll]
  | d :: ds, es => by
    rw [List.cons_append, weightAll, weightAll, w_app ds es]
    omega
theorem w_set : ∀ (ds : List PyData) (i : Nat) (d1 d' : PyData), ds[i]? = some d1 → weightAll (ds.set i d') + weight d1 = weightAll ds + weight d'
  | [], _, _, _, h => by simp at h
  | d :: ds, 0, d1, d', h => by
    simp at h
    subst h
    rw [List.set_cons_zero, weightAll, weightAll]
    omega
  | d :: ds, i + 1, d1, d', h => by
    have := w_set ds i d1 d' (by simpa using h)
    rw [List.set_cons_succ, weightAll, weightAll]
    omega
theorem w_erase : ∀ (ds : List PyData) (i : Nat), weightAll (ds.eraseIdx i) ≤ weightAll ds
  | [], _ => by simp
  | d :: ds, 0 => by
    rw [List.eraseIdx_cons_zero, weightAll]
    omega
  | d :: ds, i + 1 => by
    have := w_erase ds i
    rw [List.eraseIdx_cons_succ, weightAll, weightAll]
    omega
theorem w_rev : ∀ ds : List PyData, weightAll ds.reverse = weightAll ds
  | [] => rfl
  | d :: ds => by
    rw [List.reverse_cons, w_app, w_rev ds, weightAll, weightAll, weightAll]
    omega
theorem w_mem : ∀ (ds : List PyData) (i : Nat) (d1 : PyData), ds[i]? = some d1 → weight d1 + 1 ≤ weightAll ds
  | [], _, _, h => by simp at h
  | d :: ds, 0, d1, h => by
    simp at h
    subst h
    rw [weightAll]
    omega
  | d :: ds, i + 1, d1, h => by
    have := w_mem ds i d1 (by simpa using h)
    rw [weightAll]
    omega
theorem w_cut (ds : List PyData) (i : Nat) : weightAll (ds.take i) + weightAll (ds.drop i) = weightAll ds := by
  rw [← w_app, List.take_append_drop]
theorem w_mk (T : Bool) (ds : List PyData) : weight (mkD T ds) = weightAll ds := by
  cases T
  · show weight (.list ds) = _
    rw [weight]
  · show weight (.tuple ds) = _
    rw [weight]
end
theorem x0 {n : Nat} : ∀ d ∈ ([] : List PyData), d.weight ≤ n := fun _ h => nomatch h
theorem x1 {n : Nat} {a : PyData} {l : List PyData} (h : a.weight ≤ n) (g : ∀ d ∈ l, d.weight ≤ n) : ∀ d ∈ a :: l, d.weight ≤ n := fun d m => by
  cases m with
  | head => exact h
  | tail _ m => exact g d m
theorem w_str {n k : Nat} {x : Str} (h : Tx n x) (l : n ≤ k) : (PyData.str x).weight ≤ k := by
  rw [PyData.weight]
  exact Nat.le_trans h.len l
theorem w_bool {n : Nat} {b : Bool} : (PyData.bool b).weight ≤ n + 9999 := by
  rw [PyData.weight]
  omega
theorem w_none {n : Nat} : PyData.none.weight ≤ n + 9999 := by
  rw [PyData.weight]
  omega
theorem w_int {i : Int} (h : i.natAbs ≤ 10 ^ 30 + 9) : (PyData.int i).weight ≤ 9999 := by
  have lim : (10 : Nat) ^ 30 = 1000000000000000000000000000000 := by decide
  have lim2 : (2 : Nat) ^ 110 = 1298074214633706907132624082305024 := by decide
  rw [PyData.weight]
  by_cases z : i.natAbs = 0
  · have : i = 0 := by omega
    rw [this]
    decide
  · have := (Nat.log2_lt (k := 110) z).mpr (by omega)
    split <;> omega
theorem s_oth : FnScope ["_law_box_here", "_law_matter", "_law_at", "_law_way", "_law_some"] ["_law_box_here", "_law_matter"] (defScope (topS 20)) := ⟨rfl, rfl, rfl, by decide +kernel, rfl, by decide +kernel, by decide +kernel⟩
section
variable {P : Program} {w : World} {K : PySem.W.Frag} {mg : Str → Option Value} {base : Heap}
def spOth (K : PySem.W.Frag) (n : Nat) : Sp := fun vs H Q _ => ∃ (b : Addr) (S : Addr → Bool) (m : Int) (v : V) (d : PyData) (t : Nat), vs = [.ref b, v] ∧ Gd b S m H H ∧ m + 8 * (n + 1) < 900000000 ∧ Dp K (rm S H) v d ∧ okD t n d ∧ t ≤ 4 ∧
  ∀ v' H' d', Gd b S (m + 8 * (n + 1)) H H' → Dp K (rm S H') v' d' → okD (t + 1) (n + 3) d' → d'.weight ≤ 2 * d.weight + 10000 → Q v' H'
def spOthP (K : PySem.W.Frag) : Nat → Sp
  | 0 => fun _ _ _ _ => False
  | n + 1 => spOth K n
theorem ok_oth {f : Addr} {fd : FuncData} (F : Fun K "_law_otherwise" "_law_otherwise" (topS 20) f fd) (bd : Binds K fd ["_law_box_here", "_law_matter"] []) (gs : mg "_law_otherwise" = some (.ref f)) (N : Names mg)
    (DT : Df P w K mg base "_law_take" ["_law_box_here", "_law_bound"] 1 spTake) (DO : Df P w K mg base "_law_odd" ["_law_box_here"] 2 (spOdd K)) :
    ∀ n : Nat, FnOk P w K mg base CX0 (n + 2) f fd ["_law_box_here", "_law_matter"] (spOthP K n)
  | 0 => ⟨fun _ _ _ _ h => h.elim, fun _ _ _ _ _ _ _ _ _ _ _ _ _ h => h.elim⟩
  | n + 1 => by
    have G := ok_oth F bd gs N DT DO n
    refine F.ok s_oth (fun vs H Q E h => ?_) (fun cdv A outer s H vs Q E hr h => ?_)
    · obtain ⟨b, S, m, v, d, t, rfl, _⟩ := h
      rfl
    obtain ⟨b, S, m, v, d, t, rfl, g0, hm, hv, hd, ht, q⟩ := h
    have r1 : Room 1 _ := hr.mono (by omega)
    have r2 : Room 2 _ := hr.mono (by omega)
    refine ⟨_, Evl.pss_cut (ps_if (pw_and (pt_val (pe_callB call_isiT (by rfl) N.isi bt_isi (pa_cons (pv 1) (pa_cons (pe_tup (pa_cons (pe_bltn (v := .ty "list") (by rfl) N.lst bt_lst rfl) (pa_cons (pe_bltn (v := .ty "tuple") (by rfl) N.tup bt_tup rfl) pa_nil))) pa_nil)))) (pw_and (pt_cmpR op_gt (pe_callB call_len_seq (by rfl) N.len PySem.boot_len (pa_cons (pv 1) pa_nil)) pe_int (nomark _)) (pw_and1 (pt_cmpR op_gt (pe_df DT r1 (by rfl) (pa_cons (pv 0) (pa_cons pe_int pa_nil))) pe_int (nomark _))))).pt
        (pss_cons (ps_par3 (i := 2) (j := 3) (l := 4) rfl s_oth.nd rfl rfl rfl (by decide) (by decide) (by decide) rfl rfl rfl (pa_cons (pe_df DT r1 (by rfl) (pa_cons (pv 0) (pa_cons (pe_callB call_len_seq (by rfl) N.len PySem.boot_len (pa_cons (pv 1) pa_nil)) pa_nil))) (pa_cons (pe_df DT r1 (by rfl) (pa_cons (pv 0) (pa_cons pe_int pa_nil))) (pa_cons (pe_callTy call_list_of (by rfl) N.lst bt_lst (pa_cons (pv 1) pa_nil)) pa_nil))) rfl)
        (Evl.pss_cut (ps_if (pt_cmpR op_lt (pv 3) pe_int (nomark _))
            (pss_one (ps_asg (pe_call G hr (by rfl) gs F.kp bd .nil pass0 (pa_cons (pv 0) (pa_cons (pe_ix ix_seq (pv 1) (pv 2) (fun _ _ => rfl)) pa_nil))) (pg_sub (pv 4) (pv 2) set_list)))
            (pss_one (ps_if (pt_cmpR op_eq (pv 3) pe_int (nomark _)) (pss_one (ps_expr (pe_bm PySem.F.plainAttrs_list PySem.F.slot_list_pop PySem.F.type_list_pop mt_popAt (pv 4) (pa_cons (pv 2) pa_nil))))
            (pss_one (ps_if (pt_cmpR op_eq (pv 3) pe_int (nomark _)) (pss_one (ps_expr (pe_bm PySem.F.plainAttrs_list PySem.F.slot_list_insert PySem.F.type_list_insert mt_insert (pv 4) (pa_cons (pv 2) (pa_cons (pe_ix ix_seq (pv 1) (pv 2) (fun _ _ => rfl)) pa_nil)))))
            (pss_one (ps_if (pt_cmpR op_eq (pv 3) pe_int (nomark _)) (pss_one (ps_expr (pe_bm0 PySem.F.plainAttrs_list PySem.F.slot_list_reverse PySem.F.type_list_reverse mt_reverse (pv 4))))
            (pss_one (ps_ret (pe_ifExp (pt_val (pe_callB call_isi (by rfl) N.isi bt_isi (pa_cons (pv 1) (pa_cons (pe_bltn (v := .ty "tuple") (by rfl) N.tup bt_tup rfl) pa_nil)))) (pv 4) (pe_callTy call_tuple_of (by rfl) N.tup bt_tup (pa_cons (pv 4) pa_nil))))))))))))
        (pss_one (ps_ret (pe_ifExp (pt_val (pe_callB call_isi (by rfl) N.isi bt_isi (pa_cons (pv 1) (pa_cons (pe_bltn (v := .ty "list") (by rfl) N.lst bt_lst rfl) pa_nil)))) (pv 4) (pe_callTy call_tuple_of (by rfl) N.tup bt_tup (pa_cons (pv 4) pa_nil)))))))
        pss_nil)
      (Evl.pss_cut (ps_if (pw_and (pt_val (pe_callB call_isi (by rfl) N.isi bt_isi (pa_cons (pv 1) (pa_cons (pe_bltn (v := .ty "int") (by rfl) N.int bt_int rfl) pa_nil)))) (pw_and (pt_not (pt_val (pe_callB call_isi (by rfl) N.isi bt_isi (pa_cons (pv 1) (pa_cons (pe_bltn (v := .ty "bool") (by rfl) N.bool bt_bool rfl) pa_nil))))) (pw_and1 (pt_cmpR op_gt (pe_df DT r1 (by rfl) (pa_cons (pv 0) (pa_cons pe_int pa_nil))) pe_int (nomark _))))).pt
        (pss_one (ps_ret (pe_ix ix_list (pe_lst (pa_cons (pe_op op_add (pv 1) pe_int) (pa_cons (pe_op op_sub (pv 1) pe_int) (pa_cons pe_int (pa_cons (pe_un un_neg (pv 1)) (pa_cons (pe_cmpR op_eq (pv 1) pe_int (nomark _)) (pa_cons (pe_callTy call_str_int (by rfl) N.str bt_str (pa_cons (pv 1) pa_nil)) (pa_cons pe_non pa_nil)))))))) (pe_df DT r1 (by rfl) (pa_cons (pv 0) (pa_cons pe_int pa_nil))) (fun _ _ => rfl)))) pss_nil)
      (Evl.pss_cut (ps_if (pw_and (pt_val (pe_callB call_isi (by rfl) N.isi bt_isi (pa_cons (pv 1) (pa_cons (pe_bltn (v := .ty "str") (by rfl) N.str bt_str rfl) pa_nil)))) (pw_and1 (pt_cmpR op_gt (pe_df DT r1 (by rfl) (pa_cons (pv 0) (pa_cons pe_int pa_nil))) pe_int (nomark _)))).pt
        (pss_one (ps_ret (pe_ix ix_list (pe_lst (pa_cons (pe_op op_add_str (pv 1) pe_str) (pa_cons (pe_slice sl_str (pv 1) (po_some pe_int) po_none) (pa_cons (pe_upper (pv 1)) (pa_cons (pe_op op_add_str (pv 1) pe_str) (pa_cons (pe_tup (pa_cons (pv 1) pa_nil)) (pa_cons (pe_revS (pv 1)) pa_nil))))))) (pe_df DT r1 (by rfl) (pa_cons (pv 0) (pa_cons pe_int pa_nil))) (fun _ _ => rfl)))) pss_nil)
      (pss_one (ps_ret (pe_df DO r2 (by rfl) (pa_cons (pv 0) pa_nil)))))), ?_⟩
    have Z : ∀ {H' : Hp} {k : Int}, Gd b S k H H' → Dp K H' v d := fun g => dp_mono ((kp_rm g.sb g.kp).trans (rm_ex S _)) hv
    refine ⟨fun σ' H' => σ' = [some (.ref b), some v, none, none, none] ∧ Gd b S (m + 1) H H', ?_, fun σ' H1 md => ?_⟩
    · refine ⟨_, rfl, two_size, fun p np => ?_⟩
      obtain ⟨ga, _, _⟩ := g0.new (o := .tup [.ty "list", .ty "tuple"]) np
      refine ⟨_, p, _, _, _, (dList d || dTup d), rfl, upd_same, two_cls, tyx_d (Z ga), kit2 (k_list d) (k_tup d), _, rfl, ite2 (fun e1 => ?_) (fun e1 => ?_)⟩
      rotate_left
      · exact ⟨rfl, ga.le (by omega)⟩
      obtain ⟨T, a, xs, ds, rfl, hq, hg, rfl⟩ := seqD hv e1
      obtain ⟨n', rfl, hlen, hok⟩ := okD_seq hd
      have Y : ∀ {H' : Hp} {k : Int}, Gd b S k H H' → Sq K T H' a xs := fun g => Sq.mono hq ((kp_rm g.sb g.kp).trans (rm_ex S _))
      have hxl := dpa_len hg
      refine ⟨_, rfl, a, xs, rfl, (Y ga).or, _, 0, rfl, rfl, _, rfl, ite2 (fun e2 => ?_) (fun e2 => ?_)⟩
      rotate_left
      · exact ⟨rfl, ga.le (by omega)⟩
      have pos : 0 < xs.length := by
        have := of_decide_eq_true e2
        omega
      refine ⟨_, rfl, ?_⟩
      dsimp only [tNil, tC, tCons]
      refine takeR ga.bx (by omega) (by decide) (by decide) fun r H1 r0 r1 k1 b1 => ?_
      obtain ⟨gb, _⟩ := ga.on k1 b1
      refine ⟨_, 0, rfl, rfl, _, rfl, ite2 (fun e3 => ?_) (fun e3 => ?_)⟩
      rotate_left
      · exact ⟨rfl, gb⟩
      refine ⟨_, rfl, _, rfl, a, xs, rfl, (Y gb).or, ?_⟩
      dsimp only [tNil, tC, tCons]
      refine takeR gb.bx (by omega) (by omega) (by omega) fun ai H2 a0 a1 k2 b2 => ?_
      obtain ⟨gc, _⟩ := gb.on k2 b2
      refine ⟨_, rfl, ?_⟩
      dsimp only [tNil, tC, tCons]
      refine takeR gc.bx (by omega) (by decide) (by decide) fun way H3 w0 w1 k3 b3 => ?_
      obtain ⟨gd, _⟩ := gc.on k3 b3
      refine ⟨_, rfl, a, xs, rfl, (Y gd).or, fun l nl => ?_⟩
      obtain ⟨ge, xl, fl⟩ := gd.new (o := .lst xs) nl
      have sl : S l = false := gd.no nl
      have hn := gd.was nl
      have hx4 : DpAll K (rm (out S l) (upd H3 l (.lst xs))) xs ds := dpa_mono ((kp_rm gd.sb gd.kp).trans (out_new nl)) hg
      have hl4 : upd H3 l (.lst xs) l = some (.lst xs) := upd_same
      generalize upd H3 l (.lst xs) = H4 at ge xl fl hx4 hl4 ⊢
      have nb : l ≠ b := fun z => by rw [z, ge.sb] at sl; cases sl
      obtain ⟨i, rfl⟩ : ∃ i : Nat, ai = (i : Int) := ⟨ai.toNat, by omega⟩
      have hi : i < xs.length := by omega
      have gi := List.getElem?_eq_getElem hi
      obtain ⟨d1, kd, jd⟩ := dpa_at hx4 gi
      refine ⟨_, _, _, rfl, ?_⟩
      refine ⟨fun σ' H' => σ' = [some (.ref b), some (.ref a), some (.int i), some (.int way), some (.ref l)] ∧ ∃ (ys : List V) (es : List PyData), Gd b S (m + 8 * ((n' : Int) + 2)) H H' ∧ H' l = some (.lst ys) ∧ DpAll K (rm (out S l) H') ys es ∧ es.length ≤ 10 + (t + 1) ∧ (∀ y ∈ es, okD (t + 1) (n' + 3) y) ∧ PyData.weightAll es ≤ 2 * PyData.weightAll ds + 10000, ?_, fun σ' H5 md => ?_⟩
      · have okl : ∀ y ∈ ds, okD (t + 1) (n' + 3) y := fun y hy => okD_t (okD_le (hok y hy) (by omega))
        refine ⟨_, rfl, way, 6, rfl, rfl, _, rfl, ite2 (fun e4 => ?_) (fun e4 => ?_)⟩
        · refine ⟨_, rfl, _, rfl, _, rfl, rix (Y ge) (atI_nat gi) ?_⟩
          have gin : Gd b (out S l) (m + 3) H4 H4 := ⟨Kp.refl _ _, ge.bx.le (by omega), by unfold out; rw [ge.sb]; rfl, fun c h x => by
            by_cases z : c = l
            · rw [z, hl4] at x
              cases x
            · have h1 : S c = true := by
                unfold out at h
                simpa [z] using h
              exact ge.has c h1 x⟩
          refine ⟨b, out S l, m + 3, _, d1, t, rfl, gin, by omega, jd, hok d1 (List.mem_of_getElem? kd), ht, fun v' H' d' g' dp ok wt => ?_⟩
          have hl' := g'.kp l _ nb hl4
          have g5 : Gd b S (m + 8 * ((n' : Int) + 2)) H H' := ⟨ge.kp.trans g'.kp, g'.bx.le (by omega), ge.sb, fun c h => g'.has c (by unfold out; rw [h]; rfl)⟩
          refine ⟨_, rfl, _, rfl, l, xs, i, i, rfl, rfl, hl', ?_, rfl, xs.set i v', ds.set i d', g5.mut hn sl, upd_same, dpa_mono out_same (dpa_set dp i (dpa_mono (kp_rm g'.sb g'.kp) hx4)), ?_, fun y hy => ?_, (by have w1 := w_set ds i d1 d' kd; have w2 := w_mem ds i d1 kd; omega)⟩
          · unfold ixN
            rw [if_pos (by omega), if_pos (by omega)]
            rfl
          · rw [List.length_set]
            omega
          · rcases List.mem_or_eq_of_mem_set hy with z | z
            · exact okl y z
            · rw [z]
              exact ok
        refine ⟨_, rfl, rfl, _, rfl, ite2 (fun e5 => ?_) (fun e5 => ?_)⟩
        · refine ⟨_, rfl, .inl ⟨rfl, _, .inl (.inl hl4)⟩, _, rfl, l, xs, i, i, _, rfl, rfl, hl4, by omega, by omega, ?_, gi, rfl, xs.eraseIdx i, ds.eraseIdx i, (ge.le (by omega)).mut hn sl, upd_same, dpa_mono out_same (dpa_erase i hx4), ?_, fun y hy => okl y (List.mem_of_mem_eraseIdx hy), (by have := w_erase ds i; omega)⟩
          · unfold seqIndex?
            have c1 : ¬ ((i : Int) < 0) := by omega
            rw [if_neg c1]
            have c2 : (decide (0 ≤ (i : Int)) && decide ((i : Int) < xs.length)) = true := by
              rw [decide_eq_true (by omega), decide_eq_true (by omega)]
              rfl
            rw [if_pos c2]
            rfl
          · have := List.length_eraseIdx_le ds i
            omega
        refine ⟨_, rfl, rfl, _, rfl, ite2 (fun e6 => ?_) (fun e6 => ?_)⟩
        · refine ⟨_, rfl, .inl ⟨rfl, _, .inl (.inl hl4)⟩, _, rfl, _, rfl, _, rfl, rix (Y ge) (atI_nat gi) ?_⟩
          refine ⟨l, xs, i, _, rfl, rfl, hl4, Evl.sz_lt (by omega), by omega, by omega, rfl, _, ds.take i ++ [d1] ++ ds.drop i, (ge.le (by omega)).mut hn sl, upd_same, ?_, ?_, fun y hy => ?_, (by rw [w_app, w_app, PyData.weightAll, PyData.weightAll]; have w1 := w_cut ds i; have w2 := w_mem ds i d1 kd; omega)⟩
          · have e : (i : Int).toNat = i := rfl
            rw [e]
            exact dpa_mono out_same (dpa_app (dpa_app (dpa_take i hx4) (.cons jd .nil)) (dpa_drop i hx4))
          · simp only [List.length_append, List.length_take, List.length_drop, List.length_cons, List.length_nil]
            omega
          · rcases List.mem_append.mp hy with z | z
            · rcases List.mem_append.mp z with z | z
              · exact okl y (List.mem_of_mem_take z)
              · have : y = d1 := by simpa using z
                rw [this]
                exact okl d1 (List.mem_of_getElem? kd)
            · exact okl y (List.mem_of_mem_drop z)
        refine ⟨_, rfl, rfl, _, rfl, ite2 (fun e7 => ?_) (fun e7 => ?_)⟩
        · refine ⟨_, rfl, .inl ⟨rfl, _, .inl (.inl hl4)⟩, l, xs, rfl, rfl, hl4, rfl, xs.reverse, ds.reverse, (ge.le (by omega)).mut hn sl, upd_same, dpa_mono out_same (dpa_rev hx4), ?_, fun y hy => okl y (List.mem_reverse.mp hy), (by rw [w_rev]; omega)⟩
          rw [List.length_reverse]
          omega
        have rl : rm S H4 l = some (.lst xs) := fl
        have dl : DpAll K (rm S H4) xs ds := dpa_mono out_in hx4
        refine ⟨_, rfl, _, _, _, _, dTup (mkD T ds), rfl, .ty _, tyx_d (Z ge), kit_ty (k_tup _), _, rfl, ite2 (fun e8 => ?_) (fun e8 => ?_)⟩
        · exact ⟨_, rfl, q _ _ (.list ds) (ge.le (by omega)) (.lst (.inl (.inl rl)) dl) (ok_lst (by omega) okl) (by rw [w_mk, PyData.weight]; omega)⟩
        · refine ⟨_, rfl, l, xs, rfl, .inl ⟨.inl (.inl hl4), fun p np => ?_⟩⟩
          obtain ⟨gf, xf, ff⟩ := ge.new (o := .tup xs) np
          exact q _ _ (.tuple ds) (gf.le (by omega)) (.tup (.inl (.inl ff)) (dpa_mono xf dl)) (ok_tup (by omega) okl) (by rw [w_mk, PyData.weight]; omega)
      obtain ⟨rfl, ys, es, g5, hl5, h5, len5, ok5, wt5⟩ := md
      have rl : rm S H5 l = some (.lst ys) := (rm_no sl).trans hl5
      have dl : DpAll K (rm S H5) ys es := dpa_mono out_in h5
      refine ⟨_, rfl, _, _, _, _, dList (mkD T ds), rfl, .ty _, tyx_d (Z g5), kit_ty (k_list _), _, rfl, ite2 (fun e8 => ?_) (fun e8 => ?_)⟩
      · exact ⟨_, rfl, q _ _ (.list es) (g5.le (by omega)) (.lst (.inl (.inl rl)) dl) (ok_lst (by omega) ok5) (by rw [w_mk, PyData.weight]; exact wt5)⟩
      · refine ⟨_, rfl, l, ys, rfl, .inl ⟨.inl (.inl hl5), fun p np => ?_⟩⟩
        obtain ⟨gf, xf, ff⟩ := g5.new (o := .tup ys) np
        exact q _ _ (.tuple es) (gf.le (by omega)) (.tup (.inl (.inl ff)) (dpa_mono xf dl)) (ok_tup (by omega) ok5) (by rw [w_mk, PyData.weight]; exact wt5)
    obtain ⟨rfl, ga⟩ := md
    refine ⟨fun σ' H' => σ' = [some (.ref b), some v, none, none, none] ∧ Gd b S (m + 2) H H', ?_, fun σ' H2 md => ?_⟩
    · refine ⟨_, rfl, _, _, _, _, dInt d, rfl, .ty _, tyx_d (Z ga), kit_ty (k_int d), _, rfl, ite2 (fun e1 => ?_) (fun e1 => ?_)⟩
      rotate_left
      · exact ⟨rfl, ga.le (by omega)⟩
      refine ⟨_, rfl, _, _, _, _, dBool d, rfl, .ty _, tyx_d (Z ga), kit_ty (k_bool d), _, rfl, ite2 (fun e2 => ?_) (fun e2 => ?_)⟩
      rotate_left
      · exact ⟨rfl, ga.le (by omega)⟩
      refine ⟨_, rfl, ?_⟩
      dsimp only [tNil, tC, tCons]
      refine takeR ga.bx (by omega) (by decide) (by decide) fun r H3 r0 r1 k3 b3 => ?_
      obtain ⟨gb, _⟩ := ga.on k3 b3
      refine ⟨_, 0, rfl, rfl, _, rfl, ite2 (fun e3 => ?_) (fun e3 => ?_)⟩
      rotate_left
      · exact ⟨rfl, gb.le (by omega)⟩
      obtain ⟨i, rfl, rfl⟩ : ∃ i : Int, v = .int i ∧ d = .int i := by
        have e4 : dBool d = false := by simpa using e2
        cases hv with
        | int i => exact ⟨i, rfl, rfl⟩
        | bl _ => cases e4
        | non => cases e1
        | str _ => cases e1
        | lst _ _ => cases e1
        | tup _ _ => cases e1
      have hi := okD_int hd
      have lim : (10 : Nat) ^ 30 = 1000000000000000000000000000000 := by decide
      have lim2 : (10 : Nat) ^ 31 = 10000000000000000000000000000000 := by decide
      have hlog : i.natAbs.log2 < 1920 := by
        by_cases z : i.natAbs = 0
        · rw [z]
          decide
        · refine Nat.lt_trans ((Nat.log2_lt (k := 110) z).mpr ?_) (by decide)
          have : (2 : Nat) ^ 110 = 1298074214633706907132624082305024 := by decide
          omega
      refine ⟨_, rfl, i, 1, rfl, rfl, _, rfl, i, 1, rfl, rfl, _, rfl, i, rfl, _, rfl, rfl, _, rfl, i, rfl, hlog, (by show 7 ≤ sizeLine; decide), fun l nl => ?_⟩
      obtain ⟨gc, _, fl⟩ := gb.new (o := .lst [.int (i + 1), .int (i - 1), .int 0, .int (-i), .bl (decide (V.int i = V.int 1)), .str (toString i), .non]) nl
      refine ⟨_, rfl, ?_⟩
      dsimp only [tNil, tC, tCons]
      refine takeR gc.bx (by omega) (by decide) (by decide) fun r H5 r0 r1 k5 b5 => ?_
      obtain ⟨gd, x5⟩ := gc.on k5 b5
      have fl5 := x5 _ _ fl
      obtain ⟨j, rfl⟩ : ∃ j : Nat, r = (j : Int) := ⟨r.toNat, by omega⟩
      have all : DpAll K (rm S H5) [.int (i + 1), .int (i - 1), .int 0, .int (-i), .bl (decide (V.int i = V.int 1)), .str (toString i), .non] [.int (i + 1), .int (i - 1), .int 0, .int (-i), .bool (decide (V.int i = V.int 1)), .str (toString i), .none] :=
        .cons (.int _) (.cons (.int _) (.cons (.int _) (.cons (.int _) (.cons (.bl _) (.cons (.str _) (.cons .non .nil))))))
      have oks : ∀ x ∈ ([.int (i + 1), .int (i - 1), .int 0, .int (-i), .bool (decide (V.int i = V.int 1)), .str (toString i), .none] : List PyData), okD (t + 1) (n + 3) x :=
        m1 (ok_it (by omega)) (m1 (ok_it (by omega)) (m1 (ok_it (by omega)) (m1 (ok_it (by omega)) (m1 ok_bl (m1 (ok_s ((tx_int (k := 31) (by decide) (by omega)).mono (by have := sB_ge t; show 32 ≤ 3 * sB t + 1; omega))) (m1 ok_non m0))))))
      have ws : ∀ y ∈ ([.int (i + 1), .int (i - 1), .int 0, .int (-i), .bool (decide (V.int i = V.int 1)), .str (toString i), .none] : List PyData), y.weight ≤ 9999 :=
        x1 (w_int (by omega)) (x1 (w_int (by omega)) (x1 (w_int (by omega)) (x1 (w_int (by omega)) (x1 w_bool (x1 (w_str (tx_int (k := 31) (by decide) (by omega)) (by decide)) (x1 w_none x0))))))
      have hj : j < ([.int (i + 1), .int (i - 1), .int 0, .int (-i), .bl (decide (V.int i = V.int 1)), .str (toString i), .non] : List V).length := by
        show j < 7
        omega
      have gj := List.getElem?_eq_getElem hj
      obtain ⟨d', kd, jd⟩ := dpa_at all gj
      exact ⟨l, _, _, _, rfl, rfl, .inl (.inl (rm_ex _ _ _ _ fl5)), atI_nat gj, q _ _ d' (gd.le (by omega)) jd (oks d' (List.mem_of_getElem? kd)) (Nat.le_trans (ws d' (List.mem_of_getElem? kd)) (by omega))⟩
    obtain ⟨rfl, gb⟩ := md
    refine ⟨fun σ' H' => σ' = [some (.ref b), some v, none, none, none] ∧ Gd b S (m + 3) H H', ?_, fun σ' H3 md => ?_⟩
    · refine ⟨_, rfl, _, _, _, _, dStr d, rfl, .ty _, tyx_d (Z gb), kit_ty (k_str d), _, rfl, ite2 (fun e1 => ?_) (fun e1 => ?_)⟩
      rotate_left
      · exact ⟨rfl, gb.le (by omega)⟩
      refine ⟨_, rfl, ?_⟩
      dsimp only [tNil, tC, tCons]
      refine takeR gb.bx (by omega) (by decide) (by decide) fun r H3 r0 r1 k3 b3 => ?_
      obtain ⟨gc, _⟩ := gb.on k3 b3
      refine ⟨_, 0, rfl, rfl, _, rfl, ite2 (fun e3 => ?_) (fun e3 => ?_)⟩
      rotate_left
      · exact ⟨rfl, gc.le (by omega)⟩
      obtain ⟨x, rfl, rfl⟩ : ∃ x : Str, v = .str x ∧ d = .str x := by
        cases hv with
        | str x => exact ⟨x, rfl, rfl⟩
        | int i => cases e1
        | bl _ => cases e1
        | non => cases e1
        | lst _ _ => cases e1
        | tup _ _ => cases e1
      have hx := okD_str hd
      have hs : sB t ≤ 3280 := by
        have a : sB t ≤ sB 4 := by
          have c : t = 0 ∨ t = 1 ∨ t = 2 ∨ t = 3 ∨ t = 4 := by omega
          rcases c with rfl | rfl | rfl | rfl | rfl <;> decide
        have : sB 4 = 3280 := by decide
        omega
      have hl : x.length ≤ 4000 := Nat.le_trans hx.len (Nat.le_trans hs (by decide))
      have ss : Tx 1 (Str.ofString "s") := ⟨by decide +kernel, by decide +kernel⟩
      have sp : Tx 1 (Str.ofString " ") := ⟨by decide +kernel, by decide +kernel⟩
      have hz : x.length ≤ sizeLine := Nat.le_trans hl (by decide)
      refine ⟨_, rfl, x, Str.ofString "s", rfl, rfl, Nat.le_trans (Nat.add_le_add hl ss.len) (by decide), ?_⟩
      refine ⟨_, rfl, 1, rfl, x, rfl, hz, ?_⟩
      refine ⟨_, rfl, ⟨_, rfl⟩, x, rfl, rfl, Nat.le_trans hl (by decide), ?_⟩
      refine ⟨_, rfl, x, Str.ofString " ", rfl, rfl, Nat.le_trans (Nat.add_le_add hl sp.len) (by decide), ?_⟩
      refine ⟨_, rfl, (by show 1 ≤ sizeLine; decide), fun p np => ?_⟩
      obtain ⟨gd, _, fp⟩ := gc.new (o := .tup [.str x]) np
      refine ⟨_, rfl, x, rfl, hz, (by show 6 ≤ sizeLine; decide), fun l nl => ?_⟩
      obtain ⟨ge, xl, fl⟩ := gd.new (o := .lst [.str (x ++ Str.ofString "s"), .str (cutS x (some 1) none), .str (Txt.upper x), .str (x ++ Str.ofString " "), .ref p, .str (revS x)]) nl
      have fp5 := xl _ _ fp
      refine ⟨_, rfl, ?_⟩
      dsimp only [tNil, tC, tCons]
      refine takeR ge.bx (by omega) (by decide) (by decide) fun r H5 r0 r1 k5 b5 => ?_
      obtain ⟨gf, x5⟩ := ge.on k5 b5
      have fl5 := x5 _ _ fl
      have fp6 := x5 _ _ fp5
      obtain ⟨j, rfl⟩ : ∃ j : Nat, r = (j : Int) := ⟨r.toNat, by omega⟩
      have all : DpAll K (rm S H5) [.str (x ++ Str.ofString "s"), .str (cutS x (some 1) none), .str (Txt.upper x), .str (x ++ Str.ofString " "), .ref p, .str (revS x)] [.str (x ++ Str.ofString "s"), .str (cutS x (some 1) none), .str (Txt.upper x), .str (x ++ Str.ofString " "), .tuple [.str x], .str (revS x)] :=
        .cons (.str _) (.cons (.str _) (.cons (.str _) (.cons (.str _) (.cons (.tup (.inl (.inl fp6)) (.cons (.str _) .nil)) (.cons (.str _) .nil)))))
      have up : sB t ≤ sB (t + 1) := sB_mono t
      have up2 : sB t + 1 ≤ sB (t + 1) := by show sB t + 1 ≤ 3 * sB t + 1; omega
      have up3 : 3 * sB t ≤ sB (t + 1) := by show 3 * sB t ≤ 3 * sB t + 1; omega
      have oks : ∀ y ∈ ([.str (x ++ Str.ofString "s"), .str (cutS x (some 1) none), .str (Txt.upper x), .str (x ++ Str.ofString " "), .tuple [.str x], .str (revS x)] : List PyData), okD (t + 1) (n + 3) y :=
        m1 (ok_s ((tx_cat hx ss).mono up2)) (m1 (ok_s ((tx_cut hx _ _).mono up)) (m1 (ok_s ((tx_up hx).mono up3)) (m1 (ok_s ((tx_cat hx sp).mono up2)) (m1 (ok_tup (by show 1 ≤ _; omega) (m1 (ok_s (hx.mono up)) m0)) (m1 (ok_s ((tx_rev hx).mono up)) m0)))))
      have ws : ∀ y ∈ ([.str (x ++ Str.ofString "s"), .str (cutS x (some 1) none), .str (Txt.upper x), .str (x ++ Str.ofString " "), .tuple [.str x], .str (revS x)] : List PyData), y.weight ≤ 9999 :=
        x1 (w_str (tx_cat hx ss) (by omega)) (x1 (w_str (tx_cut hx _ _) (by omega)) (x1 (w_str (tx_up hx) (by omega)) (x1 (w_str (tx_cat hx sp) (by omega)) (x1 (by have := w_str hx (k := 4000) (by omega); simp only [PyData.weight, PyData.weightAll] at this ⊢; omega) (x1 (w_str (tx_rev hx) (by omega)) x0)))))
      have hj : j < ([.str (x ++ Str.ofString "s"), .str (cutS x (some 1) none), .str (Txt.upper x), .str (x ++ Str.ofString " "), .ref p, .str (revS x)] : List V).length := by
        show j < 6
        omega
      have gj := List.getElem?_eq_getElem hj
      obtain ⟨d', kd, jd⟩ := dpa_at all gj
      exact ⟨l, _, _, _, rfl, rfl, .inl (.inl (rm_ex _ _ _ _ fl5)), atI_nat gj, q _ _ d' (gf.le (by omega)) jd (oks d' (List.mem_of_getElem? kd)) (Nat.le_trans (ws d' (List.mem_of_getElem? kd)) (by omega))⟩
    obtain ⟨rfl, gc⟩ := md
    refine ⟨_, rfl, b, S, m + 3, rfl, gc.base, by omega, fun v' H' d' g' dp mem => ?_⟩
    have gd : Gd b S (m + 8 * (n + 1)) H H' := ⟨gc.kp.trans g'.kp, g'.bx.le (by omega), g'.sb, g'.has⟩
    exact q v' H' d' gd dp (okD_tl (okD_le (odd_ok d' mem) (by omega)) (by omega)) (Nat.le_trans (odd_w d' mem) (by omega))
end
end Kd
namespace Kd
open PySem PySem.Spec PyProof.Rows L2 Xg
/-- what repr and == ask of data -/
structure Sh (n : Nat) (d : PyData) : Prop where
  sh : d.showable = true
  di : d.hasDict = false
  dp : d.depth ≤ n
  cl : d.canLay0 = true
  lv : d.leavesShort 40 = true
structure ShA (n : Nat) (ds : List PyData) : Prop where
  sh : PyData.showableAll ds = true
  di : PyData.hasDictAll ds = false
  dp : PyData.depthAll ds ≤ n
  cl : PyData.canLayAll0 ds = true
  lv : PyData.leavesShortAll 40 ds = true
theorem sh_all {n : Nat} : ∀ ds : List PyData, (∀ d ∈ ds, Sh n d) → ShA n ds
  | [], _ => ⟨by simp [PyData.showableAll], by simp [PyData.hasDictAll], by simp [PyData.depthAll], by simp [PyData.canLayAll0], by simp [PyData.leavesShortAll]⟩
  | a :: l, h => by
    obtain ⟨g1, g2, g3, g4, g5⟩ := sh_all l fun x hx => h x (List.mem_cons_of_mem _ hx)
    obtain ⟨f1, f2, f3, f4, f5⟩ := h a List.mem_cons_self
    refine ⟨?_, ?_, ?_, ?_, ?_⟩
    · rw [PyData.showableAll, f1, g1]
      rfl
    · rw [PyData.hasDictAll, f2, g2]
      rfl
    · rw [PyData.depthAll]
      exact Nat.max_le.mpr ⟨f3, g3⟩
    · rw [PyData.canLayAll0, f4, g4]
      rfl
    · rw [PyData.leavesShortAll, f5, g5]
      rfl
theorem sh_tup {n : Nat} {ds : List PyData} (h : ∀ d ∈ ds, Sh n d) : Sh (n + 1) (.tuple ds) := by
  obtain ⟨g1, g2, g3, g4, g5⟩ := sh_all ds h
  exact ⟨by rw [PyData.showable]; exact g1, by rw [PyData.hasDict]; exact g2, by rw [PyData.depth]; omega, by rw [PyData.canLay0]; exact g4, by rw [PyData.leavesShort]; exact g5⟩
theorem sh_lst {n : Nat} {ds : List PyData} (h : ∀ d ∈ ds, Sh n d) : Sh (n + 1) (.list ds) := by
  obtain ⟨g1, g2, g3, g4, g5⟩ := sh_all ds h
  exact ⟨by rw [PyData.showable]; exact g1, by rw [PyData.hasDict]; exact g2, by rw [PyData.depth]; omega, by rw [PyData.canLay0]; exact g4, by rw [PyData.leavesShort]; exact g5⟩
theorem sh_int {n : Nat} {i : Int} (h : i.natAbs ≤ 10 ^ 30 + 9) : Sh n (.int i) := by
  have lim : (10 : Nat) ^ 30 = 1000000000000000000000000000000 := by decide
  have lim1 : (10 : Nat) ^ 31 = 10000000000000000000000000000000 := by decide
  have lim2 : (2 : Nat) ^ 110 = 1298074214633706907132624082305024 := by decide
  refine ⟨?_, by simp [PyData.hasDict], by simp [PyData.depth], by simp [PyData.canLay0], ?_⟩
  · rw [PyData.showable]
    by_cases z : i.natAbs = 0
    · rw [z]
      decide
    · exact decide_eq_true (Nat.lt_trans ((Nat.log2_lt (k := 110) z).mpr (by omega)) (by decide))
  · rw [PyData.leavesShort]
    have e := int_text_length_le10 (a := i) (k := 31) (by decide) (by omega)
    refine decide_eq_true ?_
    show (Str.ofString (toString i)).length ≤ 40
    rw [PySem.ofString_length]
    omega
theorem sh_str {n k : Nat} {x : Str} (h : Tx k x) : Sh n (.str x) := by
  refine ⟨by simp [PyData.showable], by simp [PyData.hasDict], by simp [PyData.depth], ?_, ?_⟩
  · rw [PyData.canLay0]
    unfold PyData.strOk
    refine Array.all_eq_true_iff_forall_mem.mpr fun c m => decide_eq_true ?_
    have := h.asc c (Array.mem_toList_iff.mpr m)
    omega
  · rw [PyData.leavesShort]
    refine List.all_eq_true.mpr fun c m => decide_eq_true ?_
    have := h.asc c m
    have e : (16 : Nat) ^ 8 = 4294967296 := by decide
    omega
theorem sh_non {n : Nat} : Sh n .none := ⟨by simp [PyData.showable], by simp [PyData.hasDict], by simp [PyData.depth], by simp [PyData.canLay0], by simp [PyData.leavesShort]⟩
theorem sh_bl {n : Nat} {b : Bool} : Sh n (.bool b) := ⟨by simp [PyData.showable], by simp [PyData.hasDict], by simp [PyData.depth], by simp [PyData.canLay0], by simp [PyData.leavesShort]⟩
theorem okD_sh {t : Nat} (ht : t ≤ 9) : ∀ {n : Nat} {d : PyData}, okD t n d → Sh n d
  | 0, .none, _ => sh_non
  | 0, .bool _, _ => sh_bl
  | 0, .int i, h => sh_int (Nat.le_trans h (by omega))
  | 0, .str _, h => sh_str h
  | 0, .list _, h => h.elim
  | 0, .tuple _, h => h.elim
  | 0, .dict _, h => h.elim
  | _ + 1, .none, _ => sh_non
  | _ + 1, .bool _, _ => sh_bl
  | _ + 1, .int i, h => sh_int (Nat.le_trans h (by omega))
  | _ + 1, .str _, h => sh_str h
  | _ + 1, .list _, h => sh_lst fun d m => okD_sh ht (h.2 d m)
  | _ + 1, .tuple _, h => sh_tup fun d m => okD_sh ht (h.2 d m)
  | _ + 1, .dict _, h => h.elim
theorem okD_shaped {t n : Nat} {d : PyData} (ht : t ≤ 9) (hn : n ≤ 60) (h : okD t n d) : SeqAt.shaped d = true := by
  have g := okD_sh ht h
  unfold SeqAt.shaped
  rw [g.cl, decide_eq_true (Nat.le_trans g.dp (by omega))]
  rfl
theorem okD_wide {t n : Nat} {d : PyData} (ht : t ≤ 9) (h : okD t n d) : wide d := fun ds e => by
  subst e
  cases n with
  | zero => exact h.elim
  | succ n => exact Nat.le_trans h.1 (by omega)
theorem okD_pair {t n : Nat} {d : PyData} (ht : t ≤ 9) (hn : n ≤ 60) (h : okD t n d) : ∀ f r, d = .tuple [f, r] → SeqAt.shaped f = true ∧ wide r := fun f r e => by
  subst e
  cases n with
  | zero => exact h.elim
  | succ n => exact ⟨okD_shaped ht (by omega) (h.2 f (by simp)), okD_wide ht (h.2 r (by simp))⟩
theorem okD_shown {t n : Nat} {d : PyData} (ht : t ≤ 9) (h : okD t n d) (w : d.weight ≤ 100000) : d.shown.length ≤ sizeLine := by
  have e := PyData.shown_le 40 (by decide) d (okD_sh ht h).lv
  rw [sizeLine_eq]
  omega
/-- repr of any data -/
def rReprV (K : PySem.W.Frag) : List V → Hp → VK → Prop := fun xs H Q => ∃ (v : V) (d : PyData), xs = [v] ∧ Dp K H v d ∧ d.showable = true ∧ d.hasDict = false ∧ d.depth ≤ 60 ∧ d.shown.length ≤ sizeLine ∧ Q (.str d.shown) H
theorem call_reprV {X : Cx} (hG : X.A.guards = some []) (hu : X.A.units + 64 < cLine) : CallR X (.builtin "repr") (rReprV X.K) := by
  intro pins s σ H xs us Q I r h
  obtain ⟨v, d, rfl, hd, h1, h2, h3, h4, q⟩ := h
  obtain ⟨u, rfl, rx⟩ := vals1 r
  have ref : ∀ a : Addr, v = .ref a → wpAny (model X.prog X.w) X.A (call (.builtin "repr") [u]) (EP X pins σ Q) X.xe s := fun a e => by
    subst e
    cases rx
    obtain ⟨as, rd⟩ := Dp.reads I d (.ref a) (.ref a) hd rfl
    refine repr_of_reads' rd h1 (fun z => by rw [h2] at z; cases z) hG (by omega) (fun b o e => e) (fun h' u tk hk => ?_) h4
    exact ⟨.str d.shown, H, I.kept (t' := tk) hk, ⟨_, rfl⟩, q⟩
  cases hd with
  | lst _ _ => exact ref _ rfl
  | tup _ _ => exact ref _ rfl
  | non =>
    cases rx
    exact PySem.P.repr_of_none ⟨.str _, H, I.tok _, ⟨_, rfl⟩, q⟩
  | bl c =>
    cases rx
    have e : PyData.shown (.bool c) = (if c = true then Str.ofString "True" else Str.ofString "False") := by cases c <;> rfl
    rw [e] at q
    exact PySem.P.repr_of_bool ⟨.str _, H, I.tok _, ⟨_, rfl⟩, q⟩
  | int i =>
    obtain ⟨t, rfl⟩ := rx
    rw [PyData.showable] at h1
    exact PySem.P.repr_of_int (of_decide_eq_true h1) ⟨.str _, H, I.tok _, ⟨_, rfl⟩, q⟩
  | str x =>
    obtain ⟨t, rfl⟩ := rx
    exact PySem.P.repr_of_str ⟨.str _, H, I.tok _, ⟨_, rfl⟩, q⟩ (hsz := h4)
end Kd
namespace Kd
open PySem PySem.Spec PyProof.Rows L2 Xg
theorem s_right : FnScope ["_law_box_here", "_law_own", "_law_starts", "_law_turn", "_law_item", "_law_kept", "_law_told", "_law_fine"] ["_law_box_here"] (defScope (topS 24)) := ⟨rfl, rfl, rfl, by decide +kernel, rfl, by decide +kernel, by decide +kernel⟩
/-- a def that may be called by keywords, too -/
structure DfK (P : Program) (w : World) (K : PySem.W.Frag) (mg : Str → Option Value) (base : Heap) (x : Str) (ps ks : List Str) (g : {α : Type} → List α → List α) (k : Nat) (sp : Sp) : Prop where
  ex : ∃ (f : Addr) (fd : FuncData), FnOk P w K mg base CX0 k f fd ps sp ∧ mg x = some (.ref f) ∧ PySem.W.keepIn K (.ref f) = true ∧ L2.Binds K fd ps [] ∧ KwOnly K fd ps ks g
theorem DfK.df {P : Program} {w : World} {K : PySem.W.Frag} {mg : Str → Option Value} {base : Heap} {x : Str} {ps ks : List Str} {g : {α : Type} → List α → List α} {k : Nat} {sp : Sp} (D : DfK P w K mg base x ps ks g k sp) : Df P w K mg base x ps k sp :=
  let ⟨f, fd, a, b, c, d, _⟩ := D.ex; ⟨f, fd, a, b, c, d⟩
theorem vals_rev2 {zs : List V} {ws : List Value} (h : Vals zs ws) : Vals zs.reverse ws.reverse := h.reverse
theorem pe_dfk {X : Cx} {x : Str} {ps ks : List Str} {g : {α : Type} → List α → List α} {k : Nat} {sp : Sp} {p pos : Pos} {kws : List Keyword} {tk : TA} (D : DfK X.prog X.w X.K X.mg X.base x ps ks g k sp) (hr : Room k X.A) (hg : Gl X x)
    (hrel : ∀ {zs : List V} {ws : List Value}, Vals zs ws → Vals (g zs) (g ws)) (hkw : PK X kws tk)
    (hall : (backToKw pos (keywordEach kws X.env)).all (·.1.isSome) = true := by rfl) (hks : (backToKw pos (keywordEach kws X.env)).filterMap (·.1) = ks := by rfl)
    (hdb : (x == ("__debug__" : Str)) = false := by decide) (hpl : ((backTo pos (starEach [] X.env)).any (·.1) || (backToKw pos (keywordEach kws X.env)).any (·.1.isNone)) = false := by rfl) :
    PE X (.Call (.Name x p) [] kws pos) (tKw ks.length sp g tk) := by
  obtain ⟨f, fd, G, gm, kp, b, kb⟩ := D.ex
  exact pe_kw G hr hg gm kp kb hrel hkw hall hks hdb hpl
theorem Gd.ex {b : Addr} {S : Addr → Bool} {m : Int} {H H1 H2 : Hp} (g : Gd b S m H H1) (e : Evl.Ex H1 H2) : Gd b S m H H2 := (g.on (Kp.ex e) (g.bx.ex e)).1
theorem sqt_rm {K : PySem.W.Frag} {b a : Addr} {H : Hp} {m : Int} {xs : List V} (h : SqT K H a xs) (hb : Bx H b m) : SqT K (rm (fun c => c == b) H) a xs := by
  obtain ⟨_, _, _, _, _, _, _, _, e⟩ := hb
  rcases h with (h | ⟨o, h⟩) | h
  · have n := ne_of h e fun z => nomatch z
    exact .inl (.inl ((rm_no (by simpa using n)).trans h))
  · have n := ne_of h e fun z => nomatch z
    exact .inl (.inr ⟨o, (rm_no (by simpa using n)).trans h⟩)
  · exact .inr h
theorem gd_one {b : Addr} {H : Hp} {m : Int} (hb : Bx H b m) : Gd b (fun c => c == b) m H H := ⟨Kp.refl _ _, hb, by simp, fun c h x => by
  have e : c = b := by simpa using h
  obtain ⟨_, _, _, _, _, _, _, _, w⟩ := hb
  rw [e, w] at x
  cases x⟩
theorem pickD' {K : PySem.W.Frag} {H : Hp} {vs : List V} {ds : List PyData} {r : Int} (h : DpAll K H vs ds) (r0 : 0 ≤ r) (r1 : r < vs.length) : ∃ v d, atI vs r = some v ∧ Dp K H v d ∧ d ∈ ds := by
  obtain ⟨i, rfl⟩ : ∃ i : Nat, r = (i : Int) := ⟨r.toNat, by omega⟩
  have gi := List.getElem?_eq_getElem (l := vs) (i := i) (by omega)
  obtain ⟨d, kd, jd⟩ := dpa_at h gi
  exact ⟨_, d, atI_nat gi, jd, List.mem_of_getElem? kd⟩
theorem ok_ints {l : List Int} (h : ∀ r ∈ l, 0 ≤ r ∧ r ≤ 1000000000) (n : l.length ≤ 10) : okD 0 1 (.tuple (l.map PyData.int)) ∧ (PyData.tuple (l.map PyData.int)).weight ≤ 410 := by
  have lim : (10 : Nat) ^ 30 = 1000000000000000000000000000000 := by decide
  refine ⟨⟨by rw [List.length_map]; exact n, fun d m => ?_⟩, ?_⟩
  · obtain ⟨i, hi, rfl⟩ := List.mem_map.mp m
    have := h i hi
    exact ok_i (by omega)
  · have := (lf_all PyData.int l (lf_ints h)).2.2.2.2
    rw [PyData.weight]
    omega
theorem ok_opts {l : List (Option Int)} (h : ∀ x ∈ l, ∀ i, x = some i → 0 ≤ i ∧ i ≤ 1000000000) (n : l.length ≤ 10) : okD 0 1 (.tuple (l.map dO)) ∧ (PyData.tuple (l.map dO)).weight ≤ 410 := by
  have lim : (10 : Nat) ^ 30 = 1000000000000000000000000000000 := by decide
  refine ⟨⟨by rw [List.length_map]; exact n, fun d m => ?_⟩, ?_⟩
  · obtain ⟨x, hx, rfl⟩ := List.mem_map.mp m
    cases x with
    | none => exact ok_non
    | some i =>
      have := h _ hx i rfl
      exact ok_i (by omega)
  · have := (lf_all dO l (lf_opts h)).2.2.2.2
    rw [PyData.weight]
    omega
theorem ok_line' {row : Bool} {rooms : List Int} (h : ∀ r ∈ rooms, 0 ≤ r ∧ r ≤ 1000000000) (n : rooms.length ≤ 10) : okD 0 2 (dL row rooms) ∧ (dL row rooms).weight ≤ 500 := by
  obtain ⟨o, w⟩ := ok_ints h n
  have t : Tx 40 (fT row) := by cases row <;> exact tx_lit (by decide +kernel)
  refine ⟨⟨by show 2 ≤ _; omega, m1 (ok_s t) (m1 o m0)⟩, ?_⟩
  have w2 := w_str t (Nat.le_refl 40)
  show (PyData.tuple [.str (fT row), .tuple (rooms.map PyData.int)]).weight ≤ 500
  rw [PyData.weight, PyData.weightAll, PyData.weightAll, PyData.weightAll]
  omega
/-- all that _law_right leans on -/
structure Rf (P : Program) (w : World) (K : PySem.W.Frag) (mg : Str → Option Value) (base : Heap) : Prop where
  N : Names mg
  range : mg "range" = none
  repr : mg "repr" = none
  any : mg "any" = none
  take : Df P w K mg base "_law_take" ["_law_box_here", "_law_bound"] 1 spTake
  same : Df P w K mg base "_law_same" ["_law_found", "_law_due"] 4 (spSame K 3)
  line : Df P w K mg base "_law_line" ["_law_box_here", "_law_most"] 2 (spLine K)
  doors : Df P w K mg base "_law_doors" ["_law_box_here", "_law_own"] 2 (spDoors K)
  lies : Df P w K mg base "_law_lies" ["_law_box_here", "_law_own"] 2 (spLies K)
  oth1 : Df P w K mg base "_law_otherwise" ["_law_box_here", "_law_matter"] 5 (spOth K 2)
  oth2 : Df P w K mg base "_law_otherwise" ["_law_box_here", "_law_matter"] 8 (spOth K 5)
  isLine : DfK P w K mg base "is_line" ["thing"] ["thing"] (fun l => l) 4 (spLineD K)
  isWidths : Df P w K mg base "is_widths" ["line", "thing"] 3 (spWidthsD K)
  isStanding : DfK P w K mg base "is_standing" ["line", "thing"] ["thing", "line"] List.reverse 3 (spStandD K)
  lline : Df P w K mg base "_law_is_line" ["_law_matter"] 2 (spLineD K)
  fit : Df P w K mg base "_law_fit" ["_law_own", "_law_matter"] 2 (spFitD K)
theorem bt_any : bootBuiltins "any" = some (.builtin "any") := by decide +kernel
section
variable {P : Program} {w : World} {K : PySem.W.Frag} {mg : Str → Option Value} {base : Heap}
def spRight : Sp := fun vs H Q _ => ∃ (b : Addr) (m : Int), vs = [.ref b] ∧ Bx H b m ∧ m < 800000000 ∧ ∀ H', Kp b H H' → Bx H' b (m + 800) → Q (.bl true) H'
theorem ok_right {f : Addr} {fd : FuncData} (F : Fun K "_law_right" "_law_right" (topS 24) f fd) (R : Rf P w K mg base) : FnG P w K mg base 9 f fd ["_law_box_here"] spRight := by
  refine okG F s_right (fun vs H Q h => ?_) (fun cdv A outer s H vs Q hG hr h => ?_)
  · obtain ⟨b, m, rfl, _⟩ := h
    rfl
  · obtain ⟨b, m, rfl, hb, hm, q⟩ := h
    refine ⟨_, (pss_cons (ps_set (i := 1) s_right.nd rfl (.inl rfl) (pe_df R.line (hr.mono (by decide)) (by rfl) (pa_cons (pv 0) (pa_cons pe_int pa_nil))))
      (pss_cons (ps_set (i := 2) s_right.nd rfl (.inl rfl) (pe_lst (pa_cons (pv 1) (pa_cons (pe_df R.doors (hr.mono (by decide)) (by rfl) (pa_cons (pv 0) (pa_cons (pv 1) pa_nil))) (pa_cons (pe_df R.lies (hr.mono (by decide)) (by rfl) (pa_cons (pv 0) (pa_cons (pv 1) pa_nil))) pa_nil)))))
      (pss_cons (ps_for PassesOwn.never rfl (pi_range1 (by rfl) R.range (pa_cons pe_int pa_nil)) (pg_name (i := 3) s_right.nd rfl (.inl rfl)) (Evl.pss_cut (ps_set (i := 4) s_right.nd rfl (.inl rfl) (pe_ifExp (pt_cmpR op_lt (pv 3) pe_int (nomark _)) (pe_ix ix_list (pv 2) (pe_op op_mod (pv 3) pe_int) (fun _ _ => rfl)) (pe_df R.oth1 (hr.mono (by decide)) (by rfl) (pa_cons (pv 0) (pa_cons (pe_ix ix_list (pv 2) (pe_df R.take (hr.mono (by decide)) (by rfl) (pa_cons (pv 0) (pa_cons pe_int pa_nil))) (fun _ _ => rfl)) pa_nil)))))
      (Evl.pss_cut (ps_if (pt_cmpR op_eq (pe_df R.take (hr.mono (by decide)) (by rfl) (pa_cons (pv 0) (pa_cons pe_int pa_nil))) pe_int (nomark _)) (pss_one (ps_set (i := 4) s_right.nd rfl (.inl rfl) (pe_df R.oth2 (hr.mono (by decide)) (by rfl) (pa_cons (pv 0) (pa_cons (pv 4) pa_nil))))) pss_nil)
      (pss_cons (ps_set (i := 5) s_right.nd rfl (.inl rfl) (pe_callB (call_reprV hG hr.units) (by rfl) R.repr bt_repr (pa_cons (pv 4) pa_nil)))
      (pss_cons (ps_set (i := 6) s_right.nd rfl (.inl rfl) (pe_lst (pa_cons (pe_df R.isLine.df (hr.mono (by decide)) (by rfl) (pa_cons (pv 4) pa_nil)) (pa_cons (pe_dfk R.isLine (hr.mono (by decide)) (by rfl) (fun h => h) (pk_cons (pv 4) pk_nil)) (pa_cons (pe_df R.isWidths (hr.mono (by decide)) (by rfl) (pa_cons (pv 1) (pa_cons (pv 4) pa_nil))) (pa_cons (pe_df R.isStanding.df (hr.mono (by decide)) (by rfl) (pa_cons (pv 1) (pa_cons (pv 4) pa_nil))) pa_nil))))))
      (pss_cons (ps_set (i := 6) s_right.nd rfl (.inl rfl) (pe_op op_cat (pv 6) (pe_lst (pa_cons (pe_df R.isWidths (hr.mono (by decide)) (by rfl) (pa_cons (pe_lst (pa_cons (pe_ix ix_tup (pv 1) pe_int (fun _ _ => rfl)) (pa_cons (pe_callTy call_list_of (by rfl) R.N.lst bt_lst (pa_cons (pe_ix ix_tup (pv 1) pe_int (fun _ _ => rfl)) pa_nil)) pa_nil))) (pa_cons (pv 4) pa_nil))) (pa_cons (pe_dfk R.isStanding (hr.mono (by decide)) (by rfl) vals_rev2 (pk_cons (pv 4) (pk_cons (pe_tup (pa_cons (pe_ix ix_tup (pv 1) pe_int (fun _ _ => rfl)) (pa_cons (pe_callTy call_list_of (by rfl) R.N.lst bt_lst (pa_cons (pe_ix ix_tup (pv 1) pe_int (fun _ _ => rfl)) pa_nil)) pa_nil))) pk_nil))) pa_nil)))))
      (pss_cons (ps_set (i := 7) s_right.nd rfl (.inl rfl) (pe_df R.lline (hr.mono (by decide)) (by rfl) (pa_cons (pv 4) pa_nil)))
      (pss_one (ps_if (pw_or (pt_not (pt_val (pe_df R.same (hr.mono (by decide)) (by rfl) (pa_cons (pv 6) (pa_cons (pe_op op_cat (pe_lst (pa_cons (pv 7) (pa_cons (pv 7) pa_nil))) (pe_op op_rep (pe_df R.fit (hr.mono (by decide)) (by rfl) (pa_cons (pv 1) (pa_cons (pv 4) pa_nil))) pe_int)) pa_nil))))) (pw_or1 (pt_cmpR op_ne (pe_callB (call_reprV hG hr.units) (by rfl) R.repr bt_repr (pa_cons (pv 4) pa_nil)) (pv 5) (nomark _)))).pt (pss_one (ps_ret pe_bl)) pss_nil)))))))))
      (pss_one (ps_ret (pe_not (pe_callB (cr_any rfl) (by rfl) R.any bt_any (pa_cons (pe_lst (pa_cons (pe_df R.isLine.df (hr.mono (by decide)) (by rfl) (pa_cons (pe_tup (pa_cons pe_str (pa_cons (pe_tup pa_nil) pa_nil))) pa_nil)) (pa_cons (pe_df R.isLine.df (hr.mono (by decide)) (by rfl) (pa_cons (pe_tup (pa_cons pe_str (pa_cons (pe_tup (pa_cons pe_int pa_nil)) pa_nil))) pa_nil)) (pa_cons (pe_df R.isStanding.df (hr.mono (by decide)) (by rfl) (pa_cons (pv 1) (pa_cons (pe_tup pa_nil) pa_nil))) (pa_cons (pe_df R.isWidths (hr.mono (by decide)) (by rfl) (pa_cons (pv 1) (pa_cons (pe_tup pa_nil) pa_nil))) pa_nil))))) pa_nil)))))))), ?_⟩
    refine ⟨_, rfl, b, m, 6, rfl, hb, by omega, by decide, by decide, fun vo H1 row rooms k1 b1 hL hn1 hn2 hp1 => ?_⟩
    have hi : rooms.length ≤ 6 := by omega
    refine ⟨_, rfl, _, rfl, _, rfl, b, _, vo, row, rooms, rfl, b1, by omega, hL, by omega, fun vd H2 ws k2 b2 hT1 hw hwp => ?_⟩
    refine ⟨_, rfl, _, rfl, b, _, vo, row, rooms, rfl, b2, by omega, hL.kp b1 k2, by omega, hp1, fun vl H3 held k3 b3 hT2 hf => ?_⟩
    refine ⟨show 3 ≤ sizeLine by decide, fun l nl => ?_⟩
    have x4 := Evl.Ex.new (o := .lst [vo, vd, vl]) nl
    have b4 := b3.ex x4
    have nb : l ≠ b := b3.ne nl
    have hL4 := ((hL.kp b1 k2).kp b2 k3).mono x4
    have hD4 := (hT1.kp b2 k3).mono x4
    have hl4 := hT2.mono x4
    have kH : Kp b H (upd H3 l (.lst [vo, vd, vl])) := ((k1.trans k2).trans k3).trans (Kp.ex x4)
    have fl : upd H3 l (.lst [vo, vd, vl]) l = some (.lst [vo, vd, vl]) := upd_same
    generalize upd H3 l (.lst [vo, vd, vl]) = H4 at *
    obtain ⟨ao, ar, rfl, hao, har⟩ := hL4
    obtain ⟨ad, rfl, had⟩ := hD4
    obtain ⟨al, rfl, hal⟩ := hl4
    have g4 := gd_one b4
    generalize hS : (fun c : Addr => c == b) = S at g4
    have all4 : DpAll K (rm S H4) [.ref ao, .ref ad, .ref al] [dL row rooms, .tuple (ws.map dO), .tuple (held.map PyData.int)] := by
      rw [← hS]
      exact .cons (.tup (sqt_rm hao b4) (.cons (.str _) (.cons (.tup (sqt_rm har b4) (dp_ints rooms)) .nil))) (.cons (.tup (sqt_rm had b4) (dp_opts ws)) (.cons (.tup (sqt_rm hal b4) (dp_ints held)) .nil))
    have hwl : ws.length ≤ 10 := by
      have : gts row rooms.length ≤ 7 := by cases row <;> simp [gts] <;> omega
      omega
    have hhl : held.length ≤ 10 := by
      have := hf.1
      omega
    have hhb : ∀ r ∈ held, 0 ≤ r ∧ r ≤ 1000000000 := fun r hr' => by
      obtain ⟨j, hj⟩ := List.mem_iff_getElem?.mp hr'
      have hjl : j < rooms.length := by
        have := (List.getElem?_eq_some_iff.mp hj).1
        have := hf.1
        omega
      have e1 := List.getElem?_eq_getElem hjl
      have e2 := hf.2 j r _ hj e1
      have e3 := hp1 _ (List.mem_of_getElem? e1)
      omega
    obtain ⟨o1, w1⟩ := ok_line' (row := row) (rooms := rooms) (fun r hr' => by have := hp1 r hr'; omega) (by omega)
    obtain ⟨o2, w2⟩ := ok_opts hwp hwl
    obtain ⟨o3, w3⟩ := ok_ints hhb hhl
    have oks : ∀ d ∈ [dL row rooms, PyData.tuple (ws.map dO), PyData.tuple (held.map PyData.int)], okD 0 2 d := m1 o1 (m1 (okD_n o2) (m1 (okD_n o3) m0))
    have wts : ∀ d ∈ [dL row rooms, PyData.tuple (ws.map dO), PyData.tuple (held.map PyData.int)], d.weight ≤ 500 := x1 w1 (x1 (by omega) (x1 (by omega) x0))
    have ln : ∀ {H' : Hp} {k : Int}, Gd b S k H4 H' → LnW K true true H' (.ref ao) row rooms := fun g => ⟨ao, ar, rfl, sqt_kp hao b4 g.kp, sqt_kp har b4 g.kp⟩
    refine ⟨8, rfl, by decide, by decide, for_range (lo := 0) (n := 8) (fun i σ H' => ∃ y3 y4 y5 y6 y7 : Option V, σ = [some (.ref b), some (.ref ao), some (.ref l), y3, y4, y5, y6, y7] ∧ Gd b S (m + 60 + 80 * i) H4 H') ⟨none, none, none, none, none, rfl, g4.le (by omega)⟩ (fun i σ H' hi8 pe => ?_) (fun σ H' pe => ?_)⟩
    · obtain ⟨y3, y4, y5, y6, y7, rfl, g⟩ := pe
      refine ⟨fun σ' H'' => ∃ (v : V) (d : PyData), σ' = [some (.ref b), some (.ref ao), some (.ref l), some (.int (0 + (i : Int))), some v, y5, y6, y7] ∧ Gd b S (m + 60 + 80 * i + 25) H4 H'' ∧ Dp K (rm S H'') v d ∧ okD 1 5 d ∧ d.weight ≤ 11000, ?_, fun σ' H5 md => ?_⟩
      · have fl' := g.kp l _ nb fl
        have all' := dpa_mono (kp_rm g.sb g.kp) all4
        refine ⟨_, rfl, _, 3, rfl, rfl, _, rfl, ite2 (fun e1 => ?_) (fun e1 => ?_)⟩
        · have r0 := inRange (i := 0 + (i : Int)) (n := 3) (by decide)
          obtain ⟨v, d, ev, jv, md⟩ := pickD' all' r0.1 r0.2
          exact ⟨_, rfl, _, rfl, _, 3, rfl, rfl, (show (0 : Int) < 3 by decide), l, _, _, v, rfl, rfl, .inl (.inl fl'), ev, v, d, rfl, g.le (by omega), jv, okD_t (okD_le (oks d md) (by omega)), Nat.le_trans (wts d md) (by decide)⟩
        · refine ⟨_, rfl, _, rfl, _, rfl, ?_⟩
          dsimp only [tNil, tC, tCons]
          refine takeR g.bx (by omega) (by decide) (by decide) fun r H6 r0 r1 k6 b6 => ?_
          obtain ⟨g6, x6⟩ := g.on k6 b6
          obtain ⟨v, d, ev, jv, md⟩ := pickD' (dpa_mono x6 all') r0 r1
          refine ⟨l, _, _, v, rfl, rfl, .inl (.inl (k6 l _ nb fl')), ev, b, S, _, v, d, 0, rfl, g6.base, by omega, jv, oks d md, by decide, fun v' H7 d' g7 j7 o7 w7 => ?_⟩
          have wd := wts d md
          exact ⟨v', d', rfl, ⟨g6.kp.trans g7.kp, g7.bx.le (by omega), g7.sb, g7.has⟩, j7, o7, by omega⟩
      obtain ⟨v, d, rfl, g5, j5, o5, w5⟩ := md
      refine ⟨fun σ' H'' => ∃ (v : V) (d : PyData), σ' = [some (.ref b), some (.ref ao), some (.ref l), some (.int (0 + (i : Int))), some v, y5, y6, y7] ∧ Gd b S (m + 60 + 80 * (i + 1)) H4 H'' ∧ Dp K (rm S H'') v d ∧ okD 2 8 d ∧ d.weight ≤ 32000, ?_, fun σ' H6 md => ?_⟩
      · refine ⟨_, rfl, ?_⟩
        dsimp only [tNil, tC, tCons]
        refine takeR g5.bx (by omega) (by decide) (by decide) fun r H6 r0 r1 k6 b6 => ?_
        obtain ⟨g6, x6⟩ := g5.on k6 b6
        have j6 := dp_mono x6 j5
        refine ⟨rfl, _, rfl, ite2 (fun e1 => ?_) (fun e1 => ?_)⟩
        · refine ⟨_, rfl, _, rfl, b, S, _, v, d, 1, rfl, g6.base, by omega, j6, o5, by decide, fun v' H7 d' g7 j7 o7 w7 => ?_⟩
          exact ⟨v', d', rfl, ⟨g6.kp.trans g7.kp, g7.bx.le (by omega), g7.sb, g7.has⟩, j7, o7, by omega⟩
        · exact ⟨v, d, rfl, g6.le (by omega), j6, okD_t (okD_le o5 (by omega)), by omega⟩
      obtain ⟨v, d, rfl, g6, j6, o6, w6⟩ := md
      have sh6 := okD_sh (by decide) o6
      have sw6 := okD_shown (by decide) o6 (Nat.le_trans w6 (by decide))
      have pr6 := okD_pair (by decide) (by decide) o6
      have wi6 := okD_wide (by decide) o6
      have dd : ∀ {H' : Hp}, Evl.Ex H6 H' → Dp K H' v d := fun e => dp_mono ((rm_ex S _).trans e) j6
      have lw : ∀ {H' : Hp}, Evl.Ex H6 H' → LnW K true true H' (.ref ao) row rooms := fun e => (ln g6).mono e
      have so : ∀ {H' : Hp}, Evl.Ex H6 H' → SqT K H' ao [.str (fT row), .ref ar] := fun e => Evl.ex_t e (sqt_kp hao b4 g6.kp)
      have sr : ∀ {H' : Hp}, Evl.Ex H6 H' → SqT K H' ar (rooms.map V.int) := fun e => Evl.ex_t e (sqt_kp har b4 g6.kp)
      refine ⟨_, rfl, v, d, rfl, dd (Evl.Ex.refl _), sh6.sh, sh6.di, Nat.le_trans sh6.dp (by decide), sw6, ?_⟩
      refine ⟨_, rfl, v, d, rfl, dd (Evl.Ex.refl _), pr6, fun H7 x7 => ?_⟩
      refine ⟨_, rfl, rfl, v, d, rfl, dd x7, pr6, fun H8 x8 => ?_⟩
      replace x8 := x7.trans x8
      refine ⟨_, rfl, _, rfl, true, true, _, v, row, rooms, d, rfl, lw x8, dd x8, wi6, fun H9 x9 => ?_⟩
      replace x9 := x8.trans x9
      refine ⟨_, rfl, _, rfl, true, _, v, row, rooms, d, rfl, lw x9, dd x9, wi6, fun H10 x10 => ?_⟩
      replace x10 := x9.trans x10
      refine ⟨show 4 ≤ sizeLine by decide, fun q1 n1 => ?_⟩
      have y1 := Evl.Ex.new (o := .lst [.bl (lineB d), .bl (lineB d), .bl (widthsB (gts row rooms.length) d), .bl (standB rooms d)]) n1
      have f1 : upd H10 q1 (.lst [.bl (lineB d), .bl (lineB d), .bl (widthsB (gts row rooms.length) d), .bl (standB rooms d)]) q1 = some (.lst [.bl (lineB d), .bl (lineB d), .bl (widthsB (gts row rooms.length) d), .bl (standB rooms d)]) := upd_same
      replace y1 := x10.trans y1
      generalize upd H10 q1 (.lst [.bl (lineB d), .bl (lineB d), .bl (widthsB (gts row rooms.length) d), .bl (standB rooms d)]) = H11 at y1 f1 ⊢
      refine ⟨_, rfl, _, rfl, ao, _, 0, _, rfl, rfl, so y1, atI_nat (j := 0) rfl, _, rfl, ao, _, 1, _, rfl, rfl, so y1, atI_nat (j := 1) rfl, ar, _, rfl, .inr (sr y1), fun q2 n2 => ?_⟩
      have y2 := y1.trans (Evl.Ex.new (o := .lst (rooms.map V.int)) n2)
      have f2 := upd_same (H := H11) (a := q2) (o := .lst (rooms.map V.int))
      have f1b := Evl.Ex.new (o := .lst (rooms.map V.int)) n2 _ _ f1
      generalize upd H11 q2 (.lst (rooms.map V.int)) = H12 at y2 f2 f1b ⊢
      refine ⟨show 2 ≤ sizeLine by decide, fun q3 n3 => ?_⟩
      have e3 := Evl.Ex.new (o := .lst [.str (fT row), .ref q2]) n3
      have y3' := y2.trans e3
      have f3 := upd_same (H := H12) (a := q3) (o := .lst [.str (fT row), .ref q2])
      have f2c := e3 _ _ f2
      have f1c := e3 _ _ f1b
      generalize upd H12 q3 (.lst [.str (fT row), .ref q2]) = H13 at y3' f3 f2c f1c ⊢
      refine ⟨_, rfl, false, false, _, v, row, rooms, d, rfl, ⟨q3, q2, rfl, .inl (.inl f3), .inl (.inl f2c)⟩, dd y3', wi6, fun H14 x14 => ?_⟩
      have y4' := y3'.trans x14
      have f1d := x14 _ _ f1c
      refine ⟨_, rfl, _, rfl, ao, _, 0, _, rfl, rfl, so y4', atI_nat (j := 0) rfl, _, rfl, ao, _, 1, _, rfl, rfl, so y4', atI_nat (j := 1) rfl, ar, _, rfl, .inr (sr y4'), fun q4 n4 => ?_⟩
      have e5 := Evl.Ex.new (o := .lst (rooms.map V.int)) n4
      have y5' := y4'.trans e5
      have f4 := upd_same (H := H14) (a := q4) (o := .lst (rooms.map V.int))
      have f1e := e5 _ _ f1d
      generalize upd H14 q4 (.lst (rooms.map V.int)) = H15 at y5' f4 f1e ⊢
      refine ⟨show 2 ≤ sizeLine by decide, fun q5 n5 => ?_⟩
      have e6 := Evl.Ex.new (o := .tup [.str (fT row), .ref q4]) n5
      have y6' := y5'.trans e6
      have f5 := upd_same (H := H15) (a := q5) (o := .tup [.str (fT row), .ref q4])
      have f4b := e6 _ _ f4
      have f1f := e6 _ _ f1e
      generalize upd H15 q5 (.tup [.str (fT row), .ref q4]) = H16 at y6' f5 f4b f1f ⊢
      refine ⟨rfl, false, _, v, row, rooms, d, rfl, ⟨q5, q4, rfl, .inl (.inl f5), .inl (.inl f4b)⟩, dd y6', wi6, fun H17 x17 => ?_⟩
      have y7' := y6'.trans x17
      have f1g := x17 _ _ f1f
      refine ⟨show 2 ≤ sizeLine by decide, fun q6 n6 => ?_⟩
      have e8 := Evl.Ex.new (o := .lst [.bl (widthsB (gts row rooms.length) d), .bl (standB rooms d)]) n6
      have y8 := y7'.trans e8
      have f6 := upd_same (H := H17) (a := q6) (o := .lst [.bl (widthsB (gts row rooms.length) d), .bl (standB rooms d)])
      have f1h := e8 _ _ f1g
      generalize upd H17 q6 (.lst [.bl (widthsB (gts row rooms.length) d), .bl (standB rooms d)]) = H18 at y8 f6 f1h ⊢
      refine ⟨q1, q6, _, _, rfl, rfl, f1h, f6, show 6 ≤ sizeLine by decide, fun q7 n7 => ?_⟩
      have e9 := Evl.Ex.new (o := .lst ([.bl (lineB d), .bl (lineB d), .bl (widthsB (gts row rooms.length) d), .bl (standB rooms d)] ++ [.bl (widthsB (gts row rooms.length) d), .bl (standB rooms d)])) n7
      have y9 := y8.trans e9
      have f7 := upd_same (H := H18) (a := q7) (o := .lst ([.bl (lineB d), .bl (lineB d), .bl (widthsB (gts row rooms.length) d), .bl (standB rooms d)] ++ [.bl (widthsB (gts row rooms.length) d), .bl (standB rooms d)]))
      generalize upd H18 q7 (.lst ([.bl (lineB d), .bl (lineB d), .bl (widthsB (gts row rooms.length) d), .bl (standB rooms d)] ++ [.bl (widthsB (gts row rooms.length) d), .bl (standB rooms d)])) = H19 at y9 f7 ⊢
      refine ⟨_, rfl, v, d, rfl, dd y9, pr6, fun H20 x20 => ?_⟩
      have ya := y9.trans x20
      have f7b := x20 _ _ f7
      refine ⟨_, rfl, _, rfl, _, rfl, show 2 ≤ sizeLine by decide, fun q8 n8 => ?_⟩
      have eb := Evl.Ex.new (o := .lst [.bl (lineB d), .bl (lineB d)]) n8
      have yb := ya.trans eb
      have f8 := upd_same (H := H20) (a := q8) (o := .lst [.bl (lineB d), .bl (lineB d)])
      have f7c := eb _ _ f7b
      generalize upd H20 q8 (.lst [.bl (lineB d), .bl (lineB d)]) = H21 at yb f8 f7c ⊢
      refine ⟨_, rfl, _, rfl, _, v, row, rooms, d, rfl, lw yb, dd yb, wi6, fun q9 H22 x22 f9 => ?_⟩
      have yc := yb.trans x22
      have f8b := x22 _ _ f8
      have f7d := x22 _ _ f7c
      refine ⟨q9, 2, _, rfl, rfl, f9, by decide, by decide, show 2 * (2 : Int).toNat ≤ sizeLine by decide, fun q10 n10 => ?_⟩
      have er : (List.replicate (2 : Int).toNat [V.bl (widthsB (gts row rooms.length) d), V.bl (standB rooms d)]).flatten = [V.bl (widthsB (gts row rooms.length) d), V.bl (standB rooms d), V.bl (widthsB (gts row rooms.length) d), V.bl (standB rooms d)] := rfl
      rw [er]
      have ed := Evl.Ex.new (o := .lst [V.bl (widthsB (gts row rooms.length) d), V.bl (standB rooms d), V.bl (widthsB (gts row rooms.length) d), V.bl (standB rooms d)]) n10
      have yd := yc.trans ed
      have fa := upd_same (H := H22) (a := q10) (o := .lst [V.bl (widthsB (gts row rooms.length) d), V.bl (standB rooms d), V.bl (widthsB (gts row rooms.length) d), V.bl (standB rooms d)])
      have f8c := ed _ _ f8b
      have f7e := ed _ _ f7d
      generalize upd H22 q10 (.lst [V.bl (widthsB (gts row rooms.length) d), V.bl (standB rooms d), V.bl (widthsB (gts row rooms.length) d), V.bl (standB rooms d)]) = H23 at yd fa f8c f7e ⊢
      refine ⟨q8, q10, _, _, rfl, rfl, f8c, fa, show 6 ≤ sizeLine by decide, fun q11 n11 => ?_⟩
      have ee := Evl.Ex.new (o := .lst ([.bl (lineB d), .bl (lineB d)] ++ [V.bl (widthsB (gts row rooms.length) d), V.bl (standB rooms d), V.bl (widthsB (gts row rooms.length) d), V.bl (standB rooms d)])) n11
      have ye := yd.trans ee
      have fb := upd_same (H := H23) (a := q11) (o := .lst ([.bl (lineB d), .bl (lineB d)] ++ [V.bl (widthsB (gts row rooms.length) d), V.bl (standB rooms d), V.bl (widthsB (gts row rooms.length) d), V.bl (standB rooms d)]))
      have f7f := ee _ _ f7e
      generalize upd H23 q11 (.lst ([.bl (lineB d), .bl (lineB d)] ++ [V.bl (widthsB (gts row rooms.length) d), V.bl (standB rooms d), V.bl (widthsB (gts row rooms.length) d), V.bl (standB rooms d)])) = H24 at ye fb f7f ⊢
      have bls : DpAll K H24 [V.bl (lineB d), V.bl (lineB d), V.bl (widthsB (gts row rooms.length) d), V.bl (standB rooms d), V.bl (widthsB (gts row rooms.length) d), V.bl (standB rooms d)] [.bool (lineB d), .bool (lineB d), .bool (widthsB (gts row rooms.length) d), .bool (standB rooms d), .bool (widthsB (gts row rooms.length) d), .bool (standB rooms d)] :=
        .cons (.bl _) (.cons (.bl _) (.cons (.bl _) (.cons (.bl _) (.cons (.bl _) (.cons (.bl _) .nil)))))
      refine ⟨.ref q7, .ref q11, _, rfl, .lst (.inl (.inl f7f)) bls, .lst (.inl (.inl fb)) bls, ?_, fun H25 x25 => ⟨_, rfl, ifN rfl ?_⟩⟩
      · exact shal_lst 2 _ (by show 6 ≤ 1000; decide) fun y hy => by
          rcases List.mem_cons.mp hy with rfl | hy
          · simp [shal]
          rcases List.mem_cons.mp hy with rfl | hy
          · simp [shal]
          rcases List.mem_cons.mp hy with rfl | hy
          · simp [shal]
          rcases List.mem_cons.mp hy with rfl | hy
          · simp [shal]
          rcases List.mem_cons.mp hy with rfl | hy
          · simp [shal]
          rcases List.mem_cons.mp hy with rfl | hy
          · simp [shal]
          cases hy
      have yf := ye.trans x25
      refine ⟨_, rfl, v, d, rfl, dd yf, sh6.sh, sh6.di, Nat.le_trans sh6.dp (by decide), sw6, _, rfl, rfl, _, rfl, ifN ?_ ?_⟩
      · rw [decide_eq_true rfl]
        rfl
      · exact ⟨_, _, _, _, _, rfl, g6.ex yf⟩
    · obtain ⟨y3, y4, y5, y6, y7, rfl, g⟩ := pe
      have pos : 1 ≤ rooms.length := by
        cases row <;> simp at hn1 <;> omega
      have c1 : lineB (.tuple [.str "row", .tuple []]) = false := by decide +kernel
      have c2 : lineB (.tuple [.str "ring", .tuple [.int 1]]) = false := by decide +kernel
      have c3 : standB rooms (.tuple []) = false := by
        rw [standB, decide_eq_false (by show ¬ ((0 : Nat) : Int) = _; omega)]
        rfl
      have c4 : widthsB (gts row rooms.length) (.tuple []) = false := by
        rw [widthsB, decide_eq_false (by show ¬ ((0 : Nat) : Int) = _; cases row <;> simp [gts] <;> omega)]
        rfl
      have pr : ∀ (f r : PyData) (a : PyData) (ds : List PyData), SeqAt.shaped a = true → ds.length ≤ 1000 → PyData.tuple [a, .tuple ds] = .tuple [f, r] → SeqAt.shaped f = true ∧ wide r := fun f r a ds h1 h2 e => by
        cases e
        exact ⟨h1, fun es e => by cases e; exact h2⟩
      refine ⟨show 0 ≤ sizeLine by decide, fun p1 n1 => ⟨show 2 ≤ sizeLine by decide, fun p2 n2 => ?_⟩⟩
      have a1 := Evl.Ex.new (o := .tup []) n1
      have a2 := Evl.Ex.new (o := .tup [.str "row", .ref p1]) n2
      refine ⟨.ref p2, _, rfl, .tup (.inl (.inl upd_same)) (.cons (.str _) (.cons (.tup (.inl (.inl (a2 _ _ upd_same))) .nil) .nil)), fun f r e => pr f r _ _ (shp_S _ (by decide +kernel)) (by decide) e, fun H1 z1 => ?_⟩
      replace z1 := (a1.trans a2).trans z1
      refine ⟨show 1 ≤ sizeLine by decide, fun p3 n3 => ⟨show 2 ≤ sizeLine by decide, fun p4 n4 => ?_⟩⟩
      have a3 := Evl.Ex.new (o := .tup [.int 1]) n3
      have a4 := Evl.Ex.new (o := .tup [.str "ring", .ref p3]) n4
      refine ⟨.ref p4, _, rfl, .tup (.inl (.inl upd_same)) (.cons (.str _) (.cons (.tup (.inl (.inl (a4 _ _ upd_same))) (.cons (.int 1) .nil)) .nil)), fun f r e => pr f r _ _ (shp_S _ (by decide +kernel)) (by decide) e, fun H2 z2 => ?_⟩
      replace z2 := z1.trans ((a3.trans a4).trans z2)
      refine ⟨_, rfl, show 0 ≤ sizeLine by decide, fun p5 n5 => ?_⟩
      have a5 := z2.trans (Evl.Ex.new (o := .tup []) n5)
      refine ⟨true, _, .ref p5, row, rooms, .tuple [], rfl, (ln g).mono a5, .tup (.inl (.inl upd_same)) .nil, (fun es e => by cases e; decide), fun H3 z3 => ?_⟩
      replace z3 := a5.trans z3
      refine ⟨_, rfl, show 0 ≤ sizeLine by decide, fun p6 n6 => ?_⟩
      have a6 := z3.trans (Evl.Ex.new (o := .tup []) n6)
      refine ⟨true, true, _, .ref p6, row, rooms, .tuple [], rfl, (ln g).mono a6, .tup (.inl (.inl upd_same)) .nil, (fun es e => by cases e; decide), fun H4' z4 => ?_⟩
      replace z4 := a6.trans z4
      refine ⟨show 4 ≤ sizeLine by decide, fun p7 n7 => ?_⟩
      rw [c1, c2, c3, c4]
      refine ⟨p7, [false, false, false, false], rfl, .inl (.inl upd_same), _, rfl, ?_⟩
      have gz := g.ex (z4.trans (Evl.Ex.new (o := .lst [.bl false, .bl false, .bl false, .bl false]) n7))
      exact q _ (kH.trans gz.kp) (gz.bx.le (by omega))
end
end Kd
namespace Kd
open PySem PySem.Spec PyProof.Rows L2 Xg
theorem s_law : FnScope ["_law_script", "_law_k", "_law_box_here", "_law_turn"] ["_law_script"] (defScope (topS 25)) := ⟨rfl, rfl, rfl, by decide +kernel, rfl, by decide +kernel, by decide +kernel⟩
theorem bt_max : bootBuiltins "max" = some (.builtin "max") := by decide +kernel
theorem bt_min : bootBuiltins "min" = some (.builtin "min") := by decide +kernel
section
variable {P : Program} {w : World} {K : PySem.W.Frag} {mg : Str → Option Value} {base : Heap}
def spLaw (K : PySem.W.Frag) : Sp := fun vs H Q _ => ∃ (a : Addr) (ns : List Int), vs = [.ref a] ∧ SqL K H a (ns.map V.int) ∧ ns.length ≤ 63 ∧ ∀ H', Q (.bl true) H'
theorem ok_law {f fR : Addr} {fd fdR : FuncData} (F : Fun K "law" "law" (topS 25) f fd) (N : Names mg) (mrg : mg "range" = none) (mmax : mg "max" = none) (mmin : mg "min" = none)
    (DX : Df P w K mg base "_law_box" ["_law_script", "_law_k"] 1 (spBox K)) (GR : FnG P w K mg base 9 fR fdR ["_law_box_here"] spRight) (gR : mg "_law_right" = some (.ref fR)) (kR : PySem.W.keepIn K (.ref fR) = true) (bR : L2.Binds K fdR ["_law_box_here"] []) :
    FnG P w K mg base 10 f fd ["_law_script"] (spLaw K) := by
  refine okG F s_law (fun vs H Q h => ?_) (fun cdv A outer s H vs Q hG hr h => ?_)
  · obtain ⟨a, ns, rfl, _⟩ := h
    rfl
  · obtain ⟨a, ns, rfl, hS, hlen, q⟩ := h
    refine ⟨_, pss_cons (ps_for PassesOwn.never rfl (pi_range1 (by rfl) mrg (pa_cons (pe_callB (call_max2 rfl) (by rfl) mmax bt_max (pa_cons pe_int (pa_cons (pe_callB (call_min2 rfl) (by rfl) mmin bt_min (pa_cons pe_int (pa_cons (pe_callB call_len_seq (by rfl) N.len PySem.boot_len (pa_cons (pv 0) pa_nil)) pa_nil))) pa_nil))) pa_nil)) (pg_name (i := 1) s_law.nd rfl (.inl rfl))
        (pss_cons (ps_set (i := 2) s_law.nd rfl (.inr rfl) (pe_df DX (hr.mono (by decide)) (by rfl) (pa_cons (pv 0) (pa_cons (pv 1) pa_nil))))
        (pss_one (ps_if (pt_not (pt_val (pe_callB (cr_all rfl) (by rfl) N.all bt_all (pa_cons (pe_lc (own := [("_law_turn", 3)]) (g := gName 3) (tt := tYes) rfl s_law.nd (pi_range1 (by rfl) mrg (pa_cons pe_int pa_nil)) (blkOk_by (N := ["_law_script", "_law_k", "_law_box_here", "_law_turn"]) (sc := defScope (topS 25)) (by decide +kernel)) (fun _ _ _ _ _ => pg_name (i := 3) s_law.nd rfl (.inl rfl)) (fun _ _ _ _ _ => pts_nil) (fun _ _ _ _ _ => pe_callG GR hG hr (by rfl) gR kR bR (pa_cons (pv 2) pa_nil))) pa_nil)))) (pss_one (ps_ret pe_bl)) pss_nil))))
      (pss_one (ps_ret pe_bl)), ?_⟩
    refine ⟨_, rfl, a, _, rfl, .inl hS, 3, _, rfl, 1, _, rfl, ?_⟩
    obtain ⟨c, ec⟩ : ∃ c : Int, c = (if (if (((ns.map V.int).length : Nat) : Int) < 3 then (((ns.map V.int).length : Nat) : Int) else 3) > 1 then (if (((ns.map V.int).length : Nat) : Int) < 3 then (((ns.map V.int).length : Nat) : Int) else 3) else 1) := ⟨_, rfl⟩
    have hc : 0 ≤ c ∧ c ≤ 3 := by
      rw [ec]
      split <;> split <;> omega
    rw [← ec]
    refine ⟨c, rfl, by omega, by omega, for_range (lo := 0) (n := c.toNat) (fun i σ H' => ∃ y1 y2 : Option V, σ = [some (.ref a), y1, y2, none] ∧ Evl.Ex H H') ⟨none, none, rfl, Evl.Ex.refl _⟩ (fun i σ H' hi pe => ?_) (fun σ H' pe => q _)⟩
    obtain ⟨y1, y2, rfl, x1⟩ := pe
    refine ⟨_, rfl, _, rfl, a, ns, i, by rw [Int.zero_add], Evl.ex_l x1 hS, by omega, fun p x y np hx hy hy2 => ?_⟩
    have xb := Evl.Ex.new (o := .lst [.int x, .int y, .int 0]) np
    have b0 : Bx (L2.upd H' p (.lst [.int x, .int y, .int 0])) p 0 := ⟨x, y, 0, hx, hy, hy2, by decide, by decide, upd_same⟩
    refine ⟨4, rfl, by decide, by decide, fun D nD => lc_range (lo := 0) (n := 4) (fun j H2 => Kp p (L2.upd H' p (.lst [.int x, .int y, .int 0])) H2 ∧ Bx H2 p (800 * j) ∧ H2 D = some (.lst ((List.replicate j true).map V.bl)))
      ⟨Kp.ex (Evl.Ex.new nD), b0.upd (b0.ne nD), upd_same⟩ (fun j H2 hj pe => ?_) (fun H2 pe => ?_)⟩
    · obtain ⟨k2, b2, hD⟩ := pe
      refine ⟨rfl, ?_⟩
      unfold tYes
      dsimp only
      rw [if_pos rfl]
      refine ⟨_, rfl, p, _, rfl, b2, by omega, fun H3 k3 b3 => ?_⟩
      have nDp := b0.ne nD
      refine ⟨_, k3 D _ nDp hD, ?_, Kp.mut (k2.trans k3) nD, (b3.upd nDp).le (by omega), ?_⟩
      · rw [List.length_map, List.length_replicate]
        exact Evl.sz_lt (by omega)
      · rw [upd_same, List.replicate_succ', List.map_append]
        rfl
    · obtain ⟨k2, b2, hD⟩ := pe
      refine ⟨D, _, rfl, .inl (.inl hD), ?_⟩
      rw [all_yes]
      refine ⟨_, rfl, ifN rfl ?_⟩
      refine ⟨_, _, rfl, fun c o hc' => ?_⟩
      have h1 := x1 c o hc'
      exact k2 c o (ne_of_none h1 np) (xb c o h1)
theorem all_mk {l : PySem.W.OpenLaw} {w : World} {K : PySem.W.Frag} {h : Heap} {mg : Str → Option Value} {fa : Addr} (X : K.In h) (G : h.Ns mainGlobals mg) (hfa : mg "law" = some (.ref fa))
    {tR tG : Tok}
    {f_num : Addr} {od_num an_num : Option Addr} {sl_num : Array (Option Value)} {oc_num kV_num dc_num pm_num cd_num ct_num : Value}
    {f_from : Addr} {od_from an_from : Option Addr} {sl_from : Array (Option Value)} {oc_from kV_from dc_from pm_from cd_from ct_from : Value}
    {f_tup : Addr} {od_tup an_tup : Option Addr} {sl_tup : Array (Option Value)} {oc_tup kV_tup dc_tup pm_tup cd_tup ct_tup : Value}
    {f_isLine : Addr} {od_isLine an_isLine : Option Addr} {sl_isLine : Array (Option Value)} {oc_isLine kV_isLine dc_isLine pm_isLine cd_isLine ct_isLine : Value}
    {f_rooms : Addr} {od_rooms an_rooms : Option Addr} {sl_rooms : Array (Option Value)} {oc_rooms kV_rooms dc_rooms pm_rooms cd_rooms ct_rooms : Value}
    {f_gates : Addr} {od_gates an_gates : Option Addr} {sl_gates : Array (Option Value)} {oc_gates kV_gates dc_gates pm_gates cd_gates ct_gates : Value}
    {f_isWidths : Addr} {od_isWidths an_isWidths : Option Addr} {sl_isWidths : Array (Option Value)} {oc_isWidths kV_isWidths dc_isWidths pm_isWidths cd_isWidths ct_isWidths : Value}
    {f_isStanding : Addr} {od_isStanding an_isStanding : Option Addr} {sl_isStanding : Array (Option Value)} {oc_isStanding kV_isStanding dc_isStanding pm_isStanding cd_isStanding ct_isStanding : Value}
    {f_box : Addr} {od_box an_box : Option Addr} {sl_box : Array (Option Value)} {oc_box kV_box dc_box pm_box cd_box ct_box : Value}
    {f_take : Addr} {od_take an_take : Option Addr} {sl_take : Array (Option Value)} {oc_take kV_take dc_take pm_take cd_take ct_take : Value}
    {f_same : Addr} {od_same an_same : Option Addr} {sl_same : Array (Option Value)} {oc_same kV_same dc_same pm_same cd_same ct_same : Value}
    {f_line : Addr} {od_line an_line : Option Addr} {sl_line : Array (Option Value)} {oc_line kV_line dc_line pm_line cd_line ct_line : Value}
    {f_doors : Addr} {od_doors an_doors : Option Addr} {sl_doors : Array (Option Value)} {oc_doors kV_doors dc_doors pm_doors cd_doors ct_doors : Value}
    {f_lies : Addr} {od_lies an_lies : Option Addr} {sl_lies : Array (Option Value)} {oc_lies kV_lies dc_lies pm_lies cd_lies ct_lies : Value}
    {f_odd : Addr} {od_odd an_odd : Option Addr} {sl_odd : Array (Option Value)} {oc_odd kV_odd dc_odd pm_odd cd_odd ct_odd : Value}
    {f_oth : Addr} {od_oth an_oth : Option Addr} {sl_oth : Array (Option Value)} {oc_oth kV_oth dc_oth pm_oth cd_oth ct_oth : Value}
    {f_lnum : Addr} {od_lnum an_lnum : Option Addr} {sl_lnum : Array (Option Value)} {oc_lnum kV_lnum dc_lnum pm_lnum cd_lnum ct_lnum : Value}
    {f_lline : Addr} {od_lline an_lline : Option Addr} {sl_lline : Array (Option Value)} {oc_lline kV_lline dc_lline pm_lline cd_lline ct_lline : Value}
    {f_fit : Addr} {od_fit an_fit : Option Addr} {sl_fit : Array (Option Value)} {oc_fit kV_fit dc_fit pm_fit cd_fit ct_fit : Value}
    {f_right : Addr} {od_right an_right : Option Addr} {sl_right : Array (Option Value)} {oc_right kV_right dc_right pm_right cd_right ct_right : Value}
    {f_law : Addr} {od_law an_law : Option Addr} {sl_law : Array (Option Value)} {oc_law kV_law dc_law pm_law cd_law ct_law : Value}
    (a_num : PySem.W.nsIn K mainGlobals "is_number" = some (some (.ref f_num))) (l_num : K.lookup f_num = some ⟨oc_num, od_num, .func (PySem.W.fnOf "is_number" "is_number" (defArgs (topS 1)) (defBody (topS 1)) (defScope (topS 1)) .none kV_num dc_num pm_num an_num cd_num ct_num), sl_num⟩) (c_num : PySem.W.codeIn K cd_num "is_number" = true) (k_num : PySem.W.keepIn K (.ref f_num) = true)
    (a_from : PySem.W.nsIn K mainGlobals "is_number_from" = some (some (.ref f_from))) (l_from : K.lookup f_from = some ⟨oc_from, od_from, .func (PySem.W.fnOf "is_number_from" "is_number_from" (defArgs (topS 2)) (defBody (topS 2)) (defScope (topS 2)) .none kV_from dc_from pm_from an_from cd_from ct_from), sl_from⟩) (c_from : PySem.W.codeIn K cd_from "is_number_from" = true) (k_from : PySem.W.keepIn K (.ref f_from) = true)
    (a_tup : PySem.W.nsIn K mainGlobals "is_tuple_of" = some (some (.ref f_tup))) (l_tup : K.lookup f_tup = some ⟨oc_tup, od_tup, .func (PySem.W.fnOf "is_tuple_of" "is_tuple_of" (defArgs (topS 3)) (defBody (topS 3)) (defScope (topS 3)) .none kV_tup dc_tup pm_tup an_tup cd_tup ct_tup), sl_tup⟩) (c_tup : PySem.W.codeIn K cd_tup "is_tuple_of" = true) (k_tup : PySem.W.keepIn K (.ref f_tup) = true)
    (a_isLine : PySem.W.nsIn K mainGlobals "is_line" = some (some (.ref f_isLine))) (l_isLine : K.lookup f_isLine = some ⟨oc_isLine, od_isLine, .func (PySem.W.fnOf "is_line" "is_line" (defArgs (topS 7)) (defBody (topS 7)) (defScope (topS 7)) .none kV_isLine dc_isLine pm_isLine an_isLine cd_isLine ct_isLine), sl_isLine⟩) (c_isLine : PySem.W.codeIn K cd_isLine "is_line" = true) (k_isLine : PySem.W.keepIn K (.ref f_isLine) = true)
    (a_rooms : PySem.W.nsIn K mainGlobals "are_rooms" = some (some (.ref f_rooms))) (l_rooms : K.lookup f_rooms = some ⟨oc_rooms, od_rooms, .func (PySem.W.fnOf "are_rooms" "are_rooms" (defArgs (topS 8)) (defBody (topS 8)) (defScope (topS 8)) .none kV_rooms dc_rooms pm_rooms an_rooms cd_rooms ct_rooms), sl_rooms⟩) (c_rooms : PySem.W.codeIn K cd_rooms "are_rooms" = true) (k_rooms : PySem.W.keepIn K (.ref f_rooms) = true)
    (a_gates : PySem.W.nsIn K mainGlobals "gates" = some (some (.ref f_gates))) (l_gates : K.lookup f_gates = some ⟨oc_gates, od_gates, .func (PySem.W.fnOf "gates" "gates" (defArgs (topS 9)) (defBody (topS 9)) (defScope (topS 9)) .none kV_gates dc_gates pm_gates an_gates cd_gates ct_gates), sl_gates⟩) (c_gates : PySem.W.codeIn K cd_gates "gates" = true) (k_gates : PySem.W.keepIn K (.ref f_gates) = true)
    (a_isWidths : PySem.W.nsIn K mainGlobals "is_widths" = some (some (.ref f_isWidths))) (l_isWidths : K.lookup f_isWidths = some ⟨oc_isWidths, od_isWidths, .func (PySem.W.fnOf "is_widths" "is_widths" (defArgs (topS 10)) (defBody (topS 10)) (defScope (topS 10)) .none kV_isWidths dc_isWidths pm_isWidths an_isWidths cd_isWidths ct_isWidths), sl_isWidths⟩) (c_isWidths : PySem.W.codeIn K cd_isWidths "is_widths" = true) (k_isWidths : PySem.W.keepIn K (.ref f_isWidths) = true)
    (a_isStanding : PySem.W.nsIn K mainGlobals "is_standing" = some (some (.ref f_isStanding))) (l_isStanding : K.lookup f_isStanding = some ⟨oc_isStanding, od_isStanding, .func (PySem.W.fnOf "is_standing" "is_standing" (defArgs (topS 11)) (defBody (topS 11)) (defScope (topS 11)) .none kV_isStanding dc_isStanding pm_isStanding an_isStanding cd_isStanding ct_isStanding), sl_isStanding⟩) (c_isStanding : PySem.W.codeIn K cd_isStanding "is_standing" = true) (k_isStanding : PySem.W.keepIn K (.ref f_isStanding) = true)
    (a_box : PySem.W.nsIn K mainGlobals "_law_box" = some (some (.ref f_box))) (l_box : K.lookup f_box = some ⟨oc_box, od_box, .func (PySem.W.fnOf "_law_box" "_law_box" (defArgs (topS 13)) (defBody (topS 13)) (defScope (topS 13)) .none kV_box dc_box pm_box an_box cd_box ct_box), sl_box⟩) (c_box : PySem.W.codeIn K cd_box "_law_box" = true) (k_box : PySem.W.keepIn K (.ref f_box) = true)
    (a_take : PySem.W.nsIn K mainGlobals "_law_take" = some (some (.ref f_take))) (l_take : K.lookup f_take = some ⟨oc_take, od_take, .func (PySem.W.fnOf "_law_take" "_law_take" (defArgs (topS 14)) (defBody (topS 14)) (defScope (topS 14)) .none kV_take dc_take pm_take an_take cd_take ct_take), sl_take⟩) (c_take : PySem.W.codeIn K cd_take "_law_take" = true) (k_take : PySem.W.keepIn K (.ref f_take) = true)
    (a_same : PySem.W.nsIn K mainGlobals "_law_same" = some (some (.ref f_same))) (l_same : K.lookup f_same = some ⟨oc_same, od_same, .func (PySem.W.fnOf "_law_same" "_law_same" (defArgs (topS 15)) (defBody (topS 15)) (defScope (topS 15)) .none kV_same dc_same pm_same an_same cd_same ct_same), sl_same⟩) (c_same : PySem.W.codeIn K cd_same "_law_same" = true) (k_same : PySem.W.keepIn K (.ref f_same) = true)
    (a_line : PySem.W.nsIn K mainGlobals "_law_line" = some (some (.ref f_line))) (l_line : K.lookup f_line = some ⟨oc_line, od_line, .func (PySem.W.fnOf "_law_line" "_law_line" (defArgs (topS 16)) (defBody (topS 16)) (defScope (topS 16)) .none kV_line dc_line pm_line an_line cd_line ct_line), sl_line⟩) (c_line : PySem.W.codeIn K cd_line "_law_line" = true) (k_line : PySem.W.keepIn K (.ref f_line) = true)
    (a_doors : PySem.W.nsIn K mainGlobals "_law_doors" = some (some (.ref f_doors))) (l_doors : K.lookup f_doors = some ⟨oc_doors, od_doors, .func (PySem.W.fnOf "_law_doors" "_law_doors" (defArgs (topS 17)) (defBody (topS 17)) (defScope (topS 17)) .none kV_doors dc_doors pm_doors an_doors cd_doors ct_doors), sl_doors⟩) (c_doors : PySem.W.codeIn K cd_doors "_law_doors" = true) (k_doors : PySem.W.keepIn K (.ref f_doors) = true)
    (a_lies : PySem.W.nsIn K mainGlobals "_law_lies" = some (some (.ref f_lies))) (l_lies : K.lookup f_lies = some ⟨oc_lies, od_lies, .func (PySem.W.fnOf "_law_lies" "_law_lies" (defArgs (topS 18)) (defBody (topS 18)) (defScope (topS 18)) .none kV_lies dc_lies pm_lies an_lies cd_lies ct_lies), sl_lies⟩) (c_lies : PySem.W.codeIn K cd_lies "_law_lies" = true) (k_lies : PySem.W.keepIn K (.ref f_lies) = true)
    (a_odd : PySem.W.nsIn K mainGlobals "_law_odd" = some (some (.ref f_odd))) (l_odd : K.lookup f_odd = some ⟨oc_odd, od_odd, .func (PySem.W.fnOf "_law_odd" "_law_odd" (defArgs (topS 19)) (defBody (topS 19)) (defScope (topS 19)) .none kV_odd dc_odd pm_odd an_odd cd_odd ct_odd), sl_odd⟩) (c_odd : PySem.W.codeIn K cd_odd "_law_odd" = true) (k_odd : PySem.W.keepIn K (.ref f_odd) = true)
    (a_oth : PySem.W.nsIn K mainGlobals "_law_otherwise" = some (some (.ref f_oth))) (l_oth : K.lookup f_oth = some ⟨oc_oth, od_oth, .func (PySem.W.fnOf "_law_otherwise" "_law_otherwise" (defArgs (topS 20)) (defBody (topS 20)) (defScope (topS 20)) .none kV_oth dc_oth pm_oth an_oth cd_oth ct_oth), sl_oth⟩) (c_oth : PySem.W.codeIn K cd_oth "_law_otherwise" = true) (k_oth : PySem.W.keepIn K (.ref f_oth) = true)
    (a_lnum : PySem.W.nsIn K mainGlobals "_law_is_number" = some (some (.ref f_lnum))) (l_lnum : K.lookup f_lnum = some ⟨oc_lnum, od_lnum, .func (PySem.W.fnOf "_law_is_number" "_law_is_number" (defArgs (topS 21)) (defBody (topS 21)) (defScope (topS 21)) .none kV_lnum dc_lnum pm_lnum an_lnum cd_lnum ct_lnum), sl_lnum⟩) (c_lnum : PySem.W.codeIn K cd_lnum "_law_is_number" = true) (k_lnum : PySem.W.keepIn K (.ref f_lnum) = true)
    (a_lline : PySem.W.nsIn K mainGlobals "_law_is_line" = some (some (.ref f_lline))) (l_lline : K.lookup f_lline = some ⟨oc_lline, od_lline, .func (PySem.W.fnOf "_law_is_line" "_law_is_line" (defArgs (topS 22)) (defBody (topS 22)) (defScope (topS 22)) .none kV_lline dc_lline pm_lline an_lline cd_lline ct_lline), sl_lline⟩) (c_lline : PySem.W.codeIn K cd_lline "_law_is_line" = true) (k_lline : PySem.W.keepIn K (.ref f_lline) = true)
    (a_fit : PySem.W.nsIn K mainGlobals "_law_fit" = some (some (.ref f_fit))) (l_fit : K.lookup f_fit = some ⟨oc_fit, od_fit, .func (PySem.W.fnOf "_law_fit" "_law_fit" (defArgs (topS 23)) (defBody (topS 23)) (defScope (topS 23)) .none kV_fit dc_fit pm_fit an_fit cd_fit ct_fit), sl_fit⟩) (c_fit : PySem.W.codeIn K cd_fit "_law_fit" = true) (k_fit : PySem.W.keepIn K (.ref f_fit) = true)
    (a_right : PySem.W.nsIn K mainGlobals "_law_right" = some (some (.ref f_right))) (l_right : K.lookup f_right = some ⟨oc_right, od_right, .func (PySem.W.fnOf "_law_right" "_law_right" (defArgs (topS 24)) (defBody (topS 24)) (defScope (topS 24)) .none kV_right dc_right pm_right an_right cd_right ct_right), sl_right⟩) (c_right : PySem.W.codeIn K cd_right "_law_right" = true) (k_right : PySem.W.keepIn K (.ref f_right) = true)
    (a_law : PySem.W.nsIn K mainGlobals "law" = some (some (.ref f_law))) (l_law : K.lookup f_law = some ⟨oc_law, od_law, .func (PySem.W.fnOf "law" "law" (defArgs (topS 25)) (defBody (topS 25)) (defScope (topS 25)) .none kV_law dc_law pm_law an_law cd_law ct_law), sl_law⟩) (c_law : PySem.W.codeIn K cd_law "law" = true) (k_law : PySem.W.keepIn K (.ref f_law) = true)
    (zR : PySem.W.nsIn K mainGlobals "ROW" = some (some (.str "row" tR))) (zG : PySem.W.nsIn K mainGlobals "RING" = some (some (.str "ring" tG)))
    (z_len : PySem.W.nsIn K mainGlobals "len" = some none)
    (z_abs : PySem.W.nsIn K mainGlobals "abs" = some none)
    (z_int : PySem.W.nsIn K mainGlobals "int" = some none)
    (z_list : PySem.W.nsIn K mainGlobals "list" = some none)
    (z_tuple : PySem.W.nsIn K mainGlobals "tuple" = some none)
    (z_isinstance : PySem.W.nsIn K mainGlobals "isinstance" = some none)
    (z_all : PySem.W.nsIn K mainGlobals "all" = some none)
    (z_any : PySem.W.nsIn K mainGlobals "any" = some none)
    (z_zip : PySem.W.nsIn K mainGlobals "zip" = some none)
    (z_str : PySem.W.nsIn K mainGlobals "str" = some none)
    (z_bool : PySem.W.nsIn K mainGlobals "bool" = some none)
    (z_range : PySem.W.nsIn K mainGlobals "range" = some none)
    (z_repr : PySem.W.nsIn K mainGlobals "repr" = some none)
    (z_max : PySem.W.nsIn K mainGlobals "max" = some none)
    (z_min : PySem.W.nsIn K mainGlobals "min" = some none) :
    ∃ fd : FuncData, (∀ (s : Shared) (v : Value), BindsTo s fd ⟨[v], []⟩ [("_law_script", v)]) ∧ ∀ base : Heap, K.In base → base.Ns mainGlobals mg → FnG l.prog w K mg base 10 fa fd ["_law_script"] (spLaw K) := by
  have e := hfa.symm.trans (PySem.W.mg_of X G a_law)
  cases e
  have F_num := fun_mk (st := topS 1) l_num c_num k_num
  have b_num := F_num.binds (ps := ["thing"]) fun _ _ _ _ _ _ us hl => match us, hl with | [_], _ => rfl
  have g_num := PySem.W.mg_of X G a_num
  have F_from := fun_mk (st := topS 2) l_from c_from k_from
  have b_from := F_from.binds (ps := ["thing", "least"]) fun _ _ _ _ _ _ us hl => match us, hl with | [_, _], _ => rfl
  have g_from := PySem.W.mg_of X G a_from
  have F_tup := fun_mk (st := topS 3) l_tup c_tup k_tup
  have b_tup := F_tup.binds (ps := ["thing", "many"]) fun _ _ _ _ _ _ us hl => match us, hl with | [_, _], _ => rfl
  have g_tup := PySem.W.mg_of X G a_tup
  have F_isLine := fun_mk (st := topS 7) l_isLine c_isLine k_isLine
  have b_isLine := F_isLine.binds (ps := ["thing"]) fun _ _ _ _ _ _ us hl => match us, hl with | [_], _ => rfl
  have g_isLine := PySem.W.mg_of X G a_isLine
  have F_rooms := fun_mk (st := topS 8) l_rooms c_rooms k_rooms
  have b_rooms := F_rooms.binds (ps := ["thing", "least_bins"]) fun _ _ _ _ _ _ us hl => match us, hl with | [_, _], _ => rfl
  have g_rooms := PySem.W.mg_of X G a_rooms
  have F_gates := fun_mk (st := topS 9) l_gates c_gates k_gates
  have b_gates := F_gates.binds (ps := ["line"]) fun _ _ _ _ _ _ us hl => match us, hl with | [_], _ => rfl
  have g_gates := PySem.W.mg_of X G a_gates
  have F_isWidths := fun_mk (st := topS 10) l_isWidths c_isWidths k_isWidths
  have b_isWidths := F_isWidths.binds (ps := ["line", "thing"]) fun _ _ _ _ _ _ us hl => match us, hl with | [_, _], _ => rfl
  have g_isWidths := PySem.W.mg_of X G a_isWidths
  have F_isStanding := fun_mk (st := topS 11) l_isStanding c_isStanding k_isStanding
  have b_isStanding := F_isStanding.binds (ps := ["line", "thing"]) fun _ _ _ _ _ _ us hl => match us, hl with | [_, _], _ => rfl
  have g_isStanding := PySem.W.mg_of X G a_isStanding
  have F_box := fun_mk (st := topS 13) l_box c_box k_box
  have b_box := F_box.binds (ps := ["_law_script", "_law_k"]) fun _ _ _ _ _ _ us hl => match us, hl with | [_, _], _ => rfl
  have g_box := PySem.W.mg_of X G a_box
  have F_take := fun_mk (st := topS 14) l_take c_take k_take
  have b_take := F_take.binds (ps := ["_law_box_here", "_law_bound"]) fun _ _ _ _ _ _ us hl => match us, hl with | [_, _], _ => rfl
  have g_take := PySem.W.mg_of X G a_take
  have F_same := fun_mk (st := topS 15) l_same c_same k_same
  have b_same := F_same.binds (ps := ["_law_found", "_law_due"]) fun _ _ _ _ _ _ us hl => match us, hl with | [_, _], _ => rfl
  have g_same := PySem.W.mg_of X G a_same
  have F_line := fun_mk (st := topS 16) l_line c_line k_line
  have b_line := F_line.binds (ps := ["_law_box_here", "_law_most"]) fun _ _ _ _ _ _ us hl => match us, hl with | [_, _], _ => rfl
  have g_line := PySem.W.mg_of X G a_line
  have F_doors := fun_mk (st := topS 17) l_doors c_doors k_doors
  have b_doors := F_doors.binds (ps := ["_law_box_here", "_law_own"]) fun _ _ _ _ _ _ us hl => match us, hl with | [_, _], _ => rfl
  have g_doors := PySem.W.mg_of X G a_doors
  have F_lies := fun_mk (st := topS 18) l_lies c_lies k_lies
  have b_lies := F_lies.binds (ps := ["_law_box_here", "_law_own"]) fun _ _ _ _ _ _ us hl => match us, hl with | [_, _], _ => rfl
  have g_lies := PySem.W.mg_of X G a_lies
  have F_odd := fun_mk (st := topS 19) l_odd c_odd k_odd
  have b_odd := F_odd.binds (ps := ["_law_box_here"]) fun _ _ _ _ _ _ us hl => match us, hl with | [_], _ => rfl
  have g_odd := PySem.W.mg_of X G a_odd
  have F_oth := fun_mk (st := topS 20) l_oth c_oth k_oth
  have b_oth := F_oth.binds (ps := ["_law_box_here", "_law_matter"]) fun _ _ _ _ _ _ us hl => match us, hl with | [_, _], _ => rfl
  have g_oth := PySem.W.mg_of X G a_oth
  have F_lnum := fun_mk (st := topS 21) l_lnum c_lnum k_lnum
  have b_lnum := F_lnum.binds (ps := ["_law_matter"]) fun _ _ _ _ _ _ us hl => match us, hl with | [_], _ => rfl
  have g_lnum := PySem.W.mg_of X G a_lnum
  have F_lline := fun_mk (st := topS 22) l_lline c_lline k_lline
  have b_lline := F_lline.binds (ps := ["_law_matter"]) fun _ _ _ _ _ _ us hl => match us, hl with | [_], _ => rfl
  have g_lline := PySem.W.mg_of X G a_lline
  have F_fit := fun_mk (st := topS 23) l_fit c_fit k_fit
  have b_fit := F_fit.binds (ps := ["_law_own", "_law_matter"]) fun _ _ _ _ _ _ us hl => match us, hl with | [_, _], _ => rfl
  have g_fit := PySem.W.mg_of X G a_fit
  have F_right := fun_mk (st := topS 24) l_right c_right k_right
  have b_right := F_right.binds (ps := ["_law_box_here"]) fun _ _ _ _ _ _ us hl => match us, hl with | [_], _ => rfl
  have g_right := PySem.W.mg_of X G a_right
  have F_law := fun_mk (st := topS 25) l_law c_law k_law
  have m_len := PySem.W.mg_none_of X G z_len
  have m_abs := PySem.W.mg_none_of X G z_abs
  have m_int := PySem.W.mg_none_of X G z_int
  have m_list := PySem.W.mg_none_of X G z_list
  have m_tuple := PySem.W.mg_none_of X G z_tuple
  have m_isinstance := PySem.W.mg_none_of X G z_isinstance
  have m_all := PySem.W.mg_none_of X G z_all
  have m_any := PySem.W.mg_none_of X G z_any
  have m_zip := PySem.W.mg_none_of X G z_zip
  have m_str := PySem.W.mg_none_of X G z_str
  have m_bool := PySem.W.mg_none_of X G z_bool
  have m_range := PySem.W.mg_none_of X G z_range
  have m_repr := PySem.W.mg_none_of X G z_repr
  have m_max := PySem.W.mg_none_of X G z_max
  have m_min := PySem.W.mg_none_of X G z_min
  refine ⟨PySem.W.fnOf "law" "law" (defArgs (topS 25)) (defBody (topS 25)) (defScope (topS 25)) .none kV_law dc_law pm_law an_law cd_law ct_law, fun s v => .of_eq rfl, fun base _ _ => ?_⟩
  have N : Names mg := ⟨m_isinstance, m_list, m_tuple, m_len, m_all, m_zip, m_str, m_int, m_bool⟩
  have gR : ∃ u, mg "ROW" = some u ∧ L2.RelV (.str "row") u := ⟨_, PySem.W.mg_of X G zR, _, rfl⟩
  have gG : ∃ u, mg "RING" = some u ∧ L2.RelV (.str "ring") u := ⟨_, PySem.W.mg_of X G zG, _, rfl⟩
  have D_num : Df l.prog w K mg base "is_number" ["thing"] 1 (spNumD K) := ⟨_, _, ok_numD F_num N, g_num, F_num.kp, b_num⟩
  have D_from : Df l.prog w K mg base "is_number_from" ["thing", "least"] 2 (spFromD K) := ⟨_, _, ok_fromD F_from D_num, g_from, F_from.kp, b_from⟩
  have D_tup : Df l.prog w K mg base "is_tuple_of" ["thing", "many"] 1 (spTupD K) := ⟨_, _, ok_tupD F_tup N, g_tup, F_tup.kp, b_tup⟩
  have D_rooms : Df l.prog w K mg base "are_rooms" ["thing", "least_bins"] 3 (spRoomsD K) := ⟨_, _, ok_roomsD F_rooms N D_from, g_rooms, F_rooms.kp, b_rooms⟩
  have D_isLine : DfK l.prog w K mg base "is_line" ["thing"] ["thing"] (fun l => l) 4 (spLineD K) := ⟨_, _, ok_lineD F_isLine N gR gG D_tup D_rooms, g_isLine, F_isLine.kp, b_isLine, fun s ws _ hl => match ws, hl with | [_], _ => .of_eq rfl⟩
  have D_gates : Df l.prog w K mg base "gates" ["line"] 1 (spGatesW K) := ⟨_, _, ok_gatesW F_gates N gR, g_gates, F_gates.kp, b_gates⟩
  have D_isWidths : Df l.prog w K mg base "is_widths" ["line", "thing"] 3 (spWidthsD K) := ⟨_, _, ok_widthsD F_isWidths N D_from D_tup D_gates, g_isWidths, F_isWidths.kp, b_isWidths⟩
  have D_isStanding : DfK l.prog w K mg base "is_standing" ["line", "thing"] ["thing", "line"] List.reverse 3 (spStandD K) := ⟨_, _, ok_standD F_isStanding N D_from D_tup, g_isStanding, F_isStanding.kp, b_isStanding, fun s ws _ hl => match ws, hl with | [_, _], _ => .of_eq rfl⟩
  have D_box : Df l.prog w K mg base "_law_box" ["_law_script", "_law_k"] 1 (spBox K) := ⟨_, _, ok_box F_box m_len m_abs m_int, g_box, F_box.kp, b_box⟩
  have D_take : Df l.prog w K mg base "_law_take" ["_law_box_here", "_law_bound"] 1 spTake := ⟨_, _, ok_take F_take, g_take, F_take.kp, b_take⟩
  have D_same : Df l.prog w K mg base "_law_same" ["_law_found", "_law_due"] 4 (spSame K 3) := ⟨_, _, ok_same F_same b_same g_same N 4, g_same, F_same.kp, b_same⟩
  have D_line : Df l.prog w K mg base "_law_line" ["_law_box_here", "_law_most"] 2 (spLine K) := ⟨_, _, ok_line F_line N m_range D_take, g_line, F_line.kp, b_line⟩
  have D_doors : Df l.prog w K mg base "_law_doors" ["_law_box_here", "_law_own"] 2 (spDoors K) := ⟨_, _, ok_doors F_doors N m_range D_take, g_doors, F_doors.kp, b_doors⟩
  have D_lies : Df l.prog w K mg base "_law_lies" ["_law_box_here", "_law_own"] 2 (spLies K) := ⟨_, _, ok_lies F_lies N D_take, g_lies, F_lies.kp, b_lies⟩
  have D_odd : Df l.prog w K mg base "_law_odd" ["_law_box_here"] 2 (spOdd K) := ⟨_, _, ok_odd F_odd D_take, g_odd, F_odd.kp, b_odd⟩
  have D_oth1 : Df l.prog w K mg base "_law_otherwise" ["_law_box_here", "_law_matter"] 5 (spOth K 2) := ⟨_, _, ok_oth F_oth b_oth g_oth N D_take D_odd 3, g_oth, F_oth.kp, b_oth⟩
  have D_oth2 : Df l.prog w K mg base "_law_otherwise" ["_law_box_here", "_law_matter"] 8 (spOth K 5) := ⟨_, _, ok_oth F_oth b_oth g_oth N D_take D_odd 6, g_oth, F_oth.kp, b_oth⟩
  have D_lnum : Df l.prog w K mg base "_law_is_number" ["_law_matter"] 1 (spNumD K) := ⟨_, _, ok_lnum F_lnum N, g_lnum, F_lnum.kp, b_lnum⟩
  have D_lline : Df l.prog w K mg base "_law_is_line" ["_law_matter"] 2 (spLineD K) := ⟨_, _, ok_lline F_lline N D_lnum, g_lline, F_lline.kp, b_lline⟩
  have D_fit : Df l.prog w K mg base "_law_fit" ["_law_own", "_law_matter"] 2 (spFitD K) := ⟨_, _, ok_fitD F_fit N D_lnum, g_fit, F_fit.kp, b_fit⟩
  have R : Rf l.prog w K mg base := ⟨N, m_range, m_repr, m_any, D_take, D_same, D_line, D_doors, D_lies, D_oth1, D_oth2, D_isLine, D_isWidths, D_isStanding, D_lline, D_fit⟩
  exact ok_law F_law N m_range m_max m_min D_box (ok_right F_right R) g_right F_right.kp b_right
end
end Kd
open PySem PySem.W PyProof.Rows
set_option maxHeartbeats 0 in
theorem PySem.Challenge.cw_forthback_k00_lines_widths_standings_or_holds : PySem.Challenge.rw_forthback_k00_lines_widths_standings_or.Holds := by
  w_on; o_law; k_head; (case hw => w_witness2)
  k_fill
  refine Xg.walkG (l := PySem.Challenge.rw_forthback_k00_lines_widths_standings_or) (n := 63) (k := 10) (x := "_law_script") (sp := fun w => Kd.spLaw _) rfl (by decide) rfl ⟨rfl, by decide, by decide⟩ (fun w h Y => PySem.W.kIn_of Y) ?F (fun _ _ a ns hl _ hS => ⟨a, ns, rfl, hS, hl, fun _ => rfl⟩)
  case F =>
    intro w mg fa h KX G hmg
    refine' Kd.all_mk KX G hmg ?a_num ?l_num ?c_num ?k_num ?a_from ?l_from ?c_from ?k_from ?a_tup ?l_tup ?c_tup ?k_tup ?a_isLine ?l_isLine ?c_isLine ?k_isLine ?a_rooms ?l_rooms ?c_rooms ?k_rooms ?a_gates ?l_gates ?c_gates ?k_gates ?a_isWidths ?l_isWidths ?c_isWidths ?k_isWidths ?a_isStanding ?l_isStanding ?c_isStanding ?k_isStanding ?a_box ?l_box ?c_box ?k_box ?a_take ?l_take ?c_take ?k_take ?a_same ?l_same ?c_same ?k_same ?a_line ?l_line ?c_line ?k_line ?a_doors ?l_doors ?c_doors ?k_doors ?a_lies ?l_lies ?c_lies ?k_lies ?a_odd ?l_odd ?c_odd ?k_odd ?a_oth ?l_oth ?c_oth ?k_oth ?a_lnum ?l_lnum ?c_lnum ?k_lnum ?a_lline ?l_lline ?c_lline ?k_lline ?a_fit ?l_fit ?c_fit ?k_fit ?a_right ?l_right ?c_right ?k_right ?a_law ?l_law ?c_law ?k_law ?zR ?zG ?z_len ?z_abs ?z_int ?z_list ?z_tuple ?z_isinstance ?z_all ?z_any ?z_zip ?z_str ?z_bool ?z_range ?z_repr ?z_max ?z_min
    (case a_num => k_is)
    (case l_num => k_is)
    (case c_num => k_is)
    (case k_num => k_is)
    (case a_from => k_is)
    (case l_from => k_is)
    (case c_from => k_is)
    (case k_from => k_is)
    (case a_tup => k_is)
    (case l_tup => k_is)
    (case c_tup => k_is)
    (case k_tup => k_is)
    (case a_isLine => k_is)
    (case l_isLine => k_is)
    (case c_isLine => k_is)
    (case k_isLine => k_is)
    (case a_rooms => k_is)
    (case l_rooms => k_is)
    (case c_rooms => k_is)
    (case k_rooms => k_is)
    (case a_gates => k_is)
    (case l_gates => k_is)
    (case c_gates => k_is)
    (case k_gates => k_is)
    (case a_isWidths => k_is)
    (case l_isWidths => k_is)
    (case c_isWidths => k_is)
    (case k_isWidths => k_is)
    (case a_isStanding => k_is)
    (case l_isStanding => k_is)
    (case c_isStanding => k_is)
    (case k_isStanding => k_is)
    (case a_box => k_is)
    (case l_box => k_is)
    (case c_box => k_is)
    (case k_box => k_is)
    (case a_take => k_is)
    (case l_take => k_is)
    (case c_take => k_is)
    (case k_take => k_is)
    (case a_same => k_is)
    (case l_same => k_is)
    (case c_same => k_is)
    (case k_same => k_is)
    (case a_line => k_is)
    (case l_line => k_is)
    (case c_line => k_is)
    (case k_line => k_is)
    (case a_doors => k_is)
    (case l_doors => k_is)
    (case c_doors => k_is)
    (case k_doors => k_is)
    (case a_lies => k_is)
    (case l_lies => k_is)
    (case c_lies => k_is)
    (case k_lies => k_is)
    (case a_odd => k_is)
    (case l_odd => k_is)
    (case c_odd => k_is)
    (case k_odd => k_is)
    (case a_oth => k_is)
    (case l_oth => k_is)
    (case c_oth => k_is)
    (case k_oth => k_is)
    (case a_lnum => k_is)
    (case l_lnum => k_is)
    (case c_lnum => k_is)
    (case k_lnum => k_is)
    (case a_lline => k_is)
    (case l_lline => k_is)
    (case c_lline => k_is)
    (case k_lline => k_is)
    (case a_fit => k_is)
    (case l_fit => k_is)
    (case c_fit => k_is)
    (case k_fit => k_is)
    (case a_right => k_is)
    (case l_right => k_is)
    (case c_right => k_is)
    (case k_right => k_is)
    (case a_law => k_is)
    (case l_law => k_is)
    (case c_law => k_is)
    (case k_law => k_is)
    (case zR => k_is)
    (case zG => k_is)
    (case z_len => k_is)
    (case z_abs => k_is)
    (case z_int => k_is)
    (case z_list => k_is)
    (case z_tuple => k_is)
    (case z_isinstance => k_is)
    (case z_all => k_is)
    (case z_any => k_is)
    (case z_zip => k_is)
    (case z_str => k_is)
    (case z_bool => k_is)
    (case z_range => k_is)
    (case z_repr => k_is)
    (case z_max => k_is)
    (case z_min => k_is)
