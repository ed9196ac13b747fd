import PyProof.Rows.All
import Wide.All
import OpenK.AllK
import Wide.FinOn
import KE.KIsAll
import PyProof.ReprRoads
import PyProof.StrBlock2
import HandS.ForMost
import HandS.IsInst
import HandS.Exc
import HandS.ExcInit
import HandS.ExcField
import HandS.ExcIs
import HandS.TryOnly
import HandS.WordsExc
import HandS.Defaults
import HandS.MakeKw
import HandS.MakeKwOnly
import HandS.ExcInitHot
import HandS.HotCalls
import HandS.Zip
import HandS.Comp
import HandS.ExcCtx
import PySem.Challenge.RW_wordbench_k17_refusals_apart
import HandS.Walk
import HandS.ExcOwn
import HandS.List
import PyProof.EqKinds
set_option Elab.async false
set_option linter.all false
set_option maxRecDepth 100000
set_option maxHeartbeats 4000000
namespace WG
open PySem PySem.Spec PyProof.Rows L2
/-! ### a def's promise where no repr is under way -/
structure GOk (P : Program) (w : World) (K : PySem.W.Frag) (mg : Str → Option Value) (base : Heap) (CX : CXT) (k : Nat) (f : Addr) (fd : FuncData) (ps : List Str) (sp : Sp) : Prop where
  len : ∀ vs H Q E, sp vs H Q E → vs.length = ps.length
  run : ∀ (A : Around) (outer : List Env) (s : Shared) (H : Hp) (args : Args) (us : List Value) (vs : List V) (Q : VK) (E : XK), A.guards = some [] → Room k A → Env0 P w K mg base A outer s H →
    BindsTo s fd args (ps.zip us) → Vals vs us → sp vs H Q E → codeAny (model P w) A (.call (.ref f) args) (CR CX outer P w H s Q E) s
theorem GOk.of {P : Program} {w : World} {K : PySem.W.Frag} {mg : Str → Option Value} {base : Heap} {CX : CXT} {k : Nat} {f : Addr} {fd : FuncData} {ps : List Str} {sp : Sp} (F : FnOk P w K mg base CX k f fd ps sp) : GOk P w K mg base CX k f fd ps sp :=
  ⟨F.len, fun A o s H args us vs Q E _ => F.run A o s H args us vs Q E⟩
section
variable {CX : CXT} {P : Program} {w : World} {K : PySem.W.Frag} {mg : Str → Option Value} {base : Heap} {k : Nat} {f : Addr} {N ps : List Str} {sp : Sp}
theorem gfn_of {name qual : Str} {params : Arguments} {body : List Stmt} {scope : Scope} {dV kV doc pm cdv ct oc : Value} {an od : Option Addr} {osl : Array (Option Value)}
    (lk : K.lookup f = some ⟨oc, od, .func (PySem.W.fnOf name qual params body scope dV kV doc pm an cdv ct), osl⟩) (hcd : PySem.W.codeIn K cdv qual = true) (S : FnScope N ps scope) (len : ∀ vs H Q E, sp vs H Q E → vs.length = ps.length)
    (hbody : ∀ (A : Around) (outer : List Env) (s : Shared) (H : Hp) (vs : List V) (Q : VK) (E : XK), A.guards = some [] → Room k (A.deeper (envOfC qual scope s.heap.objs.size f cdv)) → sp vs H Q E →
      ∃ t, PSs (cxOf CX P w K mg base N qual scope f cdv A outer s H E) body t ∧ t { nx := fun _ H' => Q .non H', rt := Q } (L2.start N vs) H) :
    GOk P w K mg base CX (k + 1) f (PySem.W.fnOf name qual params body scope dV kV doc pm an cdv ct) ps sp := by
  refine ⟨len, fun A outer s H args us vs Q E hgd room env bnd rel want => ?_⟩
  have hlen := len _ _ _ _ want
  have kin : K.In s.heap := env.mod.kin.keeps fun b o q => (env.bs b o q).1
  have nolim : s.heap.NoLimit := env.mod.nolimit.keeps fun b o q => (env.bs b o q).1
  have kinds : ∀ y ∈ ps.zip us, scope.names.lookup y.1 = some .local ∨ (scope.names.lookup y.1 = some .cell ∧ ((cellsFrom (s.heap.objs.size + 1) scope.names []).lookup y.1).isSome = true) := by
    intro y hy
    obtain ⟨n, v⟩ := y
    cases S.par n (List.of_mem_zip hy).1 with
    | inl z => exact .inl z
    | inr z => exact .inr ⟨z, PySem.W.cellsFrom_some _ _ _ (.inl z)⟩
  refine codeAny_call_function room.depth (kin _ _ lk) rfl S.co S.gen rfl (PySem.W.codeRec_of kin hcd) (bnd _ _ _ _ ?_)
  refine wpAny_newFunctionEnv_cells S.kind kinds fun e2 he2 s1 hx => ?_
  subst he2
  refine ⟨nolim.keeps hx.toInCall.keep, codeAny_func ?_⟩
  obtain ⟨t, tb, tq⟩ := hbody A outer s H vs Q E hgd (room.deeper _) want
  have I : Inv (cxOf CX P w K mg base N qual scope f cdv A outer s H E) [] (L2.start N vs) H s1 := inv_start S room.hd env hlen rel hx
  refine wpAny_mono (tb.run [] s1 (L2.start N vs) H _ I tq) (fun fl s' hs => ?_) fun e s' hs => hs
  cases fl with
  | ret u =>
    obtain ⟨v, _, H', J, rv, q⟩ := hs
    exact ⟨v, H', J.os, J.bare, J.base, J.hok, rv, q⟩
  | next =>
    obtain ⟨_, H', J, q⟩ := hs
    exact ⟨V.non, H', J.os, J.bare, J.base, J.hok, rfl, q⟩
  | brk =>
    obtain ⟨_, _, _, q⟩ := hs
    exact False.elim q
  | cont =>
    obtain ⟨_, _, _, q⟩ := hs
    exact False.elim q
theorem gfun_ok {x qual : Str} {st : Stmt} {fd : FuncData} (F : Fun K x qual st f fd) (S : FnScope N ps (defScope st)) (len : ∀ vs H Q E, sp vs H Q E → vs.length = ps.length)
    (hbody : ∀ (cdv : Value) (A : Around) (outer : List Env) (s : Shared) (H : Hp) (vs : List V) (Q : VK) (E : XK), A.guards = some [] → Room k (A.deeper (envOfC qual (defScope st) s.heap.objs.size f cdv)) → sp vs H Q E →
      ∃ t, PSs (cxOf CX P w K mg base N qual (defScope st) f cdv A outer s H E) (defBody st) t ∧ t { nx := fun _ H' => Q .non H', rt := Q } (L2.start N vs) H) : GOk P w K mg base CX (k + 1) f fd ps sp := by
  obtain ⟨oc, od, kV, doc, pm, an, cdv, ct, osl, rfl, lk, hcd⟩ := F.ex
  exact gfn_of lk hcd S len fun A outer s H vs Q E hg hr hsp => hbody cdv A outer s H vs Q E hg hr hsp
end
section
variable {X : Cx} {CX : CXT} {k : Nat} {f : Addr} {fd : FuncData} {ps : List Str} {sp : Sp} {E : XK} {x : Str} {p pos : Pos} {e : Expr} {es : List Expr} {t : TA}
theorem pe_callG (F : GOk X.prog X.w X.K X.mg X.base CX k f fd ps sp) (hgd : X.A.guards = some []) (hr : Room k X.A) (hg : Gl X x) (hm : X.mg x = some (.ref f)) (hk : PySem.W.keepIn X.K (.ref f) = true) (hb : Binds X.K fd ps []) (hx : Passes CX X E)
    (ha : PA X (e :: es) t) (hdb : (x == ("__debug__" : Str)) = false := by decide) (he : starEach (e :: es) X.env = (false, eval e X.env) :: starEach es X.env := by rfl) (hpl : (backTo pos (starEach es X.env)).any (·.1) = false := by rfl) :
    PE X (.Call (.Name x p) (e :: es) [] pos) (tCall sp [] E t) := by
  constructor
  intro pins s σ H Q I h
  refine wpAny_Call_Name_kw (ld_glob I hg hm ?_ hdb)
  refine PySem.W.callWith_K (h₀ := X.base) I.ok.mod.kin hk (thn (ha.run pos pins s σ H _ I h) fun us s1 ⟨vs, H1, I1, r, q⟩ => ⟨I1.kIn, ?_⟩) he hpl
  have q : sp vs H1 Q E := by
    have z : sp (vs ++ []) H1 Q E := q
    rw [List.append_nil] at z
    exact z
  have hl : (us ++ []).length = ps.length := by
    rw [List.append_nil, ← r.length]
    exact F.len _ _ _ _ q
  have b := hb s1 us I1.kIn hl
  rw [List.append_nil] at b
  refine wpAny_call (codeAny_mono (F.run X.A X.stack s1 H1 ⟨us, []⟩ us vs Q E hgd hr I1.env0 b r q) fun rr s' hq => ?_)
  cases rr with
  | error er => exact hx pins σ H1 s1 er s' I1 hq
  | ok fl =>
    cases fl with
    | ret u => exact I1.after hq
    | next => exact hq.elim
    | brk => exact hq.elim
    | cont => exact hq.elim
end
/-! ### the law's end over such a promise -/
theorem glaw_call {P : Program} {w : World} {K : PySem.W.Frag} {mg mb : Str → Option Value} {CX : CXT} {k : Nat} {fa a : Addr} {fd : FuncData} {x : Str} {sp : Sp} {t : Shared} {vs : List Value} {ns : List Int}
    (kin : K.In t.heap) (nsm : t.heap.Ns mainGlobals mg) (nsb : t.heap.Ns builtinsNs mb) (hbb : ∀ x : Str, x ≠ "__name__" → mb x = bootBuiltins x) (nolim : t.heap.NoLimit) (nogen : t.gens = #[])
    (obj : t.heap.get? a = some { cls := .type "list", data := .seq vs.toArray }) (hints : IntsAre vs ns) (hl : ns.length ≤ sizeLine) (room : Room k callerA)
    (F : ∀ base : Heap, K.In base → base.Ns mainGlobals mg → GOk P w K mg base CX k fa fd [x] sp) (bnd : ∀ (s : Shared) (u : Value), BindsTo s fd ⟨[u], []⟩ [(x, u)])
    (want : ∀ H : Hp, Only H → SqL K H a (ns.map V.int) → sp [.ref a] H (fun v _ => v = .bl true) fun _ _ _ => False)
    (noX : ∀ H e s', CX [] H t (fun _ _ _ => False) e s' → False) :
    codeAny (model P w) callerA (.call (.ref fa) ⟨[.ref a], []⟩) (fun r s' => r = .ok (.ret (.bool true)) ∧ OldK t.heap s'.heap ∧ s'.os = t.os ∧ AllBare s'.gens) t := by
  have rv := vals_ints hints
  have hlv := hints.length
  have main : ∀ H : Hp, Only H → SqL K H a (ns.map V.int) → HOk P w H t.heap → (∀ b, H b ≠ none → b = a) → (H a ≠ none → K.lookup a = none) →
      codeAny (model P w) callerA (.call (.ref fa) ⟨[.ref a], []⟩) (fun r s' => r = .ok (.ret (.bool true)) ∧ OldK t.heap s'.heap ∧ s'.os = t.os ∧ AllBare s'.gens) t := by
    intro H only hS ok onlyA hK
    have noD : ∀ {b : Addr} {o : Obj} {es : Array DictEntry} {ep : Nat}, t.heap.get? b = some o → o.data = .dict es ep → H b = none := by
      intro b o es ep e d
      cases q : H b with
      | none => rfl
      | some u =>
        have z := onlyA b (by rw [q]; exact Option.some_ne_none u)
        subst z
        rw [obj] at e
        cases e
        cases d
    have nsH : ∀ {b : Addr} {m : Str → Option Value}, t.heap.Ns b m → (hidT t.heap H).Ns b m := by
      rintro b m ⟨o, es, ep, e, d, r⟩
      exact ⟨o, es, ep, hidT_get e (noD e d), d, r⟩
    have kinH : K.In (hidT t.heap H) := by
      intro b o e
      refine hidT_get (kin b o e) ?_
      cases q : H b with
      | none => rfl
      | some u =>
        have z := onlyA b (by rw [q]; exact Option.some_ne_none u)
        subst z
        rw [hK (by rw [q]; exact Option.some_ne_none u)] at e
        cases e
    have md : Mod K mg (hidT t.heap H) := by
      refine ⟨kinH, nsH nsm, ⟨mb, nsH nsb, hbb⟩, ?_⟩
      obtain ⟨mc, h1, h2⟩ := nolim
      exact ⟨mc, nsH h1, h2⟩
    have env : Env0 P w K mg (hidT t.heap H) callerA [] t H :=
      ⟨rfl, md, fun b o e => of_hidT e, Nat.le_of_eq (hidT_size _ _), trivial, fun b hb => (List.not_mem_nil (show b ∈ ([] : List Addr) from hb)).elim, ok, .of_eq nogen⟩
    refine codeAny_mono ((F _ kinH (nsH nsm)).run callerA [] t H ⟨[.ref a], []⟩ [.ref a] [.ref a] _ _ rfl room env (bnd t (.ref a)) (.cons rfl .nil) (want H only hS)) fun r s' h => ?_
    cases r with
    | error e => exact (noX H e s' h).elim
    | ok fl =>
      cases fl with
      | next => exact h.elim
      | brk => exact h.elim
      | cont => exact h.elim
      | ret u =>
        obtain ⟨v, H', os, bare, un, ok', r', q⟩ := h
        have q' : v = .bl true := q
        subst q'
        cases r'
        refine ⟨rfl, OldK.of_keep fun b o e => ?_, os, bare⟩
        cases q : H b with
        | none => exact un.keep b o e q (fun z => (List.not_mem_nil (show b ∈ ([] : List Addr) from z)).elim) List.not_mem_nil
        | some u =>
          rcases only b with z | ⟨ob, xs, z⟩
          · rw [q] at z
            cases z
          · obtain ⟨e1, _⟩ := ok b _ z
            obtain ⟨e2, _⟩ := ok' b _ (un.frzs b ob _ z)
            rw [e] at e1
            cases e1
            exact e2
  cases hk : K.lookup a with
  | some o =>
    have e := kin a o hk
    rw [obj] at e
    cases e
    refine main (fun _ => none) (fun _ => .inl rfl) (.inr ⟨_, vs.toArray, _, hk, rfl, rfl, rfl, ?_, by simpa using rv⟩) (fun b u z => by cases (show (none : Option HO) = some u from z)) (fun b z => absurd rfl z) fun z => absurd rfl z
    rw [List.size_toArray, hlv]
    exact hl
  | none =>
    refine main (fun b => if b = a then some (.frz { cls := .type "list", data := .seq vs.toArray } (.lst (ns.map V.int))) else none) (fun b => ?_) (.inl (.inr ⟨_, if_pos rfl⟩)) (fun b u z => ?_) (fun b z => ?_) fun _ => hk
    · by_cases hb : b = a
      · exact .inr ⟨_, _, if_pos hb⟩
      · exact .inl (if_neg hb)
    · by_cases hb : b = a
      · have z' := (if_pos hb).symm.trans z
        cases z'
        subst hb
        exact ⟨obj, by rw [List.length_map]; exact hl, vs, _, rv, obj⟩
      · have z' := (if_neg hb).symm.trans z
        cases z'
    · by_cases hb : b = a
      · exact hb
      · exact absurd (if_neg hb) z
theorem gwalk_of {l : PySem.W.OpenLaw} {n k : Nat} {q : Program} {loose : List Str} {XP : (Str → Option Value) → Heap → Prop} {YP : World → Heap → Prop} {d : DefRec} {K : Params → PySem.W.Frag} {CX : World → CXT} {sp : World → Sp} {x : Str}
    (hn : l.most = some n) (hn2 : n ≤ sizeLine) (hdf : d.params.defaults = []) (hr : Room k callerA) (hY : ∀ (w : World) (h : Heap), YP w h → (K w.params).In h)
    (F : ∀ (w : World) (mg : Str → Option Value) (fa : Addr) (h : Heap), (K w.params).In h → h.Ns mainGlobals mg → mg d.name = some (.ref fa) →
      ∃ fd : FuncData, (∀ (s : Shared) (u : Value), BindsTo s fd ⟨[u], []⟩ [(x, u)]) ∧ ∀ base : Heap, (K w.params).In base → base.Ns mainGlobals mg → GOk l.prog w (K w.params) mg base (CX w) k fa fd [x] (sp w))
    (hsp : ∀ (w : World) (H : Hp) (a : Addr) (ns : List Int), ns.length ≤ n → Only H → SqL (K w.params) H a (ns.map V.int) → sp w [.ref a] H (fun v _ => v = .bl true) fun _ _ _ => False)
    (hCX : ∀ (w : World) (H : Hp) (s : Shared) (e : Value) (s' : Shared), CX w [] H s (fun _ _ _ => False) e s' → False) : PySem.W.WalkO q loose XP YP l.row.toRowW d [] (fun f vs => PySem.call f vs) := by
  refine Att.attach_call hn hdf fun w s0 s1 mg mb fa o pm cd doc a vs ns G Y ho hd hcd hmg hobj hints hlen hg => ?_
  obtain ⟨fd, hb, hF⟩ := F w mg fa _ (hY w _ Y) G.T.g hmg
  exact glaw_call (hY w _ Y) G.T.g G.T.b G.T.builtins G.T.nolimit hg hobj hints (Nat.le_trans hlen hn2) hr hF hb (fun H hO hS => hsp w H a ns hlen hO hS) fun H e s' => hCX w H s1 e s'
/-! ### text * int -/
theorem fold_toList : ∀ (l : List (Array Nat)) (acc : Array Nat), (l.foldl (· ++ ·) acc).toList = acc.toList ++ (l.map Array.toList).flatten
  | [], acc => by simp
  | x :: l, acc => by
    rw [List.foldl_cons, fold_toList l]
    simp
theorem mul_tl (z : Str) (n : Nat) : (Txt.mul z (n : Int)).cps.toList = (List.replicate n z.cps.toList).flatten := by
  unfold Txt.mul
  by_cases h1 : (n : Int) < 1
  · have e : n = 0 := by omega
    subst e
    rw [if_pos h1]
    rfl
  · rw [if_neg h1]
    by_cases h2 : ((n : Int) == 1 || z.length == 0) = true
    · rw [if_pos h2]
      rcases Bool.or_eq_true_iff.mp h2 with e | e
      · have e1 : n = 1 := by
          have := eq_of_beq e
          omega
        subst e1
        simp
      · have e1 : z.cps.toList = [] := List.length_eq_zero_iff.mp (by
          have := eq_of_beq e
          simpa [Str.length] using this)
        rw [e1]
        simp
    · rw [if_neg h2]
      show ((List.replicate (n : Int).toNat z.cps).foldl (· ++ ·) #[]).toList = _
      rw [fold_toList, Int.toNat_natCast, List.map_replicate]
      rfl
theorem op_mul_str {X : Cx} : OpR X (binaryOp .Mult) (fun x y H Q => ∃ (z : Str) (n : Nat), x = .str z ∧ y = .int (n : Int) ∧ n ≤ 1000 ∧ z.length ≤ 1000 ∧ ∀ y : Str, y.length = z.length * n → (∀ c ∈ y.cps.toList, c ∈ z.cps.toList) → Q (.str y) H) := by
  intro pins s σ H x y v u Q I rx ry h
  obtain ⟨z, n, rfl, rfl, hn, hz, q⟩ := h
  obtain ⟨tx, rfl⟩ := rx
  obtain ⟨ty, rfl⟩ := ry
  have pw : z.length * n ≤ 1000000 := Nat.le_trans (Nat.mul_le_mul hz hn) (by decide)
  refine PySem.SB.mul ⟨?_, fun h1 h2 => ?_, fun h1 h2 => ?_⟩ fun t' k => ⟨.str _, H, I.tok k, ⟨t', rfl⟩, q _ ?_ ?_⟩
  · rw [decide_eq_false (by omega), decide_eq_false (by omega)]
    rfl
  · have e : (1000 : Int) ≤ (2 ^ 63 - 1) / (n : Int) := by
      have h3 : (0 : Int) < n := by omega
      exact (Int.le_ediv_iff_mul_le h3).mpr (by omega)
    omega
  · rw [Int.toNat_natCast]
    exact decide_eq_false (by show ¬ sizeLine < _; have : sizeLine = 16777216 := sizeLine_eq; omega)
  · rw [TL.len_tl, TL.len_tl z]
    show (Txt.mul z (n : Int)).cps.toList.length = _
    rw [mul_tl]
    simp [Nat.mul_comm]
  · intro c hc
    rw [mul_tl] at hc
    obtain ⟨l, hl, hcl⟩ := List.mem_flatten.mp hc
    rw [(List.mem_replicate.mp hl).2] at hcl
    exact hcl
/-! ### repr of a list -/
/-- a value and the data that it is: as in Dp, and dicts of none or one text with an int -/
inductive Itm (K : PySem.W.Frag) (H : Hp) : V → PyData → Prop
  | dp {v : V} {d : PyData} (h : Dp K H v d) (nd : d.hasDict = false) : Itm K H v d
  | d0 {a : Addr} (h : H a = some (.dK [])) : Itm K H (.ref a) (.dict [])
  | d1 {a : Addr} {x : Str} {i : Int} (h : H a = some (.dK [(Sum.inr x, .int i)])) : Itm K H (.ref a) (.dict [(.str x, .int i)])
inductive ItmAll (K : PySem.W.Frag) (H : Hp) : List V → List PyData → Prop
  | nil : ItmAll K H [] []
  | cons {v : V} {vs : List V} {d : PyData} {ds : List PyData} : Itm K H v d → ItmAll K H vs ds → ItmAll K H (v :: vs) (d :: ds)
section
variable {X : Cx} {pins : List (Addr × Obj)} {σ : L2.St} {H : Hp} {s : Shared}
theorem Itm.reads (I : Inv X pins σ H s) {v : V} {u : Value} {d : PyData} (h : Itm X.K H v d) (r : RelV v u) : ∃ as, Reads s.heap u d as ∧ (d.hasDict = true → sysModules ∉ as) := by
  cases h with
  | dp h nd =>
    obtain ⟨as, q⟩ := Dp.reads I d v u h r
    exact ⟨as, q, fun z => by rw [nd] at z; cases z⟩
  | @d0 a h =>
    cases r
    obtain ⟨_, ns, vs, kv, o, es, ep, ho, hx, hd, hk, hp, _⟩ := I.hok _ _ h
    cases kv
    generalize hl : es.toList = l at hp
    cases hp
    refine ⟨_, Reads.dict (kvs := []) (as := []) (bs := []) ho hx.1 hd (by rw [hl]; exact .nil) (by rw [hl]; exact .nil), fun _ => ?_⟩
    intro hm
    rcases List.mem_cons.mp hm with e | e
    · rw [← e] at ns
      exact absurd ns (by decide)
    · cases e
  | @d1 a x i h =>
    cases r
    obtain ⟨_, ns, vs, kv, o, es, ep, ho, hx, hd, hk, hp, _⟩ := I.hok _ _ h
    cases kv with
    | cons h1 h2 =>
      cases h2
      obtain ⟨e1, t, e2⟩ := h1
      rename_i b nd2
      obtain ⟨b1, b2⟩ := b
      dsimp only at e1 e2
      subst e1 e2
      generalize hl : es.toList = l at hp
      cases hp with
      | cons k1 k2 k3 =>
        cases k3
        rename_i en
        obtain ⟨hh, ky, vl⟩ := en
        dsimp only at k1 k2
        subst k2
        have k1' : keyIs (Sum.inr x) ky = true := k1
        rcases keyIs_shape k1' with ⟨j, t', z, _⟩ | ⟨y, t', z, rfl⟩
        · cases z
        · cases z
          refine ⟨_, Reads.dict (kvs := [(.str x, .int i)]) ho hx.1 hd (by rw [hl]; exact .cons (.str x t') .nil) (by rw [hl]; exact .cons (.int i t) .nil), fun _ => ?_⟩
          intro hm
          rcases List.mem_cons.mp hm with e | e
          · rw [← e] at ns
            exact absurd ns (by decide)
          · cases e
theorem ItmAll.all (I : Inv X pins σ H s) : ∀ {vs : List V} {ds : List PyData} {us : List Value}, ItmAll X.K H vs ds → Vals vs us → PyData.showableAll ds = true → (∀ t ∈ PyData.shownAll ds, t.length ≤ sizeLine) →
    (∃ as, ReadsAll s.heap us ds as) ∧ ∃ bs, ReadAtMost s.heap (PyData.depthAll ds) bs ∧ ReprAllK X.prog X.w bs s.heap (PyData.depthAll ds) us (PyData.shownAll ds)
  | _, _, _, .nil, .nil, _, _ => ⟨⟨_, .nil⟩, [], (fun _ h => nomatch h), by simp only [PyData.shownAll]; exact .nil⟩
  | _, _, _, .cons (d := d) (ds := ds) h1 h2, .cons r1 r2, hs, hz => by
    have hs' : d.showable = true ∧ PyData.showableAll ds = true := by simpa [PyData.showableAll] using hs
    obtain ⟨as, q, nq⟩ := h1.reads I r1
    obtain ⟨⟨as2, q2⟩, bs2, b2, k2⟩ := ItmAll.all I h2 r2 hs'.2 (fun t ht => hz t (by simp only [PyData.shownAll]; exact List.mem_cons_of_mem _ ht))
    obtain ⟨bs1, b1, k1⟩ := ReprK.of_reads (prog := X.prog) (w := X.w) q hs'.1 nq (hz _ (by simp only [PyData.shownAll]; exact List.mem_cons_self ..))
    refine ⟨⟨_, .cons q q2⟩, bs1 ++ bs2, ?_, ?_⟩
    · have e1 : d.depth ≤ PyData.depthAll (d :: ds) := by simp only [PyData.depthAll]; omega
      have e2 : PyData.depthAll ds ≤ PyData.depthAll (d :: ds) := by simp only [PyData.depthAll]; omega
      exact (b1.mono e1).append (b2.mono e2)
    · have e1 : d.depth ≤ PyData.depthAll (d :: ds) := by simp only [PyData.depthAll]; omega
      have e2 : PyData.depthAll ds ≤ PyData.depthAll (d :: ds) := by simp only [PyData.depthAll]; omega
      simp only [PyData.shownAll]
      exact .cons ((k1.more fun b hb => List.mem_append_left _ hb).level_le e1) (k2.more_le (fun b hb => List.mem_append_right _ hb) e2)
/-- repr(l) -/
def rRepr (K : PySem.W.Frag) : List V → Hp → VK → Prop := fun xs H Q => ∃ (a : Addr) (vs : List V) (ds : List PyData), xs = [.ref a] ∧ SqL K H a vs ∧ vs ≠ [] ∧ ItmAll K H vs ds ∧ PyData.showableAll ds = true ∧ PyData.depthAll ds ≤ 8 ∧
  (listText (PyData.shownAll ds)).length ≤ sizeLine ∧ Q (.str (listText (PyData.shownAll ds))) H
end
theorem call_repr_l {X : Cx} (hg : X.A.guards = some []) (hu : X.A.units + 16 < cLine) : CallR X (.builtin "repr") (rRepr X.K) := by
  intro pins s σ H xs us Q I r h
  obtain ⟨a, vs, ds, rfl, hS, hne, hI, hs, hdp, hz, q⟩ := h
  cases r with
  | cons ra rr =>
    cases rr
    cases ra
    obtain ⟨its, rv, ⟨o, n, ho, hc, hdx, hd⟩, _⟩ := I.list hS
    obtain ⟨⟨as, hr⟩, bs, hb, hk⟩ := ItmAll.all I hI rv hs (fun t ht => Nat.le_trans (listText_mem_le ht) hz)
    cases its with
    | nil =>
      cases rv
      exact absurd rfl hne
    | cons x l =>
      have rd : Reads s.heap (.ref a) (.list ds) _ := Reads.list ho hc hd hr
      have hna : a ∉ bs := not_mem_of_deeper rd (by simp only [PyData.depth]; omega) hb
      refine call_repr_slot (T := "list") (idr := "list.__repr__") (by omega) ⟨o, ho, hc⟩ F.slot_list_repr.toG ?_
      exact call_list_reprK (h₀ := s.heap) (as := bs) ho hc hd hna (by simpa using hk.length_eq) (fun i y e => hk.item i y (by simpa using e)) (g := []) hg (fun b _ => Clear.nil b) (by show X.A.units + 1 + (_ + 1) < cLine; omega) (fun _ _ e => e)
        (fun h' u tk hkp => ⟨_, _, rfl, .str _, H, I.kept (t' := tk) hkp, ⟨u, rfl⟩, q⟩) hz
end WG

set_option Elab.async false
set_option linter.all false
set_option maxRecDepth 100000
set_option maxHeartbeats 4000000
namespace WG
open PySem PySem.Spec PySem.Calls PyProof.Rows PySem.W
section
variable {prog : Program} {w : World} {A : Around} {E : Value → Shared → Prop} {s : Shared} {K : Frag} {x D : Addr} {ox : Obj} {od : Option Obj}
theorem find_dat {C : Addr} {name : Str} {a g : Value} (hc : (clsIn K C).isSome = true) (ha : findIn K (.ref C) name = some (some a)) (hg : specialIn K a "__get__" = some (some g)) (ht : takesIn K a = some true) :
    findObj K C od name = some (.bind g a) := by
  obtain ⟨cd, hcd⟩ := Option.isSome_iff_exists.mp hc
  unfold findObj
  rw [hcd, Option.bind_some, ha, Option.bind_some]
  simp [hg, ht]
theorem exc_class {Q : Option Value → Shared → Prop} (c : L2.ExcC K D) (kin : K.In s.heap) (at0 : InstAt s.heap x ox D od) (h : Q (some (.ref D)) { s with toks := s.toks + 1 }) : wpAny (model prog w) A (getAttr? (.ref x) "__class__") Q E s := by
  have hf : findObj K D od "__class__" = some (.bind (.builtin "getset_descriptor.__get__") (.builtin "object.__class__")) := by
    refine find_dat ?_ c.ha c.hn c.ht
    obtain ⟨cd, hcd, _⟩ := any_some c.hd
    rw [hcd] <;> rfl
  obtain ⟨hh, gs, dr, tk, os⟩ := s
  have t0 := at0.type (M := model prog w)
  have t1 := looks_findIn (M := model prog w) kin c.hg
  have t2 := looks_findIn (M := model prog w) kin c.hk
  have t3 := looks_find (M := model prog w) kin at0 hf
  have isb : Looks (model prog w) hh (isInstance (.ref x) (.type "BaseException")) true := t0.andThen (looks_subIn kin c.hs)
  have z0 : (false && onTheHeap (Value.builtin "BaseException.__getattribute__")) = false := rfl
  have z2 : (Value.builtin "BaseException.__getattribute__" == Value.builtin "object.__getattribute__") = false := by decide +kernel
  have z1 : (onTheHeap (Value.ref D) && Value.builtin "BaseException.__getattribute__" == Value.builtin "object.__getattribute__") = false := by
    rw [z2]
    rfl
  unfold getAttr? getAttrBy? getAttrBy
  refine wpAny_bind (wpAny_mkText (wpAny_bind (wpAny_attempt (wpAny_holding (wpAny_bind (t0.at (wpAny_bind (t1.at ?_))))))))
  show wpAny _ _ (if (onTheHeap (Value.ref D) && Value.builtin "BaseException.__getattribute__" == Value.builtin "object.__getattribute__") = true then _ else _) _ _ _
  rw [z1, if_neg Bool.false_ne_true]
  unfold getAttrByItsOwn hookBefore
  refine wpAny_bind ?_
  rw [if_pos (show onTheHeap (Value.ref D) = true from rfl)]
  refine t2.at (wpAny_bind (wpAny_attempt (wpAny_holding ?_)))
  unfold callGetattribute
  rw [z0, if_neg Bool.false_ne_true]
  unfold boundAndCalled
  rw [PySem.F.excAttr_ValueError.ga.bind (.ref x)]
  refine wpAny_bind (wpAny_pure ?_)
  show wpAny _ _ (call (.builtin "BaseException.__getattribute__") [.ref x, .str "__class__" tk]) _ _ _
  refine wpAny_call (codeAny_call_builtin PySem.F.excAttr_ValueError.ga.plain PySem.F.entry_bexc_ga ?_)
  refine @check_slot (model prog w) _ _ ⟨hh, gs, dr, tk + 1, os⟩ "BaseException.__getattribute__" "BaseException" "__getattribute__" (.ref x) [.str "__class__" tk] [] _ (by decide +kernel) (by decide +kernel) isb (PySem.F.args_bexc_ga (.ref x) (.str "__class__" tk)) ?_
  unfold Builtin.«object.__getattribute__»
  refine wpAny_bind (wpAny_of_eq (a := ((Value.ref x : Value), [Value.str "__class__" tk])) (by first | rfl | (simp only [slotArgs]; rfl)) ?_)
  refine wpAny_bind (wpAny_pure (wpAny_bind (t0.at (wpAny_bind (t3.at ?_)))))
  show wpAny _ _ (holding [Value.builtin "object.__class__"] (call (.builtin "getset_descriptor.__get__") [.builtin "object.__class__", .ref x, .ref D]) >>= ret) _ _ _
  refine wpAny_bind (wpAny_holding (wpAny_call (class_get (s := ⟨hh, gs, dr, tk + 1, os⟩) (ox := ox) (od := od) kin at0 c.hm ?_)))
  refine wpAny_pure ?_
  show wpAny _ _ (handedOut (.ref D)) _ _ _
  rw [handedOut_of (v := .ref D) rfl]
  first
    | exact wpAny_pure (wpAny_pure h)
    | exact wpAny_pure h
    | exact wpAny_pure (wpAny_bind (wpAny_pure (wpAny_pure h)))
theorem kit_exc (c : L2.ExcC K D) : KitX K (.ref x) (.ref D) (fun h => InstAt h x ox D od) := by
  obtain ⟨cd, hcd, _⟩ := any_some c.hd
  obtain ⟨o, ho, hdo⟩ : ∃ o, K.lookup D = some o ∧ o.data = .cls cd := by
    unfold clsIn at hcd
    split at hcd
    · rename_i c' d' cd' sl' hk
      cases hcd
      exact ⟨_, hk, rfl⟩
    · cases hcd
  obtain ⟨oc, odd, oda, osl⟩ := o
  dsimp only at hdo
  subst hdo
  refine { ty := fun _ _ _ J => J.type, it := fun _ _ kin _ => ?_, ne := fun h tp dd its n sl kin htp => ?_, ca := fun kin J k => exc_class c kin J k }
  · intro A' Q' E' s' kp q
    unfold isType loadHead
    exact wpAny_bind (wpAny_loadPart (kp _ _ (kin _ _ ho)) (wpAny_pure q))
  · refine Bool.eq_false_iff.mpr fun q => ?_
    have e : D = tp := Value.ref.inj (beq_iff_eq.mp q)
    subst e
    have z := (kin _ _ ho).symm.trans htp
    cases z
end
end WG
namespace WG
open PySem PySem.Spec PyProof.Rows L2
/-- isinstance(e, c), e the caught exception at a with its own dict -/
def rIsD (K : PySem.W.Frag) (a : Addr) (cls : Value) (d : Option Addr) : List V → Hp → VK → Prop := fun xs H Q => ∃ (D dd : Addr) (fs : List (Str × V)) (c : V) (cv : Value) (b : Bool), cls = .ref D ∧ d = some dd ∧ H dd = some (.xd fs) ∧ ExcC K D ∧
  xs = [.ref a, c] ∧ (∀ u, RelV c u → u = cv) ∧ PySem.W.kitOne K (.ref D) cv = some b ∧ Q (.bl b) H
theorem call_isD {X : Cx} {a : Addr} {oe : Obj} {cls : Value} {d : Option Addr} {pn : List (Addr × Obj)} (hz : Zc cls d oe) (hf : ∃ vs, oe.data = .fields vs) : CallR (X.suite a ((a, oe) :: pn)) (.builtin "isinstance") (rIsD X.K a cls d) := by
  intro pins s σ H xs us Q I r h
  obtain ⟨D, dd, fs, cl, cv, b, rfl, rfl, hx, c, rfl, hcv, e, q⟩ := h
  cases r with
  | cons rx rr =>
    cases rr with
    | cons rt rr =>
      cases rr
      cases rx
      have ec := hcv _ rt
      subst ec
      obtain ⟨hget, _⟩ := I.pin (a, oe) (List.mem_append.mpr (.inl List.mem_cons_self))
      obtain ⟨vs, hv⟩ := hf
      obtain ⟨mA, hns, _⟩ := I.hok dd _ hx
      obtain ⟨od, ho, _⟩ := lookIn_ns hns
      have J : PySem.W.InstAt s.heap a oe D (some od) := ⟨hget, hz.1, by unfold PySem.W.notCls; rw [hv] <;> rfl, by rw [hz.2]; exact ho⟩
      exact PySem.W.kia_one (kit_exc c) I.kIn J e (fun z => nomatch z) fun tk => ⟨.bl b, H, I.kept (t' := tk) fun _ _ z => z, rfl, q⟩
end WG

set_option Elab.async false
set_option linter.all false
set_option maxRecDepth 100000
set_option maxHeartbeats 4000000
/-! own errors with fields, of which it is told that their context is None -/
namespace L2
open PySem PySem.Spec PyProof.Rows
section
variable {X : Cx} {CX : CXT} {nmC : Str} {cC fI : Addr} {lev : Nat} {fdI : FuncData} {pars : List Str} {spI : Sp} {dsI : List Value} {dvI : List V} {pA pB : Pos}
/-- the call itself, the arguments at hand -/
theorem made_oexN {pins : List (Addr × Obj)} {σ : St} {H : Hp} {want : XK} {st : Shared} {us : List Value} {vs : List V} (cls : OexC X.K cC) (ini : PySem.W.findIn X.K (.ref cC) "__init__" = some (some (.ref fI))) (tyI : PySem.W.typeIn X.K (.ref fI) = some (.type "function"))
    (good : FnOk X.prog X.w X.K X.mg X.base CX lev fI fdI pars spI) (room : Room (lev + 1) X.A) (bnd : Binds X.K fdI pars dsI) (vals : Vals dvI dsI) (out : Passes CX X (fun _ _ _ => False)) (inv : Inv X pins σ H st) (rels : Vals vs us) (few : vs.length ≤ 1000)
    (ask : ∀ a, H a = none → spI (.ref a :: (vs ++ dvI)) (upd H a (exo a cC none)) (fun v H2 => v = .non ∧ ∃ (d : Addr) (fs : List (Str × V)), H2 a = some (exo a cC (some d)) ∧ H2 d = some (exd d fs) ∧ H d = none ∧ want (.ref cC) (some d) (upd (del H2 a) d (.xd fs))) (fun _ _ _ => False)) :
    wpAny (model X.prog X.w) X.A (call (.ref cC) us) (L2N.MkP X pins σ want) X.xe st := by
  obtain ⟨x1, x2, x3, x4, bm, x5, x6, x7, x8, x9, y0, y1, y2, y3, y5, look, mro⟩ := cls.cls
  obtain ⟨hp, gs, dr, tk, os⟩ := st
  have up1 : hp.objs.size ≤ hp.objs.size + 1 := Nat.le_succ _
  have want1 := ask (hp.objs.size + 1) (inv.hok.fresh up1)
  have stay : ∀ b o, hp.get? b = some o → ((hp.push (PySem.W.kdv_tup us)).push (PySem.HandSPX.excO cC hp.objs.size)).get? b = some o := fun b o e => by
    refine Heap.get?_push_of_some _ ?_
    exact Heap.get?_push_of_some _ e
  have there : ((hp.push (PySem.W.kdv_tup us)).push (PySem.HandSPX.excO cC hp.objs.size)).get? (hp.objs.size + 1) = some (PySem.HandSPX.excO cC hp.objs.size) := by heap_get
  have inv2 : Inv X pins σ (upd H (hp.objs.size + 1) (exo (hp.objs.size + 1) cC none)) ⟨(hp.push (PySem.W.kdv_tup us)).push (PySem.HandSPX.excO cC hp.objs.size), gs, dr, tk, os⟩ := inv.laid (t' := tk) stay up1 (exo_ok there)
  have rel : Vals (V.ref (hp.objs.size + 1) :: (vs ++ dvI)) (Value.ref (hp.objs.size + 1) :: (us ++ dsI)) := .cons rfl (rels.append vals)
  have len : ((Value.ref (hp.objs.size + 1) :: us) ++ dsI).length = pars.length := by
    have e := rel.length
    rw [good.len _ _ _ _ want1] at e
    exact e.symm
  have ran := good.run _ X.stack ⟨(hp.push (PySem.W.kdv_tup us)).push (PySem.HandSPX.excO cC hp.objs.size), gs, dr, tk, os⟩ _ ⟨Value.ref (hp.objs.size + 1) :: us, []⟩ _ _ _ (fun _ _ _ => False) (room.make cC us []) (inv2.env0.make cC us []) (bnd _ (Value.ref (hp.objs.size + 1) :: us) inv2.kIn len) rel want1
  have small : us.length ≤ sizeLine := by
    have e := rels.length
    rw [sizeLine_eq]
    omega
  refine wpAny_call (PySem.HandSPX.call_own F.excBase_ValueError (fun Y => PySem.HandSPX.refsVE_contains Y bm mro) (inv.kIn _ _ look) (PySem.W.looks_findIn inv.kIn ini) (fun self => PySem.W.bind_fn inv.kIn self tyI) small (codeAny_mono ran fun r st2 got => ?_))
  cases r with
  | error er => exact out pins σ _ _ er st2 inv2 got
  | ok fl =>
    cases fl with
    | next => exact got.elim
    | brk => exact got.elim
    | cont => exact got.elim
    | ret u =>
      obtain ⟨v, H2, g1, g2, g3, g4, rv, ev, d, fs, ea, ed, nd, q2⟩ := got
      subst ev
      obtain ⟨h2, gs2, dr2, t2, os2⟩ := st2
      obtain ⟨t0, G, J, kG, nG, atG, gone⟩ := mk_end0 (d2 := dr2) (t2 := t2) inv up1 stay g3 g4 g1 g2 ea ed nd
      exact ⟨rv, ⟨hp.objs.size + 1, _, _, ⟨G, gs2, dr2, t2, os2⟩, _, .ref cC, some d, rfl, J, kG, nG, atG, ⟨rfl, rfl, fun vs hv => by cases hv; rfl⟩, rfl, rfl, gone, rfl, g2, raises_own cls.exC cls.tyC, q2⟩⟩
theorem pmk_oexN {eA : Expr} {esA : List Expr} {tA : TA} (cls : OexC X.K cC) (ini : PySem.W.findIn X.K (.ref cC) "__init__" = some (some (.ref fI))) (tyI : PySem.W.typeIn X.K (.ref fI) = some (.type "function"))
    (good : FnOk X.prog X.w X.K X.mg X.base CX lev fI fdI pars spI) (room : Room (lev + 1) X.A) (bnd : Binds X.K fdI pars dsI) (vals : Vals dvI dsI) (out : Passes CX X (fun _ _ _ => False)) (glob : Gl X nmC) (at_ : X.mg nmC = some (.ref cC)) (args : PA X (eA :: esA) tA)
    (nodb : (nmC == ("__debug__" : Str)) = false := by decide) (st1 : starEach (eA :: esA) X.env = (false, eval eA X.env) :: starEach esA X.env := by rfl) (st2 : (backTo pB (starEach esA X.env)).any (·.1) = false := by rfl) :
    L2N.PMk X (.Call (.Name nmC pA) (eA :: esA) [] pB) (tMkO cC spI dvI tA) := by
  intro pins st σ H want inv ask
  refine wpAny_Call_Name_kw (ld_glob inv glob at_ ?_ nodb)
  refine PySem.W.callWith_K (h₀ := X.base) inv.ok.mod.kin cls.kC (thn (args.run pB pins st σ H _ inv ask) fun us s1 got => ?_) st1 st2
  obtain ⟨vs, H1, I1, rels, few, q1⟩ := got
  exact ⟨I1.kIn, made_oexN cls ini tyI good room bnd vals out I1 rels few q1⟩
theorem pmk_oexN0 (cls : OexC X.K cC) (ini : PySem.W.findIn X.K (.ref cC) "__init__" = some (some (.ref fI))) (tyI : PySem.W.typeIn X.K (.ref fI) = some (.type "function"))
    (good : FnOk X.prog X.w X.K X.mg X.base CX lev fI fdI pars spI) (room : Room (lev + 1) X.A) (bnd : Binds X.K fdI pars dsI) (vals : Vals dvI dsI) (out : Passes CX X (fun _ _ _ => False)) (glob : Gl X nmC) (at_ : X.mg nmC = some (.ref cC)) (nodb : (nmC == ("__debug__" : Str)) = false := by decide) :
    L2N.PMk X (.Call (.Name nmC pA) [] [] pB) (tMkO cC spI dvI tNil) := by
  intro pins st σ H want inv ask
  refine wpAny_Call_Name_kw (ld_glob inv glob at_ ?_ nodb)
  refine PySem.W.callWith_K0 inv.kIn cls.kC ?_
  obtain ⟨few, q1⟩ := ask
  exact made_oexN (vs := []) (us := []) cls ini tyI good room bnd vals out inv .nil few q1
end
end L2

set_option Elab.async false
set_option linter.all false
set_option maxRecDepth 100000
set_option maxHeartbeats 4000000
/-! zip of two lists while an exception is handled: its end -/
namespace HotX
open PySem PySem.Spec PyProof.Rows
section
variable {prog : Program} {w : World} {A : Around} {E : Value → Shared → Prop} {s : Shared}
theorem nextOf_end_hot {it l x1 : Addr} {i : Nat} {cont : Array Value} {Q : Value → Shared → Prop} (hot : HotAt A x1 s.heap) (at1 : s.heap.IsListIter it l i) (at2 : s.heap.IsList l cont) (over : cont[i]? = none) (ne1 : x1 ≠ it)
    (out : ∀ h' e, Heap.ExtBut it s.heap h' → (∃ o, h'.get? e = some o ∧ o.cls = .type "StopIteration") → E (.ref e) { s with heap := h' }) :
    wpAny (model prog w) A (Builtin.SmallTypes.nextOf (.ref it)) Q E s := by
  obtain ⟨oi, gi, ci, di⟩ := id at1
  obtain ⟨ol, gl, _, nl, dl⟩ := at2
  obtain ⟨hh, o1, vs1, h1, d1, c1⟩ := hot
  unfold Builtin.SmallTypes.nextOf
  refine wpAny_bind (wpAny_callSpecial?_slot (name := Str.ofString "__next__") at1.typeIs slot_listiter_next (wpAny_call_entry slot_listiter_next at1.typeIs entry_listiter_next ?_ (args_listiter_next _)))
  show wpAny _ _ (field (.ref it) 0 >>= _) _ _ s
  refine wpAny_bind (wpAny_field gi di (x := .ref l) rfl ?_)
  show wpAny _ _ (if (Value.ref l == Value.none) = true then _ else _) _ _ s
  have notNone : ¬ ((Value.ref l == Value.none) = true) := Bool.false_ne_true
  rw [if_neg notNone]
  show wpAny _ _ (field (.ref it) 1 >>= _) _ _ s
  refine wpAny_bind (wpAny_field gi di (x := .int i 0) rfl ?_)
  show wpAny _ _ (seqItems? (.ref l) >>= _) _ _ s
  refine wpAny_bind (wpAny_seqItems gl dl ?_)
  simp only [Int.toNat_natCast, over]
  refine wpAny_bind (wpAny_rule (wpAny_bind (wpAny_setField gi di (by simp) ?_)))
  show wpAny _ _ (newExc (.type "StopIteration") [] >>= _) _ _ _
  refine wpAny_bind ?_
  simp only [newExc, newTuple]
  refine wpAny_bind (wpAny_newObj_type ?_ (by size_fits))
  refine wpAny_bind (m := firstArgMember _ _) (wpAny_of_eq (a := Value.none) (by first | rfl | (simp only [firstArgMember]; rfl)) ?_)
  refine wpAny_newObj_type ?_ (by size_fits)
  have h1' := (Heap.get?_update_other s.heap (Obj.mapFields (·.setIfInBounds 0 Value.none)) ne1.symm).trans h1
  refine raiseNew_hot ⟨hh, o1, vs1, Heap.get?_push_of_some _ (Heap.get?_push_of_some _ h1'), d1, c1⟩ (Nat.ne_of_lt (Heap.lt_size (Heap.get?_push_of_some _ h1'))) (Heap.get?_push_size _ rfl) rfl (by first | (simp; done) | (simp; omega) | (simp only [Array.size_append]; simp; omega)) ?_
  refine out _ _ (fun b o nb g => ?_) ⟨_, Heap.get?_update_self _ (Heap.get?_push_size _ rfl) rfl, rfl⟩
  have g1 := (Heap.get?_update_other s.heap (Obj.mapFields (·.setIfInBounds 0 Value.none)) (Ne.symm nb)).trans g
  rw [Heap.get?_update_other _ _ (Nat.ne_of_gt (Heap.lt_size (Heap.get?_push_of_some _ g1)))]
  exact Heap.get?_push_of_some _ (Heap.get?_push_of_some _ g1)
theorem zip_end_hot {z TI TO i1 i2 l1 l2 x1 : Addr} {k1 k2 : Nat} {xs ys : Array Value} {a b : Value} {Q : Fin → Shared → Prop} (hot : HotAt A x1 s.heap) (D : ZipApart z TI TO i1 i2 l1 l2) (far : x1 ≠ z ∧ x1 ≠ TO ∧ x1 ≠ i1 ∧ x1 ≠ i2)
    (hz : IsZip s.heap z TI TO .none) (hTI : IsPair s.heap TI (.ref i1) (.ref i2)) (hTO : IsPair s.heap TO a b) (h1 : s.heap.IsListIter i1 l1 k1) (h2 : s.heap.IsListIter i2 l2 k2) (hl1 : s.heap.IsList l1 xs) (hl2 : s.heap.IsList l2 ys) (over : xs[k1]? = none ∨ ys[k2]? = none)
    (out : ∀ h' e, (∀ c o, c ≠ z → c ≠ TO → c ≠ i1 → c ≠ i2 → s.heap.get? c = some o → h'.get? c = some o) → (∃ o, h'.get? e = some o ∧ o.cls = .type "StopIteration") → E (.ref e) { s with heap := h' }) :
    wpAny (model prog w) A (Builtin.«zip.__next__» ⟨[.ref z], []⟩) Q E s := by
  obtain ⟨hh, o1, vs1, p1, d1, c1⟩ := hot
  show wpAny _ _ (field (.ref z) 2 >>= _) _ _ _
  refine wpAny_bind (wpAny_field hz rfl (x := .bool false) rfl ?_)
  show wpAny _ _ (field (.ref z) 3 >>= _) _ _ _
  refine wpAny_bind (wpAny_field hz rfl (x := .ref TI) rfl ?_)
  refine wpAny_bind (wpAny_seqItems hTI rfl ?_)
  show wpAny _ _ (Builtin.SmallTypes.ownedTupleIsFree (.ref z) >>= _) _ _ _
  refine wpAny_bind ?_
  unfold Builtin.SmallTypes.ownedTupleIsFree
  refine wpAny_bind (wpAny_field hz rfl (x := .none) rfl (wpAny_pure ?_))
  simp only [if_true]
  refine wpAny_bind (wpAny_rule ?_)
  refine wpAny_bind (wpAny_field hz rfl (x := .ref TO) rfl ?_)
  refine wpAny_bind (wpAny_setField_rec hz (by simp) fun hA zA sA => ?_)
  have zA' : IsZip hA z TI TO .ellipsis := zA
  have p1A := sA.extBut _ _ far.1 p1
  refine wpAny_bind ?_
  simp only [List.zipIdx_cons, List.zipIdx_nil, List.forIn_cons, List.forIn_nil]
  refine wpAny_bind (wpAny_bind (wpAny_onRaise ?_))
  show wpAny _ _ (Builtin.SmallTypes.nextOf (.ref i1) >>= _) _ _ _
  cases hx : xs[k1]? with
  | none =>
    refine wpAny_bind (nextOf_end_hot ⟨hh, o1, vs1, p1A, d1, c1⟩ (h1.extBut sA.extBut D.i1z) (hl1.extBut sA.extBut D.l1z) hx far.2.2.1 fun hB e sB he => ?_)
    obtain ⟨oe, ge, ce⟩ := he
    have zB : IsZip hB z TI TO .ellipsis := sB _ _ D.i1z.symm zA'
    have nez : e ≠ z := fun x => by
      subst x
      rw [zB] at ge
      cases ge
      simp at ce
    refine wpAny_setField_rec zB (by simp) fun hC _ sC => out hC e (fun c o c1 _ c3 _ x => ?_) ⟨oe, sC.extBut _ _ nez ge, ce⟩
    exact sC.extBut _ _ c1 (sB _ _ c3 (sA.extBut _ _ c1 x))
  | some x =>
    have hy : ys[k2]? = none := by
      cases over with
      | inl q =>
        rw [hx] at q
        cases q
      | inr q => exact q
    refine wpAny_bind (wpAny_nextOf_list_item (h1.extBut sA.extBut D.i1z) (hl1.extBut sA.extBut D.l1z) hx fun hB itB sB => wpAny_pure ?_)
    have TOB : IsPair hB TO a b := sB.extBut _ _ D.TOi1 (sA.extBut _ _ D.TOz hTO)
    refine wpAny_bind (wpAny_seqItems TOB rfl ?_)
    refine wpAny_bind (wpAny_updateSeq_pair TOB fun hC TOC sC => ?_)
    refine wpAny_bind (wpAny_letGo (wpAny_pure ?_))
    refine wpAny_bind (wpAny_bind (wpAny_onRaise ?_))
    show wpAny _ _ (Builtin.SmallTypes.nextOf (.ref i2) >>= _) _ _ _
    have p1C := sC.extBut _ _ far.2.1 (sB.extBut _ _ far.2.2.1 p1A)
    have itC := ((h2.extBut sA.extBut D.i2z).extBut sB.extBut D.i12.symm).extBut sC.extBut D.TOi2.symm
    have lsC := ((hl2.extBut sA.extBut D.l2z).extBut sB.extBut D.l2i1).extBut sC.extBut D.l2TO
    refine wpAny_bind (nextOf_end_hot ⟨hh, o1, vs1, p1C, d1, c1⟩ itC lsC hy far.2.2.2 fun hD e sD he => ?_)
    obtain ⟨oe, ge, ce⟩ := he
    have zD : IsZip hD z TI TO .ellipsis := sD _ _ D.i2z.symm (sC.extBut _ _ D.TOz.symm (sB.extBut _ _ D.i1z.symm zA'))
    have nez : e ≠ z := fun x => by
      subst x
      rw [zD] at ge
      cases ge
      simp at ce
    refine wpAny_setField_rec zD (by simp) fun hE' _ sE => out hE' e (fun c o c1 c2 c3 c4 x => ?_) ⟨oe, sE.extBut _ _ nez ge, ce⟩
    exact sE.extBut _ _ c1 (sD _ _ c4 (sC.extBut _ _ c2 (sB.extBut _ _ c3 (sA.extBut _ _ c1 x))))
theorem pyNext_zip_end_hot {z TI TO i1 i2 l1 l2 x1 : Addr} {k1 k2 : Nat} {xs ys : Array Value} {a b : Value} {Q : Option Value → Shared → Prop} (hot : HotAt A x1 s.heap) (D : ZipApart z TI TO i1 i2 l1 l2) (far : x1 ≠ z ∧ x1 ≠ TO ∧ x1 ≠ i1 ∧ x1 ≠ i2)
    (hz : IsZip s.heap z TI TO .none) (hTI : IsPair s.heap TI (.ref i1) (.ref i2)) (hTO : IsPair s.heap TO a b) (h1 : s.heap.IsListIter i1 l1 k1) (h2 : s.heap.IsListIter i2 l2 k2) (hl1 : s.heap.IsList l1 xs) (hl2 : s.heap.IsList l2 ys) (over : xs[k1]? = none ∨ ys[k2]? = none)
    (end_ : ∀ h', (∀ c o, c ≠ z → c ≠ TO → c ≠ i1 → c ≠ i2 → s.heap.get? c = some o → h'.get? c = some o) → Q none { s with heap := h' }) : wpAny (model prog w) A (pyNext (.ref z)) Q E s := by
  have ty : s.TypeIs (.ref z) "zip" := ⟨_, hz, rfl⟩
  unfold pyNext
  refine wpAny_bind (wpAny_attempt (wpAny_callSpecial?_slot (name := Str.ofString "__next__") ty F.slot_zip_next (wpAny_call_entry F.slot_zip_next ty F.entry_zip_next (zip_end_hot hot D far hz hTI hTO h1 h2 hl1 hl2 over fun h' e hk he => ?_) (F.args_zip_next_1 _))))
  obtain ⟨oe, ge, ce⟩ := he
  exact wpAny_bind (wpAny_isInstance (T := "StopIteration") (b := true) ⟨oe, ge, ce⟩ isSubtype_stop (wpAny_pure (end_ _ hk)))
theorem pyNext_tuple_end_hot {it l x1 : Addr} {i : Nat} {cont : Array Value} {Q : Option Value → Shared → Prop} (hot : HotAt A x1 s.heap) (ne1 : x1 ≠ it) (at1 : s.heap.IsTupleIter it l i) (at2 : s.heap.IsTuple l cont) (over : cont[i]? = none)
    (end_ : ∀ h', Heap.ExtBut it s.heap h' → Q none { s with heap := h' }) : wpAny (model prog w) A (pyNext (.ref it)) Q E s := by
  obtain ⟨oi, gi, ci, di⟩ := id at1
  obtain ⟨ol, gl, _, nl, dl⟩ := at2
  obtain ⟨hh, o1, vs1, h1, d1, c1⟩ := hot
  unfold pyNext
  refine wpAny_bind (wpAny_attempt (wpAny_callSpecial?_slot (name := Str.ofString "__next__") at1.typeIs F.slot_tuple_iterator_next (wpAny_call_entry F.slot_tuple_iterator_next at1.typeIs F.entry_tuple_iterator_next ?_ (F.args_tuple_iterator_next_1 _))))
  show wpAny _ _ (field (.ref it) 0 >>= _) _ _ s
  refine wpAny_bind (wpAny_field gi di (x := .ref l) rfl ?_)
  show wpAny _ _ (if (Value.ref l == Value.none) = true then _ else _) _ _ s
  have notNone : ¬ ((Value.ref l == Value.none) = true) := Bool.false_ne_true
  rw [if_neg notNone]
  show wpAny _ _ (field (.ref it) 1 >>= _) _ _ s
  refine wpAny_bind (wpAny_field gi di (x := .int i 0) rfl ?_)
  show wpAny _ _ (seqItems? (.ref l) >>= _) _ _ s
  refine wpAny_bind (wpAny_seqItems gl dl ?_)
  simp only [Int.toNat_natCast, over]
  refine wpAny_bind (wpAny_rule (wpAny_bind (wpAny_setField gi di (by simp) ?_)))
  show wpAny _ _ (newExc (.type "StopIteration") [] >>= _) _ _ _
  refine wpAny_bind ?_
  simp only [newExc, newTuple]
  refine wpAny_bind (wpAny_newObj_type ?_ (by size_fits))
  refine wpAny_bind (m := firstArgMember _ _) (wpAny_of_eq (a := Value.none) (by first | rfl | (simp only [firstArgMember]; rfl)) ?_)
  refine wpAny_newObj_type ?_ (by size_fits)
  have h1' := (Heap.get?_update_other s.heap (Obj.mapFields (·.setIfInBounds 0 Value.none)) ne1.symm).trans h1
  refine raiseNew_hot ⟨hh, o1, vs1, Heap.get?_push_of_some _ (Heap.get?_push_of_some _ h1'), d1, c1⟩ (Nat.ne_of_lt (Heap.lt_size (Heap.get?_push_of_some _ h1'))) (Heap.get?_push_size _ rfl) rfl (by first | (simp; done) | (simp; omega) | (simp only [Array.size_append]; simp; omega)) ?_
  refine wpAny_bind (wpAny_isInstance (T := "StopIteration") (b := true) ⟨_, Heap.get?_update_self _ (Heap.get?_push_size _ rfl) rfl, rfl⟩ isSubtype_stop ?_)
  refine wpAny_pure (end_ _ fun b o nb g => ?_)
  have g1 := (Heap.get?_update_other s.heap (Obj.mapFields (·.setIfInBounds 0 Value.none)) (Ne.symm nb)).trans g
  rw [Heap.get?_update_other _ _ (Nat.ne_of_gt (Heap.lt_size (Heap.get?_push_of_some _ g1)))]
  exact Heap.get?_push_of_some _ (Heap.get?_push_of_some _ g1)
theorem assign_tuple_hot {env : Env} {elts : List Expr} {kk : Nat} {pos : Pos} {t x1 : Addr} {cont : Array Value} {Q : Unit → Shared → Prop} (hot : HotAt A x1 s.heap) (at2 : s.heap.IsTuple t cont) (hn : (assignEach elts env).length = cont.size) (star : (assignEach elts env).findIdx? (·.1) = none)
    (h : ∀ h', Heap.ExtBut s.heap.objs.size s.heap h' → wpAny (model prog w) A (assignInOrder ((assignEach elts env).map (·.2)) cont.toList) Q E { s with heap := h' }) : wpAny (model prog w) A (assign (.Tuple elts kk pos) env (.ref t)) Q E s := by
  obtain ⟨hh, o1, vs1, h1, d1, c1⟩ := hot
  have lt : t ≠ s.heap.objs.size := by
    obtain ⟨o, ho, _⟩ := at2
    exact Nat.ne_of_lt (Heap.lt_size ho)
  have lt1 : x1 ≠ s.heap.objs.size := Nat.ne_of_lt (Heap.lt_size h1)
  rw [arm_assign_Tuple]
  refine wpAny_bind (wpAny_standAt ?_)
  unfold unpack
  rw [hn, star]
  refine wpAny_bind (wpAny_holding ?_)
  unfold unpackItems
  refine wpAny_bind ?_
  unfold notIterableAtAll
  refine wpAny_bind (wpAny_specialOf at2.typeIs F.slot_tuple_iter.lookup ?_)
  refine wpAny_pure ?_
  simp only [Bool.false_eq_true, if_false]
  refine wpAny_bind (wpAny_holding (wpAny_pyIter_tuple at2 ?_))
  refine wpAny_bind (wpAny_holding (wpAny_draw_tuple lt cont.size 0 _ _ ⟨_, Heap.get?_push_size _ rfl, rfl, rfl⟩ (at2.push _) (by omega) fun hA itA sA => ?_))
  have whole : List.take cont.size (List.drop 0 cont.toList) = cont.toList := by
    rw [List.drop_zero]
    exact List.take_of_length_le (by simp)
  rw [whole, if_neg (by simp)]
  have at2A : hA.IsTuple t cont := (at2.push _).extBut sA.extBut lt
  have h1A := sA.extBut _ _ lt1 (Heap.get?_push_of_some _ h1)
  refine wpAny_bind (wpAny_holding (pyNext_tuple_end_hot (x1 := x1) ⟨hh, o1, vs1, h1A, d1, c1⟩ lt1 itA at2A (by simp) fun hB kB => ?_))
  simp only [Option.isSome_none, Bool.false_eq_true, if_false]
  exact wpAny_pure (h hB fun b o nb e => kB b o nb (sA.extBut b o nb (Heap.get?_push_of_some _ e)))
end
end HotX

set_option Elab.async false
set_option linter.all false
set_option maxRecDepth 100000
set_option maxHeartbeats 4000000
/-! a comprehension over zip where an exception is handled -/
namespace L2H
open PySem PySem.Spec PyProof.Rows L2 HotX
theorem HotC.far {X : Cx} {pins : List (Addr × Obj)} {σ : St} {H : Hp} {s : Shared} (c : HotC X) (I : Inv X pins σ H s) : ∃ x1, HotAt X.A x1 s.heap ∧ ∀ b, FpOk X pins H b → x1 ≠ b := by
  obtain ⟨p, ⟨hh, vs, dt, nn⟩, mem⟩ := c
  exact ⟨p.1, ⟨hh, p.2, vs, (I.pin p (List.mem_append_left _ mem)).1, dt, nn⟩, fun b ok => ok.2.2.2.2.2 p (List.mem_append_left _ mem)⟩
theorem turn_zipH {P : Program} {w : World} {K : PySem.W.Frag} {elts : List Expr} {kk : Nat} {tpos : Pos} {a b z TI TO i1 i2 : Addr} (D : ZipApart z TI TO i1 i2 a b) :
    TurnH P w K (.Tuple elts kk tpos) (Itz K a b) [z, TI, TO, i1, i2] z (fun i h => IsZip h z TI TO .none ∧ IsPair h TI (.ref i1) (.ref i2) ∧ (∃ x y, IsPair h TO x y) ∧ h.IsListIter i1 a i ∧ h.IsListIter i2 b i) where
  mem := (turn_zip (P := P) (w := w) (K := K) (elts := elts) (kk := kk) (tpos := tpos) D).mem
  obj := (turn_zip (P := P) (w := w) (K := K) (elts := elts) (kk := kk) (tpos := tpos) D).obj
  keep := (turn_zip (P := P) (w := w) (K := K) (elts := elts) (kk := kk) (tpos := tpos) D).keep
  self := (turn_zip (P := P) (w := w) (K := K) (elts := elts) (kk := kk) (tpos := tpos) D).self
  item := by
    intro X hP hw hK _ i pins s σ H E I hf st hg
    subst hP hw hK
    obtain ⟨hz, hTI, ⟨x0, y0, hTO⟩, h1, h2⟩ := st
    obtain ⟨xs, ys, x, y, sx, sy, ex, ey⟩ := hg
    obtain ⟨its, rv, p, _⟩ := I.list sx
    obtain ⟨its2, rv2, p2, _⟩ := I.list sy
    obtain ⟨u, hu, ru⟩ := rv.get ex
    obtain ⟨u2, hu2, ru2⟩ := rv2.get ey
    have zl : z < s.heap.objs.size := Heap.lt_size hz
    have low : ∀ c, c ∈ [z, TI, TO, i1, i2] → c < s.heap.objs.size := by
      intro c hc
      simp only [List.mem_cons, List.not_mem_nil, or_false] at hc
      obtain ⟨_, e1, _⟩ := h1
      obtain ⟨_, e2, _⟩ := h2
      rcases hc with q | q | q | q | q
      · exact q ▸ zl
      · exact q ▸ Heap.lt_size hTI
      · exact q ▸ Heap.lt_size hTO
      · exact q ▸ Heap.lt_size e1
      · exact q ▸ Heap.lt_size e2
    refine wpAny_pyNext_zip_item D hz hTI hTO h1 h2 p.isList p2.isList (x := u) (y := u2) (by simpa using hu) (by simpa using hu2) fun hA zA TOA itA it2A newA szA kA => ?_
    refine ⟨_, rfl, wpAny_letOwnedTupleGo_zip (s := { s with heap := hA }) zA fun hB zB sb => ?_⟩
    have nB : hB.get? s.heap.objs.size = some { cls := .type "tuple", data := .seq #[u, u2] } := (sb.2 _ (Nat.ne_of_gt zl)).trans newA
    have okN : ObjOk X.prog X.w (upd H s.heap.objs.size (.tup [x, y])) hB s.heap.objs.size (.tup [x, y]) := by
      refine ⟨?_, [u, u2], .cons ru (.cons ru2 .nil), ⟨_, nB, rfl, _, rfl⟩⟩
      show 2 ≤ sizeLine
      decide
    have kB : ∀ c o, c ∉ [z, TI, TO, i1, i2] → s.heap.get? c = some o → hB.get? c = some o := by
      intro c o nc q
      simp only [List.mem_cons, List.not_mem_nil, or_false, not_or] at nc
      exact (sb.2 c nc.1).trans (kA c o nc.1 nc.2.2.1 nc.2.2.2.1 nc.2.2.2.2 q)
    have J : Inv X pins σ (upd H s.heap.objs.size (.tup [x, y])) { s with heap := hB } := I.turnedNew (t' := s.toks) kB hf (Nat.le_refl _) okN
    refine ⟨.ref s.heap.objs.size, _, J, rfl, ⟨_, x, y, rfl, I.hok.fresh (Nat.le_refl _), rfl, fun l hl => ?_, fun l hl => ?_⟩, ⟨zB, ?_, ⟨u, u2, ?_⟩, ?_, ?_⟩, fun c hc => ?_⟩
    · rw [I.list_inj hl sx]
      exact ex
    · rw [I.list_inj hl sy]
      exact ey
    · exact (sb.2 _ D.TIz).trans (kA _ _ D.TIz D.TITO D.TIi1 D.TIi2 hTI)
    · exact (sb.2 _ D.TOz).trans TOA
    · exact itA.at fun o q => (sb.2 _ D.i1z).trans q
    · exact it2A.at fun o q => (sb.2 _ D.i2z).trans q
    · rw [upd_ne (Nat.ne_of_lt (low c hc))]
      exact (hf c hc).1
  done := by
    intro X hP hw hK hc i pins s σ H E I hf st hg
    subst hP hw hK
    obtain ⟨hz, hTI, ⟨x0, y0, hTO⟩, h1, h2⟩ := st
    obtain ⟨xs, ys, sx, sy, over⟩ := hg
    obtain ⟨its, rv, p, _⟩ := I.list sx
    obtain ⟨its2, rv2, p2, _⟩ := I.list sy
    have l1 := rv.length
    have l2 := rv2.length
    obtain ⟨x1, hot, far⟩ := hc.far I
    have over' : its.toArray[i]? = none ∨ its2.toArray[i]? = none := by
      cases over with
      | inl q => exact .inl (by simp; omega)
      | inr q => exact .inr (by simp; omega)
    refine pyNext_zip_end_hot hot D ⟨far z (hf z (by simp)), far TO (hf TO (by simp)), far i1 (hf i1 (by simp)), far i2 (hf i2 (by simp))⟩ hz hTI hTO h1 h2 p.isList p2.isList over' fun h' hk => ⟨rfl, ?_⟩
    refine I.turnedL (t' := s.toks) (ch := [z, TI, TO, i1, i2]) (fun c o nc q => ?_) hf
    simp only [List.mem_cons, List.not_mem_nil, or_false, not_or] at nc
    exact hk c o nc.1 nc.2.2.1 nc.2.2.2.1 nc.2.2.2.2 q
theorem pi_zipH {X : Cx} {e e2 : Expr} {ta : TA} {p pos tpos : Pos} {elts : List Expr} {kk : Nat} (hg : Gl X "zip") (hm : X.mg "zip" = none) (ha : PA X [e, e2] ta)
    (hs : starEach [e, e2] X.env = (false, eval e X.env) :: starEach [e2] X.env := by rfl) (hpl : (backTo pos (starEach [e2] X.env)).any (·.1) = false := by rfl) :
    PIH X (.Tuple elts kk tpos) (.Call (.Name "zip" p) [e, e2] [] pos) (iZip X.K ta) := by
  constructor
  intro pins s σ H R I ask
  refine Call_ (ld_blt I hg hm PyProof.Rows.boot_zip (PyProof.Rows.callWith_type1 (thn (ha.run pos pins s σ H _ I ask) fun us s1 got => ?_) hs hpl))
  obtain ⟨vs, H1, I1, rels, a, b, xs, ys, ev, sx, sy, want⟩ := got
  subst ev
  obtain ⟨u1, u2, rfl, r1, r2⟩ := vals2 rels
  cases (show u1 = Value.ref a from r1)
  cases (show u2 = Value.ref b from r2)
  obtain ⟨its, rv, p1, _⟩ := I1.list sx
  obtain ⟨its2, rv2, p2, _⟩ := I1.list sy
  refine call_zip_2 p1.isList p2.isList fun h' hz hTI hTO h1 h2 hsz hk => wpAny_pyIter_zip hz ?_
  have I2 : Inv X pins σ H1 { s1 with heap := h' } := I1.kept (t' := s1.toks) hk
  refine ⟨s1.heap.objs.size + 4, _, _, _, H1, rfl, I2, turn_zipH (PySem.W.ktu_apart s1.heap.objs.size a b p1.lt p2.lt), ⟨hz, hTI, ⟨_, _, hTO⟩, h1, h2⟩, fun c hc => ?_, want⟩
  have le : s1.heap.objs.size ≤ c := by
    simp only [List.mem_cons, List.not_mem_nil, or_false] at hc
    rcases hc with q | q | q | q | q
    · rw [q]; exact Nat.le_add_right _ _
    · rw [q]; exact Nat.le_add_right _ _
    · rw [q]; exact Nat.le_add_right _ _
    · rw [q]; exact Nat.le_refl _
    · rw [q]; exact Nat.le_add_right _ _
  exact I1.fpOk le (I1.hok.fresh le)
/-- (a, b, ..) = a tuple of that length -/
theorem pg_tupH {X : Cx} {es : List Expr} {k : Nat} {t : TGs} {n : Nat} {pos : Pos} (hc : HotC X) (h : PGs X es t) (hn : (assignEach es X.env).length = n := by rfl) (hst : (assignEach es X.env).findIdx? (·.1) = none := by rfl) : PG X (.Tuple es k pos) (gTup X.K n t) := by
  constructor
  intro pins s σ H v u Q I r hw
  obtain ⟨a, xs, e1, hq, hl, hw⟩ := hw
  subst e1
  cases r
  obtain ⟨its, rv, ht, _⟩ := I.tuple hq
  obtain ⟨x1, hot⟩ := hc.at I
  refine assign_tuple_hot hot ht (by simp [hn, ← hl, rv.length]) hst fun h' hx => ?_
  have I1 : Inv X pins σ H { s with heap := h' } := I.kept (t' := s.toks) fun b o e => hx b o (Nat.ne_of_lt (Heap.lt_size e)) e
  exact h.run pins _ σ H xs _ Q I1 (by simpa using rv) hw
/-- a block's context that keeps the caught error -/
abbrev Cx.blkH (X : Cx) (p : Addr × Obj) (s : Shared) (H : Hp) (scope : Scope) (cenv : Env) (fp : List Addr) : Cx := { X with s_0 := s, H_0 := H, env := cenv, outer := X.stack, ex := fp, fn := fun x => scope.names.lookup x == some .cell, pn := [p], xe := fun _ _ => False }
section
variable {X : Cx} {pe0 : Addr × Obj}
theorem lc_coreH {pins : List (Addr × Obj)} {s : Shared} {σ : St} {H : Hp} {Q : VK} {elt tg iter : Expr} {ifs : List Expr} {scope : Scope} {own : List (Str × Nat)} {pos pos' : Pos} {wi : TI} {g : TG} {tt : TT} {te : TE} {use : Option (Value → Sem Unit)} {Qf : Value → Shared → Prop}
    (hot : Hot1 X.A pe0) (hpn : pe0 ∈ X.pn) (nodup : X.N.Nodup) (I : Inv X pins σ H s) (walk : PIH X tg iter wi) (ok : BlkOk X.N X.env.scope scope own)
    (hg : ∀ (s : Shared) (H : Hp) (C : Addr) (cl : List (Str × Addr)) (fp : List Addr), PG (Cx.blkH X pe0 s H scope (compEnvC scope cl C X.env) fp) tg g) (ht : ∀ (s : Shared) (H : Hp) (C : Addr) (cl : List (Str × Addr)) (fp : List Addr), PTs (Cx.blkH X pe0 s H scope (compEnvC scope cl C X.env) fp) ifs tt)
    (he : ∀ (s : Shared) (H : Hp) (C : Addr) (cl : List (Str × Addr)) (fp : List Addr), PE (Cx.blkH X pe0 s H scope (compEnvC scope cl C X.env) fp) elt te) (hs : ∀ x, foldedSetIterable iter X.env x = pure x)
    (ask : tLc wi g tt te (own.map (·.2)) σ H Q)
    (back : ∀ D C s' m H', Inv X pins σ H' s' → Q (.ref D) H' → s'.heap.Ns C m → FpOk X pins H' C → compPost (model X.prog X.w) X.A X.xe use Qf (.ref D) C (.ok .next) s') :
    wpAny (model X.prog X.w) X.A (comprehension (.ListComp elt [⟨tg, iter, ifs, 0⟩] scope pos) scope X.env pos' (newList []) false (eval iter X.env) use) Qf X.xe s := by
  have cellsOk : ∀ y ∈ scope.names, y.2 = .free → ∃ c, X.env.cells.lookup y.1 = some c := by
    intro y hy e
    cases ok.free y hy e with
    | inl k => exact I.ok.has _ (.inl k)
    | inr k => exact I.ok.has _ (.inr k)
  refine wpAny_comprehension_free (use := use) rfl hs (closure_ok cellsOk) ok.kind (fun y hy e => by rw [ok.uniq y hy, e]) (thn (walk.run pins s σ H _ I ask) fun xv sA hx => thn hx fun itv sB got => ?_)
  obtain ⟨it, fp, tn, J, HB, e, IB, T, stB, fpB, q⟩ := got
  subst e
  refine wpAny_newObj_type (newEnv_comp ?_) (by show 0 ≤ sizeLine; decide)
  generalize hD : sB.heap.objs.size = D
  have freeD : HB D = none := IB.hok.fresh (Nat.le_of_eq hD)
  obtain ⟨W, ⟨m0, w0⟩, turn⟩ := q D freeD
  generalize hsC : ({ sB with heap := sB.heap.push { cls := .type "list", data := .seq ([] : List Value).toArray } } : Shared) = sC
  have IC : Inv X pins σ (upd HB D (.lst [])) sC := by
    rw [← hsC]
    refine IB.laid (t' := sB.toks) (fun b o e => Heap.get?_push_of_some _ e) (Nat.le_of_eq hD) ⟨Nat.zero_le _, [], 0, .nil, ?_⟩
    rw [← hD]
    exact Heap.get?_push_size _ rfl
  have heapC : sC.heap = sB.heap.push { cls := .type "list", data := .seq ([] : List Value).toArray } := by rw [← hsC]
  have fpC : ∀ b ∈ fp, FpOk X pins (upd HB D (.lst [])) b ∧ b < sC.heap.objs.size := by
    intro b hb
    obtain ⟨o, eo, _⟩ := T.obj _ _ stB b hb
    have lt := Heap.lt_size eo
    refine ⟨⟨?_, (fpB b hb).2⟩, ?_⟩
    · rw [upd_ne (by rw [← hD]; exact Nat.ne_of_lt lt)]
      exact (fpB b hb).1
    · rw [heapC, Heap.size_push]
      exact Nat.lt_succ_of_lt lt
  have stC : tn 0 sC.heap := T.keep _ _ _ stB fun b _ o e => by
    rw [heapC]
    exact Heap.get?_push_of_some _ e
  have ID0 := block_start IC ok nodup fpC
  have pg := hg sC (upd HB D (.lst [])) sC.heap.objs.size (cellsFrom (sC.heap.objs.size + 1) scope.names (cloFrom X.env.cells scope.names [])) fp
  have pt := ht sC (upd HB D (.lst [])) sC.heap.objs.size (cellsFrom (sC.heap.objs.size + 1) scope.names (cloFrom X.env.cells scope.names [])) fp
  have pe := he sC (upd HB D (.lst [])) sC.heap.objs.size (cellsFrom (sC.heap.objs.size + 1) scope.names (cloFrom X.env.cells scope.names [])) fp
  show codeAny _ _ (.compStart (.ListComp elt [⟨tg, iter, ifs, 0⟩] scope pos) 0 (.ref it) (.ref D) (compEnvC scope (cellsFrom (sC.heap.objs.size + 1) scope.names (cloFrom X.env.cells scope.names [])) sC.heap.objs.size X.env)) (compPost (model X.prog X.w) X.A X.xe use Qf (.ref D) sC.heap.objs.size) { sC with heap := pushCells (sC.heap.push { cls := .type "dict", data := .dict #[] }) scope.names }
  have noneAt : ∀ b ∈ fp, (upd HB D (.lst [])) b = none := fun b hb => (fpC b hb).1.1
  generalize hce : compEnvC scope (cellsFrom (sC.heap.objs.size + 1) scope.names (cloFrom X.env.cells scope.names [])) sC.heap.objs.size X.env = ce at ID0 pg pt pe ⊢
  have locC : ce.locals = sC.heap.objs.size := by
    subst hce
    rfl
  generalize hHC : upd HB D (.lst []) = HC at IC ID0 pg pt pe w0 noneAt fpC
  have kD : ∀ b o, sC.heap.get? b = some o → (pushCells (sC.heap.push { cls := .type "dict", data := .dict #[] }) scope.names).get? b = some o := fun b o e => pushCells_keeps _ _ _ _ (Heap.get?_push_of_some _ e)
  generalize hsD : ({ sC with heap := pushCells (sC.heap.push { cls := .type "dict", data := .dict #[] }) scope.names } : Shared) = sD at ID0 ⊢
  have kD' : ∀ b o, sC.heap.get? b = some o → sD.heap.get? b = some o := fun b o e => by
    rw [← hsD]
    exact kD b o e
  -- the caught error stays pinned in the block
  have pinC := IC.pin pe0 (List.mem_append_left _ hpn)
  have okH : (Cx.blkH X pe0 sC HC scope ce fp).Ok := ⟨ID0.ok.mod, ID0.ok.kind, ID0.ok.glob, ID0.ok.blt, ID0.ok.above, ID0.ok.inj, ID0.ok.has, ID0.ok.cab, ID0.ok.hd, ID0.ok.frames, ID0.ok.stk, ID0.ok.exf, ID0.ok.bs, ID0.ok.bsz, ID0.ok.noex, ID0.ok.exfs, ID0.ok.funs, ID0.ok.frf⟩
  have ID : Inv (Cx.blkH X pe0 sC HC scope ce fp) [] (wipe σ (own.map (·.2))) HC sD := by
    refine ⟨okH, ID0.os, ID0.bare, ID0.base, ID0.loc, ID0.cell, ID0.free, ID0.freeC, fun p hp => ?_, ID0.hok, ID0.len⟩
    have ep : p = pe0 := by simpa using (show p ∈ [pe0] ++ ([] : List (Addr × Obj)) from hp)
    subst ep
    refine ⟨kD' _ _ pinC.1, pinC.2.1, ?_, fun m => ?_, pinC.2.2.2.2⟩
    · show p.1 ≠ ce.locals
      rw [locC]
      exact Nat.ne_of_lt (Heap.lt_size pinC.1)
    · exact (List.mem_cons.mp (IC.stkSub p.1 m)).elim pinC.2.2.1 pinC.2.2.2.1
  have stD : tn 0 sD.heap := T.keep _ _ _ stC fun b _ o e => kD' b o e
  have hcH : HotC (Cx.blkH X pe0 sC HC scope ce fp) := ⟨pe0, hot, List.mem_singleton.mpr rfl⟩
  have still : ∀ {σ' : St} {H' : Hp} {s' : Shared}, Inv (Cx.blkH X pe0 sC HC scope ce fp) [] σ' H' s' → (∀ b ∈ fp, H' b = none) → ∀ b ∈ fp, FpOk (Cx.blkH X pe0 sC HC scope ce fp) [] H' b := by
    intro σ' H' s' I' hn b hb
    refine ⟨hn b hb, (I'.ok.exf b hb).1, I'.ok.exfs b hb, .inl hb, fun x c e => (I'.ok.exf b hb).2 x c e, fun p hp => ?_⟩
    have ep : p = pe0 := by simpa using (show p ∈ [pe0] ++ ([] : List (Addr × Obj)) from hp)
    subst ep
    exact (fpC b hb).1.2.2.2.2.2 p (List.mem_append_left _ hpn)
  have loop : codeAny (model X.prog X.w) X.A (.compLoop (.ListComp elt [⟨tg, iter, ifs, 0⟩] scope pos) 0 (.ref it) (.ref D) ce) (compPost (model X.prog X.w) X.A X.xe use Qf (.ref D) sC.heap.objs.size) sD := by
    refine compLoop_any (fun n s' => ∃ i H', Inv (Cx.blkH X pe0 sC HC scope ce fp) [] (wipe σ (own.map (·.2))) H' s' ∧ tn i s'.heap ∧ (∀ b ∈ fp, H' b = none) ∧ W i n H') ?_ m0 ⟨0, HC, ID, stD, noneAt, w0⟩
    rintro n s5 ⟨i, H5, I5, st5, n5, w5⟩
    rcases turn i n H5 w5 with ⟨stop, qq⟩ | ⟨go, Nx, hNx, step⟩
    · refine thnF (T.done (Cx.blkH X pe0 sC HC scope ce fp) rfl rfl rfl hcH i [] s5 _ H5 (fun _ _ => False) I5 (still I5 n5) st5 stop) fun r s6 ⟨hr, I6⟩ => ?_
      subst hr
      have I7 : Inv X pins σ H5 s6 := IC.call' (ch := fp) I6.os I6.base I6.hok I6.bare fun b hb => ⟨(fpC b hb).1.2.2.2.1, (fpC b hb).1.2.1, (fpC b hb).1.2.2.2.2.1, (fpC b hb).1.2.2.2.2.2⟩
      have noC : H5 sC.heap.objs.size = none := by
        have z : H5 ce.locals = none := I6.free
        rw [locC] at z
        exact z
      obtain ⟨m, hn, _⟩ := I6.loc
      have hn' : s6.heap.Ns ce.locals m := hn
      rw [locC] at hn'
      exact back D sC.heap.objs.size s6 m H5 I7 qq hn' (IC.fpOk (Nat.le_refl _) noC)
    · refine thnF (T.item (Cx.blkH X pe0 sC HC scope ce fp) rfl rfl rfl hcH i [] s5 _ H5 (fun _ _ => False) I5 (still I5 n5) st5 go) fun r s6 ⟨u, hr, h6⟩ => ?_
      subst hr
      refine thnF h6 fun _ s7 ⟨x, H7, I7, r7, y7, st7, n7⟩ => ?_
      have P7 := I7.pinned (still I7 n7) (T.obj _ _ st7)
      refine thnF (pg.run _ s7 _ H7 x u _ P7 r7 (step x H7 y7)) fun _ s8 ⟨σ8, H8, I8, hw8, q8⟩ => ?_
      refine thnF (pt.run _ s8 σ8 H8 _ I8 q8) fun b s9 ⟨H9, I9, q9⟩ => ?_
      have fin : ∀ {s' : Shared} {H' : Hp}, Inv (Cx.blkH X pe0 sC HC scope ce fp) ([] ++ pinsAt fp s7.heap) σ8 H' s' → Nx H' → ∃ m, m < n ∧ ∃ i H', Inv (Cx.blkH X pe0 sC HC scope ce fp) [] (wipe σ (own.map (·.2))) H' s' ∧ tn i s'.heap ∧ (∀ b ∈ fp, H' b = none) ∧ W i m H' := by
        intro s' H' I' nx
        obtain ⟨m', hm, w'⟩ := hNx H' nx
        have stays : ∀ b ∈ fp, ∀ o, s7.heap.get? b = some o → s'.heap.get? b = some o ∧ H' b = none := fun b hb o e =>
          let z := I'.pin (b, o) (List.mem_append_right _ (List.mem_append_right _ (mem_pinsAt hb e)))
          ⟨z.1, z.2.1⟩
        have hl : (wipe σ (own.map (·.2))).length = σ8.length := by rw [← hw8, wipe_length]
        refine ⟨m', hm, i + 1, H', (I'.unpinned (pins := [])).weak hl (fun j v e => ?_), T.keep _ _ _ st7 fun b hb o e => (stays b hb o e).1, fun b hb => ?_, w'⟩
        · rw [← hw8] at e
          exact (wipe_some e).1
        · obtain ⟨o, e, _⟩ := T.obj _ _ st7 b hb
          exact (stays b hb o e).2
      cases b with
      | false =>
        simp only [Bool.false_eq_true, if_false] at q9 ⊢
        exact fin I9 q9
      | true =>
        simp only [if_true] at q9 ⊢
        refine thnF (pe.run _ s9 σ8 H9 _ I9 q9) fun z s10 ⟨yv, H10, I10, r10, acc, hD10, hz10, nx⟩ => ?_
        exact app_ok (X := Cx.blkH X pe0 sC HC scope ce fp) I10 hD10 hz10 r10 fun s11 I11 => fin I11 nx
  exact codeAny_compStart_list loop (T.self X.A 0 _ _ _ stD loop)
theorem pe_lcH {elt tg iter : Expr} {ifs : List Expr} {scope : Scope} {own : List (Str × Nat)} {pos : Pos} {wi : TI} {g : TG} {tt : TT} {te : TE} (hot : Hot1 X.A pe0) (hpn : pe0 ∈ X.pn) (nodup : X.N.Nodup) (walk : PIH X tg iter wi) (ok : BlkOk X.N X.env.scope scope own)
    (hg : ∀ (s : Shared) (H : Hp) (C : Addr) (cl : List (Str × Addr)) (fp : List Addr), PG (Cx.blkH X pe0 s H scope (compEnvC scope cl C X.env) fp) tg g) (ht : ∀ (s : Shared) (H : Hp) (C : Addr) (cl : List (Str × Addr)) (fp : List Addr), PTs (Cx.blkH X pe0 s H scope (compEnvC scope cl C X.env) fp) ifs tt)
    (he : ∀ (s : Shared) (H : Hp) (C : Addr) (cl : List (Str × Addr)) (fp : List Addr), PE (Cx.blkH X pe0 s H scope (compEnvC scope cl C X.env) fp) elt te) (hs : ∀ x, foldedSetIterable iter X.env x = pure x := by intro _; rfl) :
    PE X (.ListComp elt [⟨tg, iter, ifs, 0⟩] scope pos) (tLc wi g tt te (own.map (·.2))) := by
  constructor
  intro pins s σ H Q I ask
  rw [eval_ListComp]
  refine lc_coreH hot hpn nodup I walk ok hg ht he hs ask fun D C s' m H' I' q ns fpk => ⟨m, ns, fun h'' sb => ?_⟩
  obtain ⟨f0, f1, f2, f3, f4, f5⟩ := fpk
  have J := I'.turned (t' := s'.toks) (fun b o nb e => (sb.2 b nb).trans e) f0 f1 f3 f4 f5
  exact ⟨.ref D, H', J, rfl, q⟩
end
end L2H

set_option Elab.async false
set_option linter.all false
set_option maxRecDepth 100000
set_option maxHeartbeats 4000000
namespace WG
open PySem PySem.Spec PyProof.Rows L2 L2H
/-! ### a def that is called within an except suite and gets the caught error -/
/-- the promise: Z tells of the error's object, sp of the error's address -/
structure FnP (P : Program) (w : World) (K : PySem.W.Frag) (mg : Str → Option Value) (base : Heap) (k : Nat) (f : Addr) (fd : FuncData) (ps : List Str) (Z : Obj → Prop) (sp : Addr → Sp) : Prop where
  len : ∀ a vs H Q E, sp a vs H Q E → vs.length = ps.length
  run : ∀ (A : Around) (outer : List Env) (s : Shared) (H : Hp) (args : Args) (us : List Value) (vs : List V) (Q : VK) (E : XK) (p : Addr × Obj), RoomH k A → Z p.2 → PinOk outer H s p → Env0 P w K mg base A outer s H →
    BindsTo s fd args (ps.zip us) → Vals vs us → sp p.1 vs H Q E → codeAny (model P w) A (.call (.ref f) args) (CR CX0 outer P w H s Q E) s
theorem fnP_of {P : Program} {w : World} {K : PySem.W.Frag} {mg : Str → Option Value} {base : Heap} {k : Nat} {f : Addr} {fd : FuncData} {x qual : Str} {st : Stmt} {N ps : List Str} {Z : Obj → Prop} {sp : Addr → Sp}
    (F : Fun K x qual st f fd) (S : FnScope N ps (defScope st)) (len : ∀ a vs H Q E, sp a vs H Q E → vs.length = ps.length)
    (body : ∀ (cdv : Value) (A : Around) (outer : List Env) (s : Shared) (H : Hp) (vs : List V) (Q : VK) (E : XK) (p : Addr × Obj), Z p.2 → RoomH k (A.deeper (envOfC qual (defScope st) s.heap.objs.size f cdv)) → sp p.1 vs H Q E →
      ∃ t, PSs (cxH CX0 P w K mg base N qual (defScope st) f cdv A outer s H E p) (defBody st) t ∧ t { nx := fun _ H' => Q .non H', rt := Q } (L2.start N vs) H) :
    FnP P w K mg base (k + 1) f fd ps Z sp := by
  obtain ⟨oc, od, kV, doc, pm, an, cdv, ct, osl, rfl, look, code⟩ := F.ex
  refine ⟨len, fun A outer s H args us vs Q E p room hz pin env bnd rels want => ?_⟩
  have hlen := len _ _ _ _ _ want
  have kin : K.In s.heap := env.mod.kin.keeps fun b o q => (env.bs b o q).1
  have nolim : s.heap.NoLimit := env.mod.nolimit.keeps fun b o q => (env.bs b o q).1
  have kinds : ∀ y ∈ ps.zip us, (defScope st).names.lookup y.1 = some .local ∨ ((defScope st).names.lookup y.1 = some .cell ∧ ((cellsFrom (s.heap.objs.size + 1) (defScope st).names []).lookup y.1).isSome = true) := by
    intro y hy
    obtain ⟨n, v⟩ := y
    cases S.par n (List.of_mem_zip hy).1 with
    | inl z => exact .inl z
    | inr z => exact .inr ⟨z, PySem.W.cellsFrom_some _ _ _ (.inl z)⟩
  refine codeAny_call_function room.depth (kin _ _ look) rfl S.co S.gen rfl (PySem.W.codeRec_of kin code) (bnd _ _ _ _ ?_)
  refine wpAny_newFunctionEnv_cells S.kind kinds fun e2 he2 s1 hx => ?_
  subst he2
  refine ⟨nolim.keeps hx.toInCall.keep, codeAny_func ?_⟩
  obtain ⟨t, tb, tq⟩ := body cdv A outer s H vs Q E p hz (room.deeper _) want
  have I : Inv (cxH CX0 P w K mg base N qual (defScope st) f cdv A outer s H E p) [] (L2.start N vs) H s1 := inv_startH S pin env hlen rels hx
  refine wpAny_mono (tb.run [] s1 (L2.start N vs) H _ I tq) (fun fl s' hs => ?_) fun e s' hs => hs
  cases fl with
  | ret u =>
    obtain ⟨v, _, H', J, rv, q⟩ := hs
    exact ⟨v, H', J.os, J.bare, J.base, J.hok, rv, q⟩
  | next =>
    obtain ⟨_, H', J, q⟩ := hs
    exact ⟨V.non, H', J.os, J.bare, J.base, J.hok, rfl, q⟩
  | brk =>
    obtain ⟨_, _, _, q⟩ := hs
    exact False.elim q
  | cont =>
    obtain ⟨_, _, _, q⟩ := hs
    exact False.elim q
def tCallP (a : Addr) (sp : Addr → Sp) (t : TA) : TE := fun σ H Q => t σ H fun vs H1 => sp a vs H1 Q (fun _ _ _ => False)
theorem pe_callP {X : Cx} {a : Addr} {oe : Obj} {pn : List (Addr × Obj)} {k : Nat} {f : Addr} {fd : FuncData} {ps : List Str} {Z : Obj → Prop} {sp : Addr → Sp} {x : Str} {q pos : Pos} {e : Expr} {es : List Expr} {t : TA}
    (F : FnP (X.suite a ((a, oe) :: pn)).prog (X.suite a ((a, oe) :: pn)).w (X.suite a ((a, oe) :: pn)).K (X.suite a ((a, oe) :: pn)).mg (X.suite a ((a, oe) :: pn)).base k f fd ps Z sp) (room : RoomH k (X.suite a ((a, oe) :: pn)).A) (hz : Z oe) (glob : Gl (X.suite a ((a, oe) :: pn)) x) (hm : (X.suite a ((a, oe) :: pn)).mg x = some (.ref f))
    (kp : PySem.W.keepIn (X.suite a ((a, oe) :: pn)).K (.ref f) = true) (bnd : Binds (X.suite a ((a, oe) :: pn)).K fd ps []) (args : PA (X.suite a ((a, oe) :: pn)) (e :: es) t) (n1 : (x == ("__debug__" : Str)) = false := by decide)
    (s1 : starEach (e :: es) (X.suite a ((a, oe) :: pn)).env = (false, eval e (X.suite a ((a, oe) :: pn)).env) :: starEach es (X.suite a ((a, oe) :: pn)).env := by rfl) (s2 : (backTo pos (starEach es (X.suite a ((a, oe) :: pn)).env)).any (·.1) = false := by rfl) :
    PE (X.suite a ((a, oe) :: pn)) (.Call (.Name x q) (e :: es) [] pos) (tCallP a sp t) := by
  constructor
  intro pins s σ H want I ask
  refine wpAny_Call_Name_kw (ld_glob I glob hm ?_ n1)
  refine PySem.W.callWith_K (h₀ := (X.suite a ((a, oe) :: pn)).base) I.ok.mod.kin kp (thn (args.run pos pins s σ H _ I ask) fun us st ⟨vs, H1, I1, rels, q1⟩ => ⟨I1.kIn, ?_⟩) s1 s2
  have hl : us.length = ps.length := by
    rw [← rels.length]
    exact F.len _ _ _ _ _ q1
  have b := bnd st us I1.kIn (by rw [List.append_nil]; exact hl)
  rw [List.append_nil] at b
  have P1 := I1.pin (a, oe) (List.mem_append.mpr (.inl List.mem_cons_self))
  have pin : PinOk (X.suite a ((a, oe) :: pn)).stack H1 st (a, oe) := ⟨P1.1, P1.2.1, fun m => (List.mem_cons.mp (I1.stkSub a m)).elim P1.2.2.1 P1.2.2.2.1, P1.2.2.2.2⟩
  refine wpAny_call (codeAny_mono (F.run (X.suite a ((a, oe) :: pn)).A (X.suite a ((a, oe) :: pn)).stack st H1 ⟨us, []⟩ us vs want (fun _ _ _ => False) (a, oe) room hz pin I1.env0 b rels q1) fun rr s' hq => ?_)
  cases rr with
  | error er => exact hq.elim
  | ok fl =>
    cases fl with
    | ret u => exact I1.after hq
    | next => exact hq.elim
    | brk => exact hq.elim
    | cont => exact hq.elim
/-! ### isinstance(e, (C1, ..)) in such a def -/
/-- the error's object: its class D, its own dict at d -/
def ZIs (D : Addr) (d : Option Addr) : Obj → Prop := fun o => Zc (.ref D) d o ∧ ∃ vs, o.data = .fields vs
def rIsP (K : PySem.W.Frag) (D : Addr) (d : Option Addr) (a : Addr) : List V → Hp → VK → Prop := fun xs H Q => ∃ (tp : Addr) (cs : List V) (ws : List Value) (b : Bool), xs = [.ref a, .ref tp] ∧ H tp = some (.tup cs) ∧ Paired ClsV cs ws ∧ ExcC K D ∧
  (match d with | some dd => ∃ fs, H dd = some (.xd fs) | none => True) ∧ PySem.W.kitAny K (.ref D) ws = some b ∧ Q (.bl b) H
theorem call_isP {CX : CXT} {P : Program} {w : World} {K : PySem.W.Frag} {mg : Str → Option Value} {base : Heap} {N : List Str} {qual : Str} {scope : Scope} {f : Addr} {cd : Value} {A : Around} {outer : List Env} {s0 : Shared} {H0 : Hp} {E : XK} {p : Addr × Obj} {D : Addr} {d : Option Addr} (hz : ZIs D d p.2) :
    CallR (cxH CX P w K mg base N qual scope f cd A outer s0 H0 E p) (.builtin "isinstance") (rIsP K D d p.1) := by
  intro pins s σ H xs us Q I rels ask
  obtain ⟨tp, cs, ws, b, rfl, ht, k, c, hd, e, q⟩ := ask
  obtain ⟨u1, u2, rfl, r1, r2⟩ := vals2 rels
  cases (show u1 = Value.ref p.1 from r1)
  cases (show u2 = Value.ref tp from r2)
  obtain ⟨⟨hc, hdd⟩, vs, hv⟩ := hz
  have P1 := I.pin p (List.mem_append.mpr (.inl (List.mem_cons_self)))
  obtain ⟨_, its, rv, o, h1, h2, n, h3⟩ := (show ObjOk _ _ H s.heap tp (.tup cs) from I.hok tp _ ht)
  have e3 := ClsV.all k rv
  subst e3
  obtain ⟨oc, od, dt, sl⟩ := o
  simp only at h2 h3
  subst h2 h3
  have J : ∃ od', PySem.W.InstAt s.heap p.1 p.2 D od' := by
    cases d with
    | none => exact ⟨none, P1.1, hc, by unfold PySem.W.notCls; rw [hv] <;> rfl, by rw [hdd]; trivial⟩
    | some dd =>
      obtain ⟨fs, hx⟩ := hd
      obtain ⟨mA, hns, _⟩ := I.hok dd _ hx
      obtain ⟨od, ho, _⟩ := lookIn_ns hns
      exact ⟨some od, P1.1, hc, by unfold PySem.W.notCls; rw [hv] <;> rfl, by rw [hdd]; exact ho⟩
  obtain ⟨od', J⟩ := J
  exact PySem.W.kia_tup (kit_exc c) I.kIn J h1 e (fun z => nomatch z) fun tk => ⟨.bl b, H, I.kept (t' := tk) fun _ _ z => z, rfl, q⟩
theorem kitAny_no {K : PySem.W.Frag} {t : Value} : ∀ {cs : List Value}, (∀ c ∈ cs, PySem.W.kitOne K t c = some false) → PySem.W.kitAny K t cs = some false
  | [], _ => rfl
  | c :: r, h => by
    unfold PySem.W.kitAny
    rw [h c List.mem_cons_self]
    exact kitAny_no fun d hd => h d (List.mem_cons_of_mem _ hd)
end WG

set_option Elab.async false
set_option linter.all false
set_option maxRecDepth 100000
set_option maxHeartbeats 4000000
/-! several except clauses, each with a name -/
namespace L2N
open PySem PySem.Spec PyProof.Rows L2
/-- how a suite ends whose name is slot i -/
def endAs (i : Nat) (D : Ends) : Ends := { nx := fun σ' H' => D.nx (σ'.set i none) H', rt := D.rt, bk := fun σ' H' => D.bk (σ'.set i none) H', ct := fun σ' H' => D.ct (σ'.set i none) H' }
abbrev Cla := Value × (Nat × (Addr → Value → Option Addr → TS))
/-- what named clauses wish of an exception, one after the other -/
def wNamed (K : PySem.W.Frag) (Wout : WX) (D : Ends) : List Cla → WX
  | [] => Wout
  | (c, i, ts) :: r => fun cls d σ H => ∃ b, PySem.W.exmOne K cls c = some b ∧ (b = true → ∀ a, H a = none → ts a cls d (endAs i D) (σ.set i (some (.ref a))) H) ∧ (b = false → wNamed K Wout D r cls d σ H)
inductive ClsOk (X : Cx) : List ExceptHandler → List Cla → Prop
  | nil : ClsOk X [] []
  | cons {x n : Str} {c : Value} {i : Nat} {ts : Addr → Value → Option Addr → TS} {b₀ : Stmt} {suite : List Stmt} {np pos' : Pos} {hds : List ExceptHandler} {l : List Cla} (nam : Names X x c) (hi : X.N[i]? = some n) (loc : X.env.kindOf n = some .local)
      (body : ∀ (a : Addr) (oe : Obj) (cls : Value) (d : Option Addr) (pn : List (Addr × Obj)), Zn cls d oe → (∃ vs, oe.data = .fields vs) → PSs (X.suite a ((a, oe) :: pn)) (b₀ :: suite) (ts a cls d)) (rest : ClsOk X hds l) :
      ClsOk X (.ExceptHandler (some (.Name x np)) (some n) (b₀ :: suite) pos' :: hds) ((c, i, ts) :: l)
theorem takes0 {X : Cx} : Takes X (fun _ _ _ _ => False) := fun _ _ x => by
  obtain ⟨_, _, _, _, _, _, _, _, _, _, _, _, _, _, _, _, z⟩ := x
  exact z.elim
section
variable {X : Cx} {body : List Stmt} {h₀ : ExceptHandler} {hds : List ExceptHandler} {l : List Cla} {pos : Pos} {tb : WX → TS} {Wout : WX}
theorem ps_try_named (hs : X.stack = X.env :: X.outer) (hf : X.env.frame = some X.env.locals) (nodup : X.N.Nodup) (tk : Takes X Wout)
    (inner : ∀ (W : WX) (pn : List (Addr × Obj)) (xe : Value → Shared → Prop), Takes (X.tr pn xe) W → PassesOwn (model X.prog X.w) X.A X.env xe → PSs (X.tr pn xe) body (tb W)) (hh : ClsOk X (h₀ :: hds) l) :
    PS X (.Try body (h₀ :: hds) [] [] pos) (fun D σ H => tb (wNamed X.K Wout D l) D σ H) := by
  constructor
  intro pins s σ H D I ask
  have ok := I.ok
  have hfr : X.A.frames = some (X.env :: X.outer) := by rw [ok.frames, hs]
  refine wpAny_Try_except ?_
  refine wpAny_mono ((inner (wNamed X.K Wout D l) (X.pn ++ pins) (fun e s₁ => wpAny (model X.prog X.w) X.A (noteFrame e X.env) (fun _ s₂ => wpAny (model X.prog X.w) X.A (setFlight e none) (fun _ s₃ => wpAny (model X.prog X.w) X.A (handleBy e X.env (h₀ :: hds)) (SP X pins D) X.xe s₃) X.xe s₂) X.xe s₁)
    (fun u s' xx => ?_) PassesOwn.looking).run [] s σ H D (I.toTry _) ask) (fun f s1 done => ?_) (fun e s1 he => he)
  · obtain ⟨a, B, sI, pins', σ', H', cls, d, rfl, J', nb, up, sky, na, os, ag, w⟩ := xx
    have J : Inv X pins σ' H' sI := J'.ofTry ok
    have air : Sky B (X.env :: X.outer) a (Zn cls d) X.env.locals s'.heap := by
      rw [← hs]
      exact sky
    show wpAny (model X.prog X.w) X.A (noteFrame (.ref a) X.env) _ _ _
    refine Sky.land Zn.steady hfr hf air fun hA flA upA => ?_
    have JA : Inv X pins σ' H' { s' with heap := hA } := J.landed nb flA.1 (up.trans upA) os ag
    obtain ⟨oA, vA, gA, zA, dA⟩ := flA.there
    have noFrame : a ∉ frs (X.env :: X.outer) := fun m => by
      obtain ⟨_, o', e', nf⟩ := flA.2.2.1.mem m
      rw [gA] at e'
      cases e'
      exact nf _ dA
    have nL : a ≠ X.env.locals := fun z => noFrame (List.mem_filterMap.mpr ⟨X.env, List.mem_cons_self, by rw [hf, z]⟩)
    have nF : a ∉ X.fs := fun m => by
      obtain ⟨e, he, q⟩ := List.mem_filterMap.mp m
      exact noFrame (List.mem_filterMap.mpr ⟨e, List.mem_cons_of_mem _ he, q⟩)
    have SA := JA.suite gA dA na nL nF
    have walk : ∀ {hs' : List ExceptHandler} {l' : List Cla}, ClsOk X hs' l' → wNamed X.K Wout D l' cls d σ' H' → wpAny (model X.prog X.w) X.A (handleBy (.ref a) X.env hs') (SP X pins D) X.xe { s' with heap := hA } := by
      intro hs' l' hk
      induction hk with
      | nil =>
        intro w
        refine wpAny_handleBy_nil ?_
        obtain ⟨k1, k2, k3, oe, vs, T, oT, ts', he, hz, hd, h1, hr⟩ := id flA
        unfold PySem.passOn
        refine wpAny_bind (wpAny_field he hd h1 ?_)
        have tb' : ¬ ((Value.ref T == Value.none) = true) := by simp
        rw [if_neg tb']
        have away : wpAny (model X.prog X.w) X.A (setFlight (.ref a) X.env.frame) (fun _ s4 => wpAny (model X.prog X.w) X.A (throw (.ref a) : Sem Flow) (SP X pins D) X.xe s4) X.xe { s' with heap := hA } := by
          rw [hf]
          refine HandSPX.setFlight_upZ flA fun h4 hh4 up4 => wpAny_throw (tk _ _ ?_)
          exact ⟨a, B, sI, pins, σ', H', cls, d, rfl, J, nb, (up.trans upA).trans up4, .inr (.inr (by rw [hs]; exact hh4)), na, os, ag, w⟩
        first
          | exact wpAny_bind (wpAny_pure (wpAny_bind away))
          | exact wpAny_bind away
      | @cons x n c i ts b₀ suite np pos' hds2 l2 nam hi loc sub rest ih =>
        intro w
        obtain ⟨b, hb1, yes, no⟩ := w
        refine wpAny_handleBy_cons (codeAny_handlers_test ?_) (by intro q; cases q)
        have LT : PySem.W.Looks (model X.prog X.w) hA (typeOf (.ref a)) cls := fun A Q E s k q => wpAny_typeOf_ref (k _ _ gA) (by rw [zA.1]; exact q)
        have LM := PySem.W.exm_one (M := model X.prog X.w) (JA.kIn) LT hb1
        have test : ∀ {Q : Value → Shared → Prop} {E : Value → Shared → Prop}, Q c { s' with heap := hA } → wpAny (model X.prog X.w) (X.A.mark (some (.ref a))) (eval (.Name x np) X.env) Q E { s' with heap := hA } := by
          intro Q E q
          obtain ⟨hg, hdbg, hm | ⟨hm, hv, hnn⟩⟩ := nam
          · exact ld_glob (X := X.suite a ((a, oA) :: (X.pn ++ pins))) SA hg hm q hdbg
          · exact ld_blt (X := X.suite a ((a, oA) :: (X.pn ++ pins))) SA hg hm hv q hnn hdbg
        refine test (LM.here ?_)
        cases b with
        | true =>
          refine codeAny_handlers_suite_as ?_
          refine HandSPX.lands_againZ flA fun hB flB upB => ?_
          have JB : Inv X pins σ' H' { s' with heap := hB } := J.landed nb flB.1 ((up.trans upA).trans upB) os ag
          obtain ⟨oB, vB, gB, zB, dB⟩ := flB.there
          have SB := JB.suite gB dB na nL nF
          refine store_ok (X := X.suite a ((a, oB) :: (X.pn ++ pins))) (v := .ref a) SB nodup hi (.inl loc) rfl (fun s5 S5 => ?_) (.inr loc)
          refine wpAny_mono ((sub a oB cls d (X.pn ++ pins) zB ⟨_, dB⟩).run [] s5 _ H' _ S5 (yes rfl a na)) (fun f s6 done => ?_) (fun _ _ z => False.elim z)
          have shut : ∀ {σ6 : St} {H6 : Hp} {Q : Shared → Prop}, Inv (X.suite a ((a, oB) :: (X.pn ++ pins))) [] σ6 H6 s6 → (∀ s7, Inv X pins (σ6.set i none) H6 s7 → Q s7) →
              wpAny (model X.prog X.w) X.A (do bindName X.env n .none; unbindBehindTheSuite X.env n pos') (fun _ s7 => Q s7) X.xe s6 := fun {σ6 H6 Q} S6 hq => gone_ok (S6.unsuite ok) nodup hi loc hq
          cases f with
          | next =>
            obtain ⟨σ6, H6, S6, q6⟩ := done
            exact shut S6 fun s7 J7 => ⟨_, _, J7, q6⟩
          | brk =>
            obtain ⟨σ6, H6, S6, q6⟩ := done
            exact shut S6 fun s7 J7 => ⟨_, _, J7, q6⟩
          | cont =>
            obtain ⟨σ6, H6, S6, q6⟩ := done
            exact shut S6 fun s7 J7 => ⟨_, _, J7, q6⟩
          | ret u =>
            obtain ⟨v6, σ6, H6, S6, r6, q6⟩ := done
            exact shut S6 fun s7 J7 => ⟨_, _, _, J7, r6, q6⟩
        | false =>
          show wpAny _ X.A (handleBy (.ref a) X.env hds2) _ _ _
          exact ih (no rfl)
    exact walk hh w
  · cases f with
    | next =>
      obtain ⟨σ', H', J', q⟩ := done
      exact wpAny_execs_nil ⟨σ', H', J'.ofTry ok, q⟩
    | brk =>
      obtain ⟨σ', H', J', q⟩ := done
      exact ⟨σ', H', J'.ofTry ok, q⟩
    | cont =>
      obtain ⟨σ', H', J', q⟩ := done
      exact ⟨σ', H', J'.ofTry ok, q⟩
    | ret u =>
      obtain ⟨v, σ', H', J', r, q⟩ := done
      exact ⟨v, σ', H', J'.ofTry ok, r, q⟩
end
end L2N
namespace WG
open PySem PySem.Spec PyProof.Rows L2 L2H
/-! ### a def called in an except suite: the caught error's context is None -/
theorem hot_suite {X : Cx} {a : Addr} {oe : Obj} {cls : Value} {d : Option Addr} {pn : List (Addr × Obj)} (hz : L2N.Zn cls d oe) (hf : ∃ vs, oe.data = .fields vs) : Hot1 (X.suite a ((a, oe) :: pn)).A (a, oe) := by
  obtain ⟨vs, dt⟩ := hf
  exact ⟨rfl, vs, dt, hz.2.2 vs dt⟩
/-- the promise: Z tells of the error's object, sp of the error's address; the error is what is handled -/
structure FnQ (P : Program) (w : World) (K : PySem.W.Frag) (mg : Str → Option Value) (base : Heap) (k : Nat) (f : Addr) (fd : FuncData) (ps : List Str) (Z : Obj → Prop) (sp : Addr → Sp) : Prop where
  len : ∀ a vs H Q E, sp a vs H Q E → vs.length = ps.length
  run : ∀ (A : Around) (outer : List Env) (s : Shared) (H : Hp) (args : Args) (us : List Value) (vs : List V) (Q : VK) (E : XK) (p : Addr × Obj), RoomH k A → Z p.2 → Hot1 A p → PinOk outer H s p → Env0 P w K mg base A outer s H →
    BindsTo s fd args (ps.zip us) → Vals vs us → sp p.1 vs H Q E → codeAny (model P w) A (.call (.ref f) args) (CR CX0 outer P w H s Q E) s
theorem fnQ_of {P : Program} {w : World} {K : PySem.W.Frag} {mg : Str → Option Value} {base : Heap} {k : Nat} {f : Addr} {fd : FuncData} {x qual : Str} {st : Stmt} {N ps : List Str} {Z : Obj → Prop} {sp : Addr → Sp}
    (F : Fun K x qual st f fd) (S : FnScope N ps (defScope st)) (len : ∀ a vs H Q E, sp a vs H Q E → vs.length = ps.length)
    (body : ∀ (cdv : Value) (A : Around) (outer : List Env) (s : Shared) (H : Hp) (vs : List V) (Q : VK) (E : XK) (p : Addr × Obj), Z p.2 → Hot1 A p → RoomH k (A.deeper (envOfC qual (defScope st) s.heap.objs.size f cdv)) → sp p.1 vs H Q E →
      ∃ t, PSs (cxH CX0 P w K mg base N qual (defScope st) f cdv A outer s H E p) (defBody st) t ∧ t { nx := fun _ H' => Q .non H', rt := Q } (L2.start N vs) H) :
    FnQ P w K mg base (k + 1) f fd ps Z sp := by
  obtain ⟨oc, od, kV, doc, pm, an, cdv, ct, osl, rfl, look, code⟩ := F.ex
  refine ⟨len, fun A outer s H args us vs Q E p room hz hot pin env bnd rels want => ?_⟩
  have hlen := len _ _ _ _ _ want
  have kin : K.In s.heap := env.mod.kin.keeps fun b o q => (env.bs b o q).1
  have nolim : s.heap.NoLimit := env.mod.nolimit.keeps fun b o q => (env.bs b o q).1
  have kinds : ∀ y ∈ ps.zip us, (defScope st).names.lookup y.1 = some .local ∨ ((defScope st).names.lookup y.1 = some .cell ∧ ((cellsFrom (s.heap.objs.size + 1) (defScope st).names []).lookup y.1).isSome = true) := by
    intro y hy
    obtain ⟨n, v⟩ := y
    cases S.par n (List.of_mem_zip hy).1 with
    | inl z => exact .inl z
    | inr z => exact .inr ⟨z, PySem.W.cellsFrom_some _ _ _ (.inl z)⟩
  refine codeAny_call_function room.depth (kin _ _ look) rfl S.co S.gen rfl (PySem.W.codeRec_of kin code) (bnd _ _ _ _ ?_)
  refine wpAny_newFunctionEnv_cells S.kind kinds fun e2 he2 s1 hx => ?_
  subst he2
  refine ⟨nolim.keeps hx.toInCall.keep, codeAny_func ?_⟩
  obtain ⟨t, tb, tq⟩ := body cdv A outer s H vs Q E p hz hot (room.deeper _) want
  have I : Inv (cxH CX0 P w K mg base N qual (defScope st) f cdv A outer s H E p) [] (L2.start N vs) H s1 := inv_startH S pin env hlen rels hx
  refine wpAny_mono (tb.run [] s1 (L2.start N vs) H _ I tq) (fun fl s' hs => ?_) fun e s' hs => hs
  cases fl with
  | ret u =>
    obtain ⟨v, _, H', J, rv, q⟩ := hs
    exact ⟨v, H', J.os, J.bare, J.base, J.hok, rv, q⟩
  | next =>
    obtain ⟨_, H', J, q⟩ := hs
    exact ⟨V.non, H', J.os, J.bare, J.base, J.hok, rfl, q⟩
  | brk =>
    obtain ⟨_, _, _, q⟩ := hs
    exact False.elim q
  | cont =>
    obtain ⟨_, _, _, q⟩ := hs
    exact False.elim q
def tCallQ {ι : Type} (a : Addr) (G : ι → Prop) (sp : ι → Addr → Sp) (t : TA) : TE := fun σ H Q => t σ H fun vs H1 => ∃ i, G i ∧ sp i a vs H1 Q (fun _ _ _ => False)
theorem pe_callQ {ι : Type} {G : ι → Prop} {X : Cx} {a : Addr} {oe : Obj} {pn : List (Addr × Obj)} {k : Nat} {f : Addr} {fd : FuncData} {ps : List Str} {Z : ι → Obj → Prop} {sp : ι → Addr → Sp} {x : Str} {q pos : Pos} {e : Expr} {es : List Expr} {t : TA}
    (F : ∀ i, G i → FnQ (X.suite a ((a, oe) :: pn)).prog (X.suite a ((a, oe) :: pn)).w (X.suite a ((a, oe) :: pn)).K (X.suite a ((a, oe) :: pn)).mg (X.suite a ((a, oe) :: pn)).base k f fd ps (Z i) (sp i)) (room : RoomH k (X.suite a ((a, oe) :: pn)).A) (hz : ∀ i, G i → Z i oe) (hot : Hot1 (X.suite a ((a, oe) :: pn)).A (a, oe))
    (glob : Gl (X.suite a ((a, oe) :: pn)) x) (hm : (X.suite a ((a, oe) :: pn)).mg x = some (.ref f)) (kp : PySem.W.keepIn (X.suite a ((a, oe) :: pn)).K (.ref f) = true) (bnd : Binds (X.suite a ((a, oe) :: pn)).K fd ps []) (args : PA (X.suite a ((a, oe) :: pn)) (e :: es) t) (n1 : (x == ("__debug__" : Str)) = false := by decide)
    (s1 : starEach (e :: es) (X.suite a ((a, oe) :: pn)).env = (false, eval e (X.suite a ((a, oe) :: pn)).env) :: starEach es (X.suite a ((a, oe) :: pn)).env := by rfl) (s2 : (backTo pos (starEach es (X.suite a ((a, oe) :: pn)).env)).any (·.1) = false := by rfl) :
    PE (X.suite a ((a, oe) :: pn)) (.Call (.Name x q) (e :: es) [] pos) (tCallQ a G sp t) := by
  constructor
  intro pins s σ H want I ask
  refine wpAny_Call_Name_kw (ld_glob I glob hm ?_ n1)
  refine PySem.W.callWith_K (h₀ := (X.suite a ((a, oe) :: pn)).base) I.ok.mod.kin kp (thn (args.run pos pins s σ H _ I ask) fun us st ⟨vs, H1, I1, rels, i, gi, q1⟩ => ⟨I1.kIn, ?_⟩) s1 s2
  have hl : us.length = ps.length := by
    rw [← rels.length]
    exact (F i gi).len _ _ _ _ _ q1
  have b := bnd st us I1.kIn (by rw [List.append_nil]; exact hl)
  rw [List.append_nil] at b
  have P1 := I1.pin (a, oe) (List.mem_append.mpr (.inl List.mem_cons_self))
  have pin : PinOk (X.suite a ((a, oe) :: pn)).stack H1 st (a, oe) := ⟨P1.1, P1.2.1, fun m => (List.mem_cons.mp (I1.stkSub a m)).elim P1.2.2.1 P1.2.2.2.1, P1.2.2.2.2⟩
  refine wpAny_call (codeAny_mono ((F i gi).run (X.suite a ((a, oe) :: pn)).A (X.suite a ((a, oe) :: pn)).stack st H1 ⟨us, []⟩ us vs want (fun _ _ _ => False) (a, oe) room (hz i gi) hot pin I1.env0 b rels q1) fun rr s' hq => ?_)
  cases rr with
  | error er => exact hq.elim
  | ok fl =>
    cases fl with
    | ret u => exact I1.after hq
    | next => exact hq.elim
    | brk => exact hq.elim
    | cont => exact hq.elim
/-- isinstance(e, C) in such a def -/
def rIsQ (K : PySem.W.Frag) (D : Addr) (d : Option Addr) (a : Addr) : List V → Hp → VK → Prop := fun xs H Q => ∃ (c : V) (cv : Value) (b : Bool), xs = [.ref a, c] ∧ (∀ u, RelV c u → u = cv) ∧ ExcC K D ∧
  (match d with | some dd => ∃ fs, H dd = some (.xd fs) | none => True) ∧ PySem.W.kitOne K (.ref D) cv = some b ∧ Q (.bl b) H
theorem call_isQ {CX : CXT} {P : Program} {w : World} {K : PySem.W.Frag} {mg : Str → Option Value} {base : Heap} {N : List Str} {qual : Str} {scope : Scope} {f : Addr} {cd : Value} {A : Around} {outer : List Env} {s0 : Shared} {H0 : Hp} {E : XK} {p : Addr × Obj} {D : Addr} {d : Option Addr} (hz : ZIs D d p.2) :
    CallR (cxH CX P w K mg base N qual scope f cd A outer s0 H0 E p) (.builtin "isinstance") (rIsQ K D d p.1) := by
  intro pins s σ H xs us Q I rels ask
  obtain ⟨c, cv, b, rfl, hcv, ec, hd, e, q⟩ := ask
  obtain ⟨u1, u2, rfl, r1, r2⟩ := vals2 rels
  cases (show u1 = Value.ref p.1 from r1)
  have e2 := hcv _ r2
  subst e2
  obtain ⟨⟨hc, hdd⟩, vs, hv⟩ := hz
  have P1 := I.pin p (List.mem_append.mpr (.inl (List.mem_cons_self)))
  have J : ∃ od', PySem.W.InstAt s.heap p.1 p.2 D od' := by
    cases d with
    | none => exact ⟨none, P1.1, hc, by unfold PySem.W.notCls; rw [hv] <;> rfl, by rw [hdd]; trivial⟩
    | some dd =>
      obtain ⟨fs, hx⟩ := hd
      obtain ⟨mA, hns, _⟩ := I.hok dd _ hx
      obtain ⟨od, ho, _⟩ := lookIn_ns hns
      exact ⟨some od, P1.1, hc, by unfold PySem.W.notCls; rw [hv] <;> rfl, by rw [hdd]; exact ho⟩
  obtain ⟨od', J⟩ := J
  exact PySem.W.kia_one (kit_exc ec) I.kIn J e (fun z => nomatch z) fun tk => ⟨.bl b, H, I.kept (t' := tk) fun _ _ z => z, rfl, q⟩
/-- what such an error's object is, as a caught error with a dict -/
theorem zis_of {cls : Value} {d : Option Addr} {oe : Obj} {D : Addr} (hz : L2N.Zn cls d oe) (hf : ∃ vs, oe.data = .fields vs) (e : cls = .ref D) : ZIs D d oe := ⟨by rw [← e]; exact hz.zc, hf⟩
end WG

set_option Elab.async false
set_option linter.all false
set_option maxRecDepth 100000
set_option maxHeartbeats 4000000
namespace WB
open PySem PySem.Spec PyProof.Rows L2 WG
open TL (tl)
def topS (i : Nat) : Stmt := PySem.Challenge.pw_wordbench_k17_refusals_apart.main.body.getD i (.Pass ⟨0, 0, 0, 0⟩)
abbrev sCell : Stmt := topS 51
abbrev sPot : Stmt := topS 52
abbrev sTake : Stmt := topS 53
abbrev sSigns : Stmt := topS 54
abbrev sAbout : Stmt := topS 55
abbrev sText : Stmt := topS 56
/-- a def of the top: its object, how it binds, its name -/
structure Df (K : PySem.W.Frag) (mg : Str → Option Value) (x : Str) (st : Stmt) (ps : List Str) (f : Addr) (fd : FuncData) : Prop where
  F : Fun K x x st f fd
  b : Binds K fd ps []
  g : mg x = some (.ref f)
theorem scCell : FnScope ["_law_script", "_law_k"] ["_law_script", "_law_k"] (defScope sCell) := ⟨rfl, rfl, rfl, by decide +kernel, rfl, by decide +kernel, by decide +kernel⟩
theorem scPot : FnScope ["_law_script", "_law_k", "_law_cell_here"] ["_law_script", "_law_k"] (defScope sPot) := ⟨rfl, rfl, rfl, by decide +kernel, rfl, by decide +kernel, by decide +kernel⟩
theorem scTake : FnScope ["_law_pot_here", "_law_room", "_law_digit"] ["_law_pot_here", "_law_room"] (defScope sTake) := ⟨rfl, rfl, rfl, by decide +kernel, rfl, by decide +kernel, by decide +kernel⟩
theorem scSigns : FnScope ["_law_pot_here", "_law_most", "_law_signs_here", "_law_k"] ["_law_pot_here", "_law_most"] (defScope sSigns) := ⟨rfl, rfl, rfl, by decide +kernel, rfl, by decide +kernel, by decide +kernel⟩
theorem scAbout : FnScope ["_law_pot_here", "_law_way", "_law_k"] ["_law_pot_here"] (defScope sAbout) := ⟨rfl, rfl, rfl, by decide +kernel, rfl, by decide +kernel, by decide +kernel⟩
theorem scText : FnScope ["_law_pot_here", "_law_way"] ["_law_pot_here"] (defScope sText) := ⟨rfl, rfl, rfl, by decide +kernel, rfl, by decide +kernel, by decide +kernel⟩
/-! ### heaps -/
theorem same_upd {H : Hp} {p : Addr} {o : HO} (h : H p = none) : Same H (upd H p o) := fun b x e => by
  rw [upd_ne (ne_of_none e h)]
  exact e
/-- all that was tracked but at p is as it was -/
def But (p : Addr) (H H' : Hp) : Prop := ∀ b o, b ≠ p → H b = some o → H' b = some o
theorem But.refl (p : Addr) (H : Hp) : But p H H := fun _ _ _ h => h
theorem But.trans {p : Addr} {H H1 H2 : Hp} (a : But p H H1) (b : But p H1 H2) : But p H H2 := fun c o n h => b c o n (a c o n h)
theorem But.of_same {p : Addr} {H H' : Hp} (a : Same H H') : But p H H' := fun c o _ h => a c o h
theorem But.upd (p : Addr) (H : Hp) (o : HO) : But p H (upd H p o) := fun c u n h => by
  rw [upd_ne n]
  exact h
theorem But.new {p : Addr} {H : Hp} {q : Addr} {o : HO} (h : H q = none) : But p H (L2.upd H q o) := But.of_same (same_upd h)
/-- at p a pot stands -/
def Pot (H : Hp) (p : Addr) : Prop := ∃ a b : Int, H p = some (.lst [.int a, .int b]) ∧ 0 ≤ b ∧ b < 2147483648
theorem Pot.ne {H : Hp} {p q : Addr} (h : Pot H p) (n : H q = none) : p ≠ q := by
  obtain ⟨a, b, e, _⟩ := h
  exact ne_of_none e n
theorem Pot.same {H H' : Hp} {p : Addr} (h : Pot H p) (s : Same H H') : Pot H' p := by
  obtain ⟨a, b, e, h1, h2⟩ := h
  exact ⟨a, b, s _ _ e, h1, h2⟩
theorem Pot.new {H : Hp} {p q : Addr} {o : HO} (h : Pot H p) (n : H q = none) : Pot (L2.upd H q o) p := h.same (same_upd n)
section
variable {P : Program} {w : World} {K : PySem.W.Frag} {mg : Str → Option Value} {base : Heap}
/-! ### _law_cell -/
def spCell (K : PySem.W.Frag) : Sp := fun vs H Q _ => ∃ (a : Addr) (ns : List Int) (k : Int), vs = [.ref a, .int k] ∧ SqL K H a (ns.map V.int) ∧ 0 ≤ k ∧ ∀ z : Int, Q (.int z) H
theorem ok_cell {f : Addr} {fd : FuncData} {k : Nat} (F : Fun K "_law_cell" "_law_cell" sCell f fd) (mL : mg "len" = none) : FnOk P w K mg base CX0 (k + 1) f fd ["_law_script", "_law_k"] (spCell K) := by
  refine F.ok scCell (fun vs H Q E h => ?_) (fun cdv A outer s H vs Q E hr h => ?_)
  · obtain ⟨a, ns, k, rfl, _⟩ := h
    rfl
  · obtain ⟨a, ns, k, rfl, hS, hk, q⟩ := h
    refine ⟨_, pss_one (ps_ret (pe_ifExp (pt_cmpR op_lt (pv 1) (pe_callB call_len_seq (by rfl) mL PySem.boot_len (pa_cons (pv 0) pa_nil)) (nomark _)) (pe_ix ix_list (pv 0) (pv 1) (fun _ _ => rfl)) pe_int)), ?_⟩
    refine ⟨.int k, rfl, .ref a, rfl, a, _, rfl, .inl hS, k, _, rfl, rfl, _, rfl, ite2 (fun e => ?_) (fun e => q 0)⟩
    have e1 := of_decide_eq_true e
    obtain ⟨n, rfl⟩ := Int.eq_ofNat_of_zero_le hk
    rw [List.length_map] at e1
    have hn : n < ns.length := by omega
    exact ⟨.ref a, rfl, .int n, rfl, a, _, _, .int ns[n], rfl, rfl, hS, atI_nat (j := n) (by rw [List.getElem?_map, List.getElem?_eq_getElem hn]; rfl), q _⟩
/-! ### _law_pot -/
def spPot (K : PySem.W.Frag) : Sp := fun vs H Q _ => ∃ (a : Addr) (ns : List Int) (k : Int), vs = [.ref a, .int k] ∧ SqL K H a (ns.map V.int) ∧ 0 ≤ k ∧ k ≤ 1000 ∧
  ∀ H' p, Same H H' → H p = none → Pot H' p → Q (.ref p) H'
theorem ok_pot {f fC : Addr} {fd fdC : FuncData} {k : Nat} (F : Fun K "_law_pot" "_law_pot" sPot f fd) (C : Df K mg "_law_cell" sCell ["_law_script", "_law_k"] fC fdC) (mL : mg "len" = none) (mM : mg "max" = none) (mA : mg "abs" = none) :
    FnOk P w K mg base CX0 (k + 2) f fd ["_law_script", "_law_k"] (spPot K) := by
  have GC : FnOk P w K mg base CX0 (k + 1) fC fdC ["_law_script", "_law_k"] (spCell K) := ok_cell C.F mL
  refine F.ok scPot (fun vs H Q E h => ?_) (fun cdv A outer s H vs Q E hr h => ?_)
  · obtain ⟨a, ns, k, rfl, _⟩ := h
    rfl
  · obtain ⟨a, ns, k, rfl, hS, hk, hk1, q⟩ := h
    refine ⟨_, pss_cons (ps_set (i := 2) scPot.nd rfl (.inl rfl) (pe_call GC hr (by rfl) C.g C.F.kp C.b .nil pass0 (pa_cons (pv 0) (pa_cons (pv 1) pa_nil))))
      (pss_one (ps_ret (pe_lst (pa_cons (pe_callB (call_max2 rfl) (by rfl) mM (by decide +kernel) (pa_cons pe_int (pa_cons (pe_op op_sub (pv 2) (pe_op op_pow pe_int pe_int)) pa_nil)))
        (pa_cons (pe_op op_mod (pe_op op_add (pe_op op_add (pe_op op_add (pe_op op_mul (pe_op op_mod (pe_callB call_abs (by rfl) mA (by decide +kernel) (pa_cons (pv 2) pa_nil)) pe_int) pe_int)
          (pe_op op_mul (pe_op op_mul pe_int (pv 1)) (pv 1))) (pe_op op_mul pe_int (pv 1))) pe_int) pe_int) pa_nil))))), ?_⟩
    refine ⟨.ref a, rfl, .int k, rfl, a, ns, k, rfl, hS, hk, fun z => ?_⟩
    refine ⟨.int z, rfl, 10, 18, rfl, rfl, ⟨by decide, by decide, by decide⟩, z, _, rfl, rfl, 0, _, rfl, ?_⟩
    refine ⟨.int z, rfl, z, rfl, _, 2147483629, rfl, rfl, (by show (0 : Int) < 2147483629; decide), _, 48271, rfl, rfl, .inr ⟨by decide, by decide⟩, .int k, rfl, 7919, k, rfl, rfl, .inl ⟨by decide, by decide⟩, .int k, rfl, _, k, rfl, rfl, .inr ⟨by omega, by omega⟩, _, _, rfl, rfl,
      .int k, rfl, 613, k, rfl, rfl, .inl ⟨by decide, by decide⟩, _, _, rfl, rfl, _, 29, rfl, rfl, _, 2147483629, rfl, rfl, (by show (0 : Int) < 2147483629; decide), ?_⟩
    refine ⟨by show 2 ≤ sizeLine; decide, fun p hp => q _ p (same_upd hp) hp ⟨_, _, upd_same, Int.emod_nonneg _ (by decide), ?_⟩⟩
    exact Int.lt_trans (Int.emod_lt_of_pos _ (by decide)) (by decide)
/-! ### _law_take -/
def spTake : Sp := fun vs H Q _ => ∃ (p : Addr) (m : Int), vs = [.ref p, .int m] ∧ Pot H p ∧ 0 < m ∧ m ≤ 1000 ∧ ∀ H' (d : Int), But p H H' → Pot H' p → 0 ≤ d → d < m → Q (.int d) H'
theorem ok_take {f : Addr} {fd : FuncData} {k : Nat} (F : Fun K "_law_take" "_law_take" sTake f fd) : FnOk P w K mg base CX0 (k + 1) f fd ["_law_pot_here", "_law_room"] spTake := by
  refine F.ok scTake (fun vs H Q E h => ?_) (fun cdv A outer s H vs Q E hr h => ?_)
  · obtain ⟨p, m, rfl, _⟩ := h
    rfl
  · obtain ⟨p, m, rfl, ⟨a, b, hp, hb0, hb1⟩, hm0, hm1, q⟩ := h
    refine ⟨_, pss_cons (ps_if (pt_cmpR op_gt (pe_ix ix_list (pv 0) pe_int (fun _ _ => rfl)) pe_int (nomark _))
        (pss_cons (ps_set (i := 2) scTake.nd rfl (.inl rfl) (pe_op op_mod (pe_ix ix_list (pv 0) pe_int (fun _ _ => rfl)) (pv 1)))
          (pss_cons (ps_asg (pe_op op_fdiv (pe_ix ix_list (pv 0) pe_int (fun _ _ => rfl)) (pv 1)) (pg_sub (pv 0) pe_int set_list))
          (pss_one (ps_ret (pv 2))))) pss_nil)
      (pss_cons (ps_asg (pe_op op_mod (pe_op op_add (pe_op op_mul (pe_ix ix_list (pv 0) pe_int (fun _ _ => rfl)) pe_int) pe_int) pe_int) (pg_sub (pv 0) pe_int set_list))
      (pss_one (ps_ret (pe_op op_mod (pe_op op_fdiv (pe_op op_mod (pe_op op_mul (pe_ix ix_list (pv 0) pe_int (fun _ _ => rfl)) (pe_ix ix_list (pv 0) pe_int (fun _ _ => rfl))) pe_int) pe_int) (pv 1))))), ?_⟩
    refine ⟨.ref p, rfl, p, _, 0, .int a, rfl, rfl, SqL.of hp, atI_nat (j := 0) rfl, a, 0, rfl, rfl, _, rfl, ite2 (fun e => ?_) (fun e => ?_)⟩
    · refine ⟨.ref p, rfl, p, _, 0, .int a, rfl, rfl, SqL.of hp, atI_nat (j := 0) rfl, .int m, rfl, a, m, rfl, rfl, hm0, ?_⟩
      refine ⟨.ref p, rfl, p, _, 0, .int a, rfl, rfl, SqL.of hp, atI_nat (j := 0) rfl, .int m, rfl, a, m, rfl, rfl, ⟨hm0, by omega⟩, ?_⟩
      refine ⟨.ref p, rfl, p, _, 0, 0, rfl, rfl, hp, rfl, ?_⟩
      exact ⟨.int (a % m), rfl, q _ _ (But.upd _ _ _) ⟨a / m, b, upd_same, hb0, hb1⟩ (Int.emod_nonneg _ (by omega)) (Int.emod_lt_of_pos _ hm0)⟩
    · refine ⟨.ref p, rfl, p, _, 1, .int b, rfl, rfl, SqL.of hp, atI_nat (j := 1) rfl, b, 39373, rfl, rfl, .inr ⟨by decide, by decide⟩, _, 8191, rfl, rfl, _, 2147483587, rfl, rfl, (by show (0 : Int) < 2147483587; decide), ?_⟩
      refine ⟨.ref p, rfl, p, _, 1, 1, rfl, rfl, hp, rfl, ?_⟩
      have c0 : 0 ≤ (b * 39373 + 8191) % 2147483587 := Int.emod_nonneg _ (by decide)
      have c1 : (b * 39373 + 8191) % 2147483587 < 2147483587 := Int.emod_lt_of_pos _ (by decide)
      refine ⟨.ref p, rfl, p, _, 1, .int ((b * 39373 + 8191) % 2147483587), rfl, rfl, SqL.of upd_same, atI_nat (j := 1) rfl, .ref p, rfl, p, _, 1, .int ((b * 39373 + 8191) % 2147483587), rfl, rfl, SqL.of upd_same, atI_nat (j := 1) rfl,
        (b * 39373 + 8191) % 2147483587, (b * 39373 + 8191) % 2147483587, rfl, rfl, .inl ⟨by omega, by omega⟩, _, 2147483543, rfl, rfl, (by show (0 : Int) < 2147483543; decide), _, 13, rfl, rfl, ⟨by decide, by decide⟩, .int m, rfl, _, m, rfl, rfl, hm0, ?_⟩
      exact q _ _ (But.upd _ _ _) ⟨a, _, upd_same, c0, by omega⟩ (Int.emod_nonneg _ (by omega)) (Int.emod_lt_of_pos _ hm0)
end
theorem at_strs (ys : List Str) (d : Int) (h0 : 0 ≤ d) (h1 : d < (ys.length : Int)) : ∃ y ∈ ys, atI (ys.map V.str) d = some (.str y) := by
  obtain ⟨n, rfl⟩ := Int.eq_ofNat_of_zero_le h0
  have hn : n < ys.length := by omega
  exact ⟨ys[n], List.getElem_mem hn, atI_nat (by rw [List.getElem?_map, List.getElem?_eq_getElem hn]; rfl)⟩
theorem at_ints (ys : List Int) (d : Int) (h0 : 0 ≤ d) (h1 : d < (ys.length : Int)) : ∃ y ∈ ys, atI (ys.map V.int) d = some (.int y) := by
  obtain ⟨n, rfl⟩ := Int.eq_ofNat_of_zero_le h0
  have hn : n < ys.length := by omega
  exact ⟨ys[n], List.getElem_mem hn, atI_nat (by rw [List.getElem?_map, List.getElem?_eq_getElem hn]; rfl)⟩
theorem at_any (ys : List V) (d : Int) (h0 : 0 ≤ d) (h1 : d < (ys.length : Int)) : ∃ y ∈ ys, atI ys d = some y := by
  obtain ⟨n, rfl⟩ := Int.eq_ofNat_of_zero_le h0
  have hn : n < ys.length := by omega
  exact ⟨ys[n], List.getElem_mem hn, atI_nat (List.getElem?_eq_getElem hn)⟩
end WB

set_option Elab.async false
set_option linter.all false
set_option maxRecDepth 100000
set_option maxHeartbeats 4000000
namespace WB
open PySem PySem.Spec PyProof.Rows L2 WG
open TL (tl)
/-! ### plain texts of at most n signs -/
structure Tx (n : Nat) (y : Str) : Prop where
  le : y.length ≤ n
  pl : ∀ c ∈ tl y, c < 256
theorem Tx.mono {n m : Nat} {y : Str} (h : Tx n y) (e : n ≤ m) : Tx m y := ⟨Nat.le_trans h.le e, h.pl⟩
theorem Tx.app {n m : Nat} {x y : Str} (h : Tx n x) (k : Tx m y) : Tx (n + m) (x ++ y) := by
  refine ⟨?_, fun c hc => ?_⟩
  · rw [Str.length_append]
    exact Nat.add_le_add h.le k.le
  · rw [TL.tl_append] at hc
    exact (List.mem_append.mp hc).elim (h.pl c) (k.pl c)
theorem Tx.cut {n : Nat} {x : Str} (h : Tx n x) (lo hi : Option Int) : Tx n (cutS x lo hi) := by
  refine ⟨Nat.le_trans (cutS_length x lo hi) h.le, fun c hc => h.pl c ?_⟩
  have e : c ∈ (x.cps.toList.drop _).take _ := hc
  exact List.mem_of_mem_drop (List.mem_of_mem_take e)
theorem Tx.sign {c : Nat} (h : c < 256) : Tx 1 ⟨#[c]⟩ := by
  refine ⟨Nat.le_refl 1, fun d hd => ?_⟩
  have e : d ∈ [c] := hd
  rw [List.mem_singleton.mp e]
  exact h
theorem Tx.lit (s : String) (n : Nat) (h : (Str.ofString s).length ≤ n) (k : ∀ c ∈ tl (Str.ofString s), c < 256) : Tx n (Str.ofString s) := ⟨h, k⟩
theorem mem_joinL (S : List Nat) : ∀ (ps : List (List Nat)) (c : Nat), c ∈ TL.joinL S ps → c ∈ S ∨ ∃ p ∈ ps, c ∈ p
  | [], c, h => by cases h
  | [p], c, h => .inr ⟨p, List.mem_singleton.mpr rfl, h⟩
  | p :: q :: r, c, h => by
    rcases List.mem_append.mp (show c ∈ p ++ (S ++ TL.joinL S (q :: r)) from h) with h | h
    · exact .inr ⟨p, List.mem_cons_self, h⟩
    · rcases List.mem_append.mp h with h | h
      · exact .inl h
      · rcases mem_joinL S (q :: r) c h with h | ⟨p', hp, hc⟩
        · exact .inl h
        · exact .inr ⟨p', List.mem_cons_of_mem _ hp, hc⟩
theorem sum_most (m : Nat) : ∀ ys : List Str, (∀ y ∈ ys, Tx m y) → (ys.map (·.length)).sum ≤ ys.length * m
  | [], _ => Nat.zero_le _
  | y :: r, h => by
    have h1 := sum_most m r fun z hz => h z (List.mem_cons_of_mem _ hz)
    have h2 := (h y List.mem_cons_self).le
    rw [List.map_cons, List.sum_cons, List.length_cons, Nat.succ_mul]
    omega
theorem Tx.join {sep : Str} {k m n : Nat} {ys : List Str} (hs : Tx k sep) (h : ∀ y ∈ ys, Tx m y) (hn : ys.length * m + ys.length * k ≤ n) : Tx n (Txt.join sep ys) := by
  refine ⟨?_, fun c hc => ?_⟩
  · rw [TL.join_eq]
    have e := StrLaws.join_length_le sep ys
    have e2 := sum_most m ys h
    have e3 : ys.length * sep.length ≤ ys.length * k := Nat.mul_le_mul_left _ hs.le
    omega
  · rw [TL.join_eq, TL.tl_join] at hc
    rcases mem_joinL _ _ c hc with h1 | ⟨p, hp, h1⟩
    · exact hs.pl c h1
    · obtain ⟨y, hy, rfl⟩ := List.mem_map.mp hp
      exact (h y hy).pl c h1
section
variable {P : Program} {w : World} {K : PySem.W.Frag} {mg : Str → Option Value} {base : Heap}
/-! ### _law_name -/
def spDrawn (n : Nat) : Sp := fun vs H Q _ => ∃ p : Addr, vs = [.ref p] ∧ Pot H p ∧ ∀ H' (y : Str), But p H H' → Pot H' p → Tx n y → Q (.str y) H'
def nameSigns : List Str := [Str.ofString "abcdefghijklmnopqrstuvwxyz0123456789-", Str.ofString "abno-", Str.ofString "no-"]
theorem nameSigns_len : ∀ y ∈ nameSigns, 0 < y.length ∧ y.length ≤ 100 ∧ ∀ c ∈ tl y, c < 256 := by decide +kernel
def allSigns : Str := Str.ofString "!\"#$&'()*+,-./0123456789:;<=>?@ABCDEFGHIJKLMNOPQRSTUVWXYZ[\\]^_`abcdefghijklmnopqrstuvwxyz{|}~"
theorem allSigns_len : 0 < allSigns.length ∧ allSigns.length ≤ 100 ∧ ∀ c ∈ tl allSigns, c < 256 := by decide +kernel
def spSigns : Sp := fun vs H Q _ => ∃ (p : Addr) (m : Int), vs = [.ref p, .int m] ∧ Pot H p ∧ 0 < m ∧ m ≤ 100 ∧ ∀ H' (y : Str), But p H H' → Pot H' p → Tx m.toNat y → Q (.str y) H'
theorem ok_signs {f fT : Addr} {fd fdT : FuncData} {k : Nat} (F : Fun K "_law_signs" "_law_signs" sSigns f fd) (T : Df K mg "_law_take" sTake ["_law_pot_here", "_law_room"] fT fdT) (mL : mg "len" = none) (mR : mg "range" = none) :
    FnOk P w K mg base CX0 (k + 2) f fd ["_law_pot_here", "_law_most"] spSigns := by
  have GT : FnOk P w K mg base CX0 (k + 1) fT fdT ["_law_pot_here", "_law_room"] spTake := ok_take T.F
  refine F.ok scSigns (fun vs H Q E h => ?_) (fun cdv A outer s H vs Q E hr h => ?_)
  · obtain ⟨p, m, rfl, _⟩ := h
    rfl
  · obtain ⟨p, m, rfl, hp, hm0, hm1, q⟩ := h
    refine ⟨_, pss_cons (ps_set (i := 2) scSigns.nd rfl (.inr rfl) pe_str) (pss_one (ps_ret (pe_join pe_str (pe_lc (own := [("_law_k", 3)]) (g := gName 3) (tt := tYes) rfl scSigns.nd
      (pi_range1 rfl mR (pa_cons (pe_op op_add pe_int (pe_call GT hr (by rfl) T.g T.F.kp T.b .nil pass0 (pa_cons (pv 0) (pa_cons (pv 1) pa_nil)))) pa_nil))
      (blkOk_by (N := ["_law_pot_here", "_law_most", "_law_signs_here", "_law_k"]) (sc := defScope sSigns) (by decide +kernel))
      (fun _ _ _ _ _ => pg_name (i := 3) scSigns.nd rfl (Or.inl rfl)) (fun _ _ _ _ _ => pts_nil)
      (fun _ _ _ _ _ => pe_ix ix_str (pv 2) (pe_call GT hr (by rfl) T.g T.F.kp T.b .nil pass0 (pa_cons (pv 0) (pa_cons (pe_callB call_len_str (by rfl) mL PySem.boot_len (pa_cons (pv 2) pa_nil)) pa_nil))) (fun _ _ => rfl)))))), ?_⟩
    obtain ⟨hz0, hz1, hz2⟩ := allSigns_len
    refine ⟨⟨_, rfl⟩, .ref p, rfl, .int m, rfl, p, m, rfl, hp, hm0, by omega, fun H1 d b1 p1 d0 d1 => ?_⟩
    refine ⟨1, d, rfl, rfl, 1 + d, rfl, by omega, by omega, fun T' nT => ?_⟩
    have npT : p ≠ T' := p1.ne nT
    refine lc_range (lo := 0) (n := (1 + d).toNat) (fun i Hc => But p H1 Hc ∧ Pot Hc p ∧ ∃ ys : List Str, Hc T' = some (.lst (ys.map V.str)) ∧ ys.length = i ∧ ∀ y ∈ ys, Tx 1 y)
      ⟨But.new nT, p1.new nT, [], upd_same, rfl, fun y hy => by cases hy⟩ (fun i Hc hi ⟨bc, pc, ys, eT, el, e1⟩ => ?_) (fun Hc ⟨bc, pc, ys, eT, el, e1⟩ => ?_)
    · refine ⟨rfl, ?_⟩
      have hzl : allSigns.length ≤ sizeLine := Nat.le_trans hz1 (by decide)
      refine ⟨.str allSigns, rfl, .ref p, rfl, .str allSigns, rfl, allSigns, rfl, hzl, p, allSigns.length, rfl, pc, by omega, by omega, fun H4 j b4 p4 j0 j1 => ?_⟩
      obtain ⟨n, rfl⟩ := Int.eq_ofNat_of_zero_le j0
      have hn : n < allSigns.cps.toList.length := by
        have e : allSigns.cps.toList.length = allSigns.length := by simp [Str.length]
        omega
      have eT4 : H4 T' = some (.lst (ys.map V.str)) := b4 T' _ npT.symm eT
      refine ⟨allSigns, n, allSigns.cps.toList[n], rfl, rfl, hzl, atI_nat (List.getElem?_eq_getElem hn), ys.map V.str, eT4, ?_, ?_, ?_, ys ++ [⟨#[allSigns.cps.toList[n]]⟩], ?_, ?_, ?_⟩
      · rw [List.length_map, el]
        exact small1000 (by omega)
      · exact fun b o nb e => by
          rw [upd_ne (ne_of_none e nT)]
          exact b4 b o nb (bc b o nb e)
      · obtain ⟨x, y, e, h1, h2⟩ := p4
        refine ⟨x, y, ?_, h1, h2⟩
        rw [upd_ne npT]
        exact e
      · rw [upd_same, List.map_append]
        rfl
      · rw [List.length_append, el]
        rfl
      · intro y hy
        rcases List.mem_append.mp hy with hy | hy
        · exact e1 y hy
        · rw [List.mem_singleton.mp hy]
          exact Tx.sign (hz2 _ (List.getElem_mem hn))
    · have e0 : (Str.ofString "").length = 0 := by decide +kernel
      have es := sum_most 1 ys e1
      refine ⟨_, T', ys, rfl, rfl, .inl (SqL.of eT), ?_, q _ _ (b1.trans bc) pc ?_⟩
      · rw [e0]
        omega
      · exact Tx.join (Tx.lit "" 0 (by decide +kernel) (by decide +kernel)) e1 (by omega)
/-! ### _law_about -/
theorem ok_about {f fT fS : Addr} {fd fdT fdS : FuncData} {k : Nat} (F : Fun K "_law_about" "_law_about" sAbout f fd) (T : Df K mg "_law_take" sTake ["_law_pot_here", "_law_room"] fT fdT) (S : Df K mg "_law_signs" sSigns ["_law_pot_here", "_law_most"] fS fdS)
    (mL : mg "len" = none) (mR : mg "range" = none) : FnOk P w K mg base CX0 (k + 3) f fd ["_law_pot_here"] (spDrawn 300) := by
  have GT : FnOk P w K mg base CX0 (k + 2) fT fdT ["_law_pot_here", "_law_room"] spTake := ok_take T.F
  have GS : FnOk P w K mg base CX0 (k + 2) fS fdS ["_law_pot_here", "_law_most"] spSigns := ok_signs S.F T mL mR
  refine F.ok scAbout (fun vs H Q E h => ?_) (fun cdv A outer s H vs Q E hr h => ?_)
  · obtain ⟨p, rfl, _⟩ := h
    rfl
  · obtain ⟨p, rfl, hp, q⟩ := h
    refine ⟨_, pss_cons (ps_set (i := 1) scAbout.nd rfl (.inl rfl) (pe_call GT hr (by rfl) T.g T.F.kp T.b .nil pass0 (pa_cons (pv 0) (pa_cons pe_int pa_nil))))
      (pss_cons (ps_if (pt_cmpR op_eq (pv 1) pe_int (nomark _)) (pss_one (ps_ret pe_str)) pss_nil)
      (pss_cons (ps_if (pt_cmpR op_eq (pv 1) pe_int (nomark _)) (pss_one (ps_ret (pe_op op_mul_str (pe_call GS hr (by rfl) S.g S.F.kp S.b .nil pass0 (pa_cons (pv 0) (pa_cons pe_int pa_nil))) pe_int))) pss_nil)
      (pss_one (ps_ret (pe_join pe_str (pe_lc (own := [("_law_k", 2)]) (g := gName 2) (tt := tYes) rfl scAbout.nd
      (pi_range1 rfl mR (pa_cons (pe_op op_add pe_int (pe_call GT hr (by rfl) T.g T.F.kp T.b .nil pass0 (pa_cons (pv 0) (pa_cons pe_int pa_nil)))) pa_nil))
      (blkOk_by (N := ["_law_pot_here", "_law_way", "_law_k"]) (sc := defScope sAbout) (by decide +kernel))
      (fun _ _ _ _ _ => pg_name (i := 2) scAbout.nd rfl (Or.inl rfl)) (fun _ _ _ _ _ => pts_nil)
      (fun _ _ _ _ _ => pe_call GS hr (by rfl) S.g S.F.kp S.b .nil pass0 (pa_cons (pv 0) (pa_cons pe_int pa_nil))))))))), ?_⟩
    refine ⟨.ref p, rfl, p, 6, rfl, hp, by decide, by decide, fun H1 d1 b1 p1 d10 d11 => ?_⟩
    refine ⟨_, rfl, rfl, _, rfl, ite2 (fun e => q _ _ b1 p1 (Tx.lit "" _ (by decide +kernel) (by decide +kernel))) (fun e => ?_)⟩
    refine ⟨_, rfl, rfl, _, rfl, ite2 (fun e => ?_) (fun e => ?_)⟩
    · refine ⟨.ref p, rfl, p, 1, rfl, p1, by decide, by decide, fun H2 y b2 p2 hy => ?_⟩
      have hy1 : y.length ≤ 1 := hy.le
      exact ⟨y, 200, rfl, rfl, by decide, by omega, fun z hz hc => q _ _ (b1.trans b2) p2 ⟨by omega, fun c h => hy.pl c (hc c h)⟩⟩
    · refine ⟨⟨_, rfl⟩, .ref p, rfl, p, 12, rfl, p1, by decide, by decide, fun H2 d2 b2 p2 d20 d21 => ?_⟩
      refine ⟨1, d2, rfl, rfl, 1 + d2, rfl, by omega, by omega, fun T' nT => ?_⟩
      have npT : p ≠ T' := p2.ne nT
      refine lc_range (lo := 0) (n := (1 + d2).toNat) (fun i Hc => But p H2 Hc ∧ Pot Hc p ∧ ∃ ys : List Str, Hc T' = some (.lst (ys.map V.str)) ∧ ys.length = i ∧ ∀ y ∈ ys, Tx 15 y)
        ⟨But.new nT, p2.new nT, [], upd_same, rfl, fun y hy => by cases hy⟩ (fun i Hc hi ⟨bc, pc, ys, eT, el, e1⟩ => ?_) (fun Hc ⟨bc, pc, ys, eT, el, e1⟩ => ?_)
      · refine ⟨rfl, ?_⟩
        refine ⟨.ref p, rfl, p, 15, rfl, pc, by decide, by decide, fun H4 y b4 p4 hy => ?_⟩
        have eT4 : H4 T' = some (.lst (ys.map V.str)) := b4 T' _ npT.symm eT
        refine ⟨ys.map V.str, eT4, ?_, ?_, ?_, ys ++ [y], ?_, ?_, ?_⟩
        · rw [List.length_map, el]
          exact small1000 (by omega)
        · exact fun b o nb e => by
            rw [upd_ne (ne_of_none e nT)]
            exact b4 b o nb (bc b o nb e)
        · obtain ⟨x, y, e, h1, h2⟩ := p4
          refine ⟨x, y, ?_, h1, h2⟩
          rw [upd_ne npT]
          exact e
        · rw [upd_same, List.map_append]
          rfl
        · rw [List.length_append, el]
          rfl
        · intro z hz
          rcases List.mem_append.mp hz with hz | hz
          · exact e1 z hz
          · rw [List.mem_singleton.mp hz]
            exact hy
      · have e0 : (Str.ofString " ").length = 1 := by decide +kernel
        have es := sum_most 15 ys e1
        refine ⟨_, T', ys, rfl, rfl, .inl (SqL.of eT), ?_, q _ _ ((b1.trans b2).trans bc) pc ?_⟩
        · rw [e0]
          omega
        · exact Tx.join (Tx.lit " " 1 (by decide +kernel) (by decide +kernel)) e1 (by omega)
/-! ### _law_text -/
theorem ok_text {f fT fS : Addr} {fd fdT fdS : FuncData} {k : Nat} (F : Fun K "_law_text" "_law_text" sText f fd) (T : Df K mg "_law_take" sTake ["_law_pot_here", "_law_room"] fT fdT) (S : Df K mg "_law_signs" sSigns ["_law_pot_here", "_law_most"] fS fdS)
    (mL : mg "len" = none) (mR : mg "range" = none) : FnOk P w K mg base CX0 (k + 3) f fd ["_law_pot_here"] (spDrawn 60) := by
  have GT : FnOk P w K mg base CX0 (k + 2) fT fdT ["_law_pot_here", "_law_room"] spTake := ok_take T.F
  have GS : FnOk P w K mg base CX0 (k + 2) fS fdS ["_law_pot_here", "_law_most"] spSigns := ok_signs S.F T mL mR
  refine F.ok scText (fun vs H Q E h => ?_) (fun cdv A outer s H vs Q E hr h => ?_)
  · obtain ⟨p, rfl, _⟩ := h
    rfl
  · obtain ⟨p, rfl, hp, q⟩ := h
    refine ⟨_, pss_cons (ps_set (i := 1) scText.nd rfl (.inl rfl) (pe_call GT hr (by rfl) T.g T.F.kp T.b .nil pass0 (pa_cons (pv 0) (pa_cons pe_int pa_nil))))
      (pss_cons (ps_if (pt_cmpR op_eq (pv 1) pe_int (nomark _)) (pss_one (ps_ret pe_str)) pss_nil)
      (pss_cons (ps_if (pt_cmpR op_eq (pv 1) pe_int (nomark _)) (pss_one (ps_ret (pe_op op_mul_str (pe_call GS hr (by rfl) S.g S.F.kp S.b .nil pass0 (pa_cons (pv 0) (pa_cons pe_int pa_nil))) pe_int))) pss_nil)
      (pss_one (ps_ret (pe_op op_add_str (pe_op op_add_str (pe_op op_mul_str pe_str (pe_call GT hr (by rfl) T.g T.F.kp T.b .nil pass0 (pa_cons (pv 0) (pa_cons pe_int pa_nil))))
        (pe_call GS hr (by rfl) S.g S.F.kp S.b .nil pass0 (pa_cons (pv 0) (pa_cons pe_int pa_nil)))) (pe_op op_mul_str pe_str (pe_call GT hr (by rfl) T.g T.F.kp T.b .nil pass0 (pa_cons (pv 0) (pa_cons pe_int pa_nil))))))))), ?_⟩
    have e1 : (Str.ofString " ").length = 1 := by decide +kernel
    refine ⟨.ref p, rfl, p, 5, rfl, hp, by decide, by decide, fun H1 d1 b1 p1 d10 d11 => ?_⟩
    refine ⟨_, rfl, rfl, _, rfl, ite2 (fun e => q _ _ b1 p1 (Tx.lit "" _ (by decide +kernel) (by decide +kernel))) (fun e => ?_)⟩
    refine ⟨_, rfl, rfl, _, rfl, ite2 (fun e => ?_) (fun e => ?_)⟩
    · refine ⟨.ref p, rfl, p, 1, rfl, p1, by decide, by decide, fun H2 y b2 p2 hy => ?_⟩
      have hy1 : y.length ≤ 1 := hy.le
      exact ⟨y, 60, rfl, rfl, by decide, by omega, fun z hz hc => q _ _ (b1.trans b2) p2 ⟨by omega, fun c h => hy.pl c (hc c h)⟩⟩
    · refine ⟨.ref p, rfl, p, 2, rfl, p1, by decide, by decide, fun H2 d2 b2 p2 d20 d21 => ?_⟩
      obtain ⟨n2, rfl⟩ := Int.eq_ofNat_of_zero_le d20
      refine ⟨_, n2, rfl, rfl, by omega, by rw [e1]; decide, fun z2 hz2 hc2 => ?_⟩
      refine ⟨.ref p, rfl, p, 40, rfl, p2, by decide, by decide, fun H3 y b3 p3 hy => ?_⟩
      rw [e1] at hz2
      have bl : ∀ c ∈ tl (Str.ofString " "), c < 256 := by decide +kernel
      have t2 : Tx 1 z2 := ⟨by omega, fun c h => bl c (hc2 c h)⟩
      have hy1 : y.length ≤ 40 := hy.le
      refine ⟨z2, y, rfl, rfl, Nat.le_of_lt (small1000 (by omega)), ?_⟩
      refine ⟨.ref p, rfl, p, 2, rfl, p3, by decide, by decide, fun H4 d4 b4 p4 d40 d41 => ?_⟩
      obtain ⟨n4, rfl⟩ := Int.eq_ofNat_of_zero_le d40
      refine ⟨_, n4, rfl, rfl, by omega, by rw [e1]; decide, fun z4 hz4 hc4 => ?_⟩
      rw [e1] at hz4
      have t4 : Tx 1 z4 := ⟨by omega, fun c h => bl c (hc4 c h)⟩
      refine ⟨z2 ++ y, z4, rfl, rfl, ?_, q _ _ (((b1.trans b2).trans b3).trans b4) p4 (((t2.app hy).app t4).mono (by decide))⟩
      rw [Str.length_append]
      exact Nat.le_of_lt (small1000 (by omega))
end
end WB

set_option Elab.async false
set_option linter.all false
set_option maxRecDepth 100000
set_option maxHeartbeats 4000000
namespace WB
open PySem PySem.Spec PyProof.Rows L2 WG
open TL (tl)
/-! ### things that may be handed in -/
def isS : V → Bool
  | .str _ => true
  | _ => false
inductive Odd : HO → Prop
  | l0 : Odd (.lst [])
  | l1 {z : Str} (h : Tx 20 z) : Odd (.lst [.str z])
  | t0 : Odd (.tup [])
  | t1 {z : Str} (h : Tx 20 z) : Odd (.tup [.str z])
  | d0 : Odd (.dK [])
  | d1 {x : Str} {i : Int} (h : Tx 20 x) (h0 : 0 ≤ i) (h1 : i ≤ 1000) : Odd (.dK [(Sum.inr x, .int i)])
inductive Thg (H : Hp) : V → Prop
  | non : Thg H .non
  | bl (b : Bool) : Thg H (.bl b)
  | int {i : Int} (h0 : 0 ≤ i) (h1 : i ≤ 10 ^ 64) : Thg H (.int i)
  | str {z : Str} (h : Tx 300 z) : Thg H (.str z)
  | odd {a : Addr} {o : HO} (e : H a = some o) (h : Odd o) : Thg H (.ref a)
theorem Thg.same {H H' : Hp} {v : V} (h : Thg H v) (s : Same H H') : Thg H' v := by
  cases h with
  | non => exact .non
  | bl b => exact .bl b
  | int h0 h1 => exact .int h0 h1
  | str h => exact .str h
  | odd e h => exact .odd (s _ _ e) h
theorem Odd.ne {xs : List V} (h : Odd (.lst xs)) : xs.length ≤ 1 := by
  cases h with
  | l0 => exact Nat.zero_le _
  | l1 _ => exact Nat.le_refl _
/-- isinstance(v, str) -/
theorem Thg.isi {K : PySem.W.Frag} {H : Hp} {v : V} (h : Thg H v) : ∃ t : Value, TyX K H v t ∧ PySem.W.kitOne K t (.type "str") = some (isS v) := by
  cases h with
  | non => exact ⟨_, .base .non, kit_ty (show kitB "NoneType" "str" = some false from by decide +kernel)⟩
  | bl b => exact ⟨_, .base (.bl b), kit_ty (show kitB "bool" "str" = some false from by decide +kernel)⟩
  | int _ _ => exact ⟨_, .base (.int _), kit_ty (show kitB "int" "str" = some false from by decide +kernel)⟩
  | str _ => exact ⟨_, .base (.str _), kit_ty (show kitB "str" "str" = some true from by decide +kernel)⟩
  | odd e h =>
    cases h with
    | l0 => exact ⟨_, .base (.lst e), kit_ty (show kitB "list" "str" = some false from by decide +kernel)⟩
    | l1 _ => exact ⟨_, .base (.lst e), kit_ty (show kitB "list" "str" = some false from by decide +kernel)⟩
    | t0 => exact ⟨_, .base (.tup e), kit_ty (show kitB "tuple" "str" = some false from by decide +kernel)⟩
    | t1 _ => exact ⟨_, .base (.tup e), kit_ty (show kitB "tuple" "str" = some false from by decide +kernel)⟩
    | d0 => exact ⟨_, .base (.dK e), kit_ty (show kitB "dict" "str" = some false from by decide +kernel)⟩
    | d1 _ _ _ => exact ⟨_, .base (.dK e), kit_ty (show kitB "dict" "str" = some false from by decide +kernel)⟩
theorem Thg.tx {H : Hp} {z : Str} (h : Thg H (.str z)) : Tx 300 z := by
  cases h with
  | str h => exact h
/-- its data -/
theorem repr_tx {n : Nat} {z : Str} (h : Tx n z) : (reprText z).length ≤ 10 * n + 2 := by
  have e := StrLaws.reprText_len z (fun c hc => Nat.lt_trans (h.pl c hc) (by decide))
  have := h.le
  omega
/-! ### the mathematics of names and abouts -/
def nameSet : Str := Str.ofString "abcdefghijklmnopqrstuvwxyz0123456789-"
def nm (cs : List Nat) : Bool := decide (cs ≠ []) && decide (cs.length ≤ 10) && !decide (cs.take 1 = [45]) && !decide (cs.getLast? = some 45) && !decide (cs.take 3 = [110, 111, 45]) && cs.all fun c => decide (c ∈ tl nameSet)
def isNm : V → Bool
  | .str z => nm (tl z)
  | _ => false
def ab (z : Str) : Bool := decide (z.length ≤ 200) && (decide (z = Str.ofString "") || !inV (.str (Str.ofString "")) ((Txt.split z (Str.ofString " ")).map V.str))
def isAb : V → Bool
  | .str z => ab z
  | _ => false
theorem starts (x y : Str) : Txt.startswith x y = ((tl x).take (tl y).length == tl y) := by
  unfold Txt.startswith
  rw [StrLaws.subAt_eq, List.drop_zero, TL.len_tl y]
  by_cases h : (tl y).length ≤ (tl x).length
  · have e : decide (0 + (tl y).length ≤ x.length) = true := decide_eq_true (by rw [TL.len_tl x]; omega)
    rw [e, Bool.true_and]
  · have e : decide (0 + (tl y).length ≤ x.length) = false := decide_eq_false (by rw [TL.len_tl x]; omega)
    rw [e, Bool.false_and]
    cases q : ((tl x).take (tl y).length == tl y) with
    | false => rfl
    | true =>
      have z := congrArg List.length (eq_of_beq q)
      rw [List.length_take] at z
      omega
theorem starts_lit (x : Str) (s : String) {l : List Nat} (hl : tl (Str.ofString s) = l) : Txt.startswith x (Str.ofString s) = decide ((tl x).take l.length = l) := by
  rw [starts, hl]
  cases q : ((tl x).take l.length == l) with
  | true => exact (decide_eq_true (eq_of_beq q)).symm
  | false => exact (decide_eq_false (fun e => by rw [e] at q; simp at q)).symm
theorem drop_last {l : List Nat} (h : l ≠ []) : l.drop (l.length - 1) = [l.getLast h] := by
  have e := List.dropLast_concat_getLast h
  have hl : l.length - 1 = l.dropLast.length := by rw [List.length_dropLast]
  rw [hl]
  conv => lhs; rw [← e]
  rw [List.dropLast_concat, List.drop_left]
theorem ends_dash (x : Str) : Txt.endswith x (Str.ofString "-") = decide ((tl x).getLast? = some 45) := by
  unfold Txt.endswith
  have e1 : (Str.ofString "-").length = 1 := by decide +kernel
  have e2 : (Str.ofString "-").cps.toList = [45] := by decide +kernel
  rw [StrLaws.subAt_eq, e1, e2, TL.len_tl x]
  cases hx : tl x with
  | nil => rfl
  | cons c r =>
    have hx' : x.cps.toList = c :: r := hx
    rw [hx']
    have e3 : decide (0 + 1 ≤ (c :: r).length) = true := decide_eq_true (by rw [List.length_cons]; omega)
    rw [e3, Bool.true_and]
    have e4 : ((c :: r).drop ((c :: r).length - 1)).take 1 = [(c :: r).getLast (List.cons_ne_nil c r)] := by
      rw [drop_last (List.cons_ne_nil c r)]
      rfl
    rw [e4, List.getLast?_eq_getLast (List.cons_ne_nil c r)]
    cases q : ([(c :: r).getLast (List.cons_ne_nil c r)] == [45]) with
    | true =>
      have := eq_of_beq q
      injection this with a b
      rw [a]
      rfl
    | false =>
      refine (decide_eq_false fun e => ?_).symm
      rw [Option.some.inj e] at q
      cases q
theorem eq_lit (x : Str) (s : String) : (V.str x = V.str (Str.ofString s)) ↔ tl x = tl (Str.ofString s) := by
  constructor
  · intro h
    rw [V.str.inj h]
  · intro h
    rw [TL.ext_tl h]
theorem dec_lit (x : Str) (s : String) {l : List Nat} (hl : tl (Str.ofString s) = l) : decide (V.str x = V.str (Str.ofString s)) = decide (tl x = l) := by
  rw [← hl]
  exact decide_eq_decide.mpr (eq_lit x s)
theorem cut3 (z : Str) : tl (cutS z none (some 3)) = (tl z).take 3 := by
  show ((z.cps.toList.drop (HT.sIx z.length 0 none)).take (HT.sIx z.length z.length (some 3) - HT.sIx z.length 0 none)) = _
  rw [HT.sIx_none, show HT.sIx z.length z.length (some 3) = min 3 z.length from HT.sIx_nat z.length z.length 3, List.drop_zero, Nat.sub_zero]
  rw [TL.len_tl z]
  rw [← List.take_take, List.take_length]
end WB

set_option Elab.async false
set_option linter.all false
set_option maxRecDepth 100000
set_option maxHeartbeats 4000000
namespace WB
open PySem PySem.Spec PyProof.Rows L2 WG
open TL (tl)
abbrev st_is_text_within : Stmt := topS 19
theorem sc_is_text_within : FnScope ["value", "most"] ["value", "most"] (defScope st_is_text_within) := ⟨rfl, rfl, rfl, by decide +kernel, rfl, by decide +kernel, by decide +kernel⟩
abbrev st_is_name : Stmt := topS 20
theorem sc_is_name : FnScope ["value", "sign"] ["value"] (defScope st_is_name) := ⟨rfl, rfl, rfl, by decide +kernel, rfl, by decide +kernel, by decide +kernel⟩
abbrev st_is_about : Stmt := topS 22
theorem sc_is_about : FnScope ["value"] ["value"] (defScope st_is_about) := ⟨rfl, rfl, rfl, by decide +kernel, rfl, by decide +kernel, by decide +kernel⟩
abbrev st_is_among : Stmt := topS 23
theorem sc_is_among : FnScope ["value", "texts"] ["value", "texts"] (defScope st_is_among) := ⟨rfl, rfl, rfl, by decide +kernel, rfl, by decide +kernel, by decide +kernel⟩
abbrev st_is_default : Stmt := topS 24
theorem sc_is_default : FnScope ["value", "allowed"] ["value", "allowed"] (defScope st_is_default) := ⟨rfl, rfl, rfl, by decide +kernel, rfl, by decide +kernel, by decide +kernel⟩
abbrev st_is_short_or_empty : Stmt := topS 21
theorem sc_is_short_or_empty : FnScope ["value"] ["value"] (defScope st_is_short_or_empty) := ⟨rfl, rfl, rfl, by decide +kernel, rfl, by decide +kernel, by decide +kernel⟩
abbrev st_is_truth : Stmt := topS 25
theorem sc_is_truth : FnScope ["value", "allowed"] ["value", "allowed"] (defScope st_is_truth) := ⟨rfl, rfl, rfl, by decide +kernel, rfl, by decide +kernel, by decide +kernel⟩
section
variable {P : Program} {w : World} {K : PySem.W.Frag} {mg : Str → Option Value} {base : Heap}
/-! ### is_text_within -/
def within (v : V) (m : Int) : Bool := match v with
  | .str z => decide ((z.length : Int) ≤ m)
  | _ => false
def spWithin : Sp := fun vs H Q _ => ∃ (v : V) (m : Int), vs = [v, .int m] ∧ Thg H v ∧ Q (.bl (within v m)) H
theorem ok_within {f : Addr} {fd : FuncData} {k : Nat} (F : Fun K "is_text_within" "is_text_within" st_is_text_within f fd) (m_len : mg "len" = none) (m_str : mg "str" = none) (m_isinstance : mg "isinstance" = none) :
    FnOk P w K mg base CX0 (k + 1) f fd ["value", "most"] spWithin := by
  refine F.ok sc_is_text_within (fun vs H Q E h => ?_) (fun cdv A outer s H vs Q E hr h => ?_)
  · obtain ⟨v, m, rfl, _⟩ := h
    rfl
  · obtain ⟨v, m, rfl, hv, q⟩ := h
    refine ⟨_, pss_one (ps_ret (pe_and (pe_callB call_isi (by rfl) m_isinstance (by decide +kernel) (pa_cons (pv 0) (pa_cons (pe_bltn (v := .ty "str") (by rfl) m_str (by decide +kernel) rfl) pa_nil))) (pe_one (pe_cmpR op_le (pe_callB call_len_str (by rfl) m_len PySem.boot_len (pa_cons (pv 0) pa_nil)) (pv 1) (nomark _))))), ?_⟩
    obtain ⟨t, ht, hk⟩ := hv.isi (K := K)
    refine ⟨v, rfl, v, _, t, _, isS v, rfl, ClsV.ty "str", ht, hk, _, rfl, ?_⟩
    cases v with
    | str z =>
      exact ⟨_, rfl, z, rfl, Nat.le_trans hv.tx.le (by decide), _, rfl, _, _, rfl, rfl, q⟩
    | _ => exact q
/-! ### is_name -/
def spOf (g : V → Bool) : Sp := fun vs H Q _ => ∃ v : V, vs = [v] ∧ Thg H v ∧ ∀ H', Same H H' → Q (.bl (g v)) H'
theorem ok_isName {f fW : Addr} {fd fdW : FuncData} {k : Nat} {u1 u2 : Tok} (F : Fun K "is_name" "is_name" st_is_name f fd) (D_is_text_within : Df K mg "is_text_within" st_is_text_within ["value", "most"] fW fdW)
    (m_len : mg "len" = none) (m_str : mg "str" = none) (m_isinstance : mg "isinstance" = none) (m_all : mg "all" = none) (c_MOST_NAME_SIGNS : mg "MOST_NAME_SIGNS" = some (.int 10 u1)) (c_NAME_SIGNS : mg "NAME_SIGNS" = some (.str nameSet u2)) :
    FnOk P w K mg base CX0 (k + 2) f fd ["value"] (spOf isNm) := by
  have G_is_text_within : FnOk P w K mg base CX0 (k + 1) fW fdW ["value", "most"] spWithin := ok_within D_is_text_within.F m_len m_str m_isinstance
  refine F.ok sc_is_name (fun vs H Q E h => ?_) (fun cdv A outer s H vs Q E hr h => ?_)
  · obtain ⟨v, rfl, _⟩ := h
    rfl
  · obtain ⟨v, rfl, hv, q⟩ := h
    refine ⟨_, pss_cons (ps_if (PW.pt (pw_or (pt_not (pt_val (pe_call G_is_text_within hr (by rfl) D_is_text_within.g D_is_text_within.F.kp D_is_text_within.b .nil pass0 (pa_cons (pv 0) (pa_cons (pe_glob (v := .int 10) rfl c_MOST_NAME_SIGNS ⟨_, rfl⟩) pa_nil))))) (pw_or1 (pt_cmpR op_eq (pv 0) pe_str (nomark _))))) (pss_one (ps_ret pe_bl)) pss_nil)
      (pss_cons (ps_if (PW.pt (pw_or (pt_val (pe_m1 PySem.F.slot_str_startswith PySem.F.type_str_startswith mt_startswith (pv 0) pe_str)) (pw_or (pt_val (pe_m1 PySem.F.slot_str_endswith PySem.F.type_str_endswith mt_endswith (pv 0) pe_str)) (pw_or1 (pt_val (pe_m1 PySem.F.slot_str_startswith PySem.F.type_str_startswith mt_startswith (pv 0) pe_str)))))) (pss_one (ps_ret pe_bl)) pss_nil)
      (pss_one (ps_ret (pe_callB (cr_all rfl) (by rfl) m_all (by decide +kernel) (pa_cons (pe_lc (own := [("sign", 1)]) (g := gName 1) (tt := tYes) rfl sc_is_name.nd (pi_str (pv 0)) (blkOk_by (N := ["value", "sign"]) (sc := defScope st_is_name) (by decide +kernel)) (fun _ _ _ _ _ => (pg_name (i := 1) sc_is_name.nd rfl (Or.inl rfl))) (fun _ _ _ _ _ => pts_nil) (fun _ _ _ _ _ => (pe_cmpR op_in_sign (pv 1) (pe_glob (v := .str nameSet) rfl c_NAME_SIGNS ⟨_, rfl⟩) (by rfl)))) pa_nil))))), ?_⟩
    refine ⟨v, rfl, v, 10, rfl, hv, _, rfl, ite2 (fun e => ?_) (fun e => ?_)⟩
    · cases v with
      | str z =>
        have e1 : ¬ ((z.length : Int) ≤ 10) := fun c => by
          have : within (.str z) 10 = true := decide_eq_true c
          rw [this] at e
          cases e
        have e2 : isNm (.str z) = false := by
          show nm (tl z) = false
          unfold nm
          rw [decide_eq_false (p := (tl z).length ≤ 10) (by rw [← TL.len_tl]; omega)]
          simp
        rw [e2] at q
        exact q _ (Same.refl _)
      | _ => exact q _ (Same.refl _)
    · cases v with
      | str z =>
        have e1 : (z.length : Int) ≤ 10 := by
          have : within (.str z) 10 = true := by
            cases c : within (.str z) 10 with
            | true => rfl
            | false => rw [c] at e; exact absurd rfl e
          exact of_decide_eq_true this
        refine ⟨.str z, rfl, rfl, _, rfl, ite2 (fun e => ?_) (fun e => ?_)⟩
        · have e2 : tl z = [] := (eq_lit z "").mp (of_decide_eq_true e)
          have e3 : isNm (.str z) = false := by
            show nm (tl z) = false
            rw [e2]
            rfl
          rw [e3] at q
          exact q _ (Same.refl _)
        · have e2 : tl z ≠ [] := fun c => e (decide_eq_true ((eq_lit z "").mpr c))
          have hlen : (tl z).length ≤ 10 := by rw [← TL.len_tl]; omega
          have neg : ∀ b : Bool, b = true → (b = true → nm (tl z) = false) → nm (tl z) = false := fun b h k => k h
          refine ⟨.str z, rfl, ⟨_, rfl⟩, _, _, rfl, rfl, _, rfl, ite2 (fun e => ?_) (fun e => ?_)⟩
          · rw [starts_lit z "-" (l := [45]) (by decide +kernel)] at e
            have e3 : isNm (.str z) = false := by
              show nm (tl z) = false
              unfold nm
              rw [show decide ((tl z).take 1 = [45]) = true from e]
              simp
            rw [e3] at q
            exact q _ (Same.refl _)
          · rw [starts_lit z "-" (l := [45]) (by decide +kernel)] at e
            have n1 : decide ((tl z).take 1 = [45]) = false := Bool.eq_false_iff.mpr e
            refine ⟨.str z, rfl, ⟨_, rfl⟩, _, _, rfl, rfl, _, rfl, ite2 (fun e => ?_) (fun e => ?_)⟩
            · rw [ends_dash z] at e
              have e3 : isNm (.str z) = false := by
                show nm (tl z) = false
                unfold nm
                rw [e]
                simp
              rw [e3] at q
              exact q _ (Same.refl _)
            · rw [ends_dash z] at e
              have n2 : decide ((tl z).getLast? = some 45) = false := Bool.eq_false_iff.mpr e
              refine ⟨.str z, rfl, ⟨_, rfl⟩, _, _, rfl, rfl, _, rfl, ite2 (fun e => ?_) (fun e => ?_)⟩
              · rw [starts_lit z "no-" (l := [110, 111, 45]) (by decide +kernel)] at e
                have e3 : isNm (.str z) = false := by
                  show nm (tl z) = false
                  unfold nm
                  rw [show decide ((tl z).take 3 = [110, 111, 45]) = true from e]
                  simp
                rw [e3] at q
                exact q _ (Same.refl _)
              · rw [starts_lit z "no-" (l := [110, 111, 45]) (by decide +kernel)] at e
                have n3 : decide ((tl z).take 3 = [110, 111, 45]) = false := Bool.eq_false_iff.mpr e
                have e3 : isNm (.str z) = (tl z).all fun c => decide (c ∈ tl nameSet) := by
                  show nm (tl z) = _
                  unfold nm
                  rw [n1, n2, n3, decide_eq_true e2, decide_eq_true hlen]
                  simp
                refine ⟨.str z, rfl, z, rfl, fun D nD => ?_⟩
                refine lc_it walk_str (fun i Hc => Same H Hc ∧ Hc D = some (.lst ((((tl z).take i).map fun c => decide (c ∈ tl nameSet)).map V.bl))) ⟨same_upd nD, upd_same⟩ (fun _ _ _ _ => True.intro) (fun i x Hc H' hi ⟨sc, eD⟩ ⟨eH, c, ec, ex⟩ => ?_) (fun Hc ⟨sc, eD⟩ => ?_)
                · subst eH ex
                  have ec' : (tl z)[i]? = some c := by
                    rw [Array.getElem?_toList]
                    exact ec
                  refine ⟨rfl, ?_⟩
                  refine ⟨_, rfl, c, nameSet, rfl, rfl, _, eD, ?_, ?_, ?_⟩
                  · rw [List.length_map, List.length_map, List.length_take]
                    exact small1000 (by omega)
                  · intro b o e
                    rw [upd_ne (ne_of_none e nD)]
                    exact sc b o e
                  · rw [upd_same, List.take_add_one, ec', List.map_append, List.map_append]
                    rfl
                · refine ⟨D, _, rfl, SqL.of eD, ?_⟩
                  have el : z.cps.size = (tl z).length := by simp
                  rw [el, List.take_length, List.all_map]
                  rw [e3] at q
                  exact q _ sc
      | _ => exact absurd rfl e
/-! ### is_about -/
theorem strs_flat (ys : List Str) : (ys.map V.str).all flatV = true := by
  rw [List.all_map]
  exact List.all_eq_true.mpr fun _ _ => rfl
theorem ok_isAbout {f fW : Addr} {fd fdW : FuncData} {k : Nat} {u1 : Tok} (F : Fun K "is_about" "is_about" st_is_about f fd) (D_is_text_within : Df K mg "is_text_within" st_is_text_within ["value", "most"] fW fdW)
    (m_len : mg "len" = none) (m_str : mg "str" = none) (m_isinstance : mg "isinstance" = none) (c_MOST_ABOUT_SIGNS : mg "MOST_ABOUT_SIGNS" = some (.int 200 u1)) :
    FnOk P w K mg base CX0 (k + 2) f fd ["value"] (spOf isAb) := by
  have G_is_text_within : FnOk P w K mg base CX0 (k + 1) fW fdW ["value", "most"] spWithin := ok_within D_is_text_within.F m_len m_str m_isinstance
  refine F.ok sc_is_about (fun vs H Q E h => ?_) (fun cdv A outer s H vs Q E hr h => ?_)
  · obtain ⟨v, rfl, _⟩ := h
    rfl
  · obtain ⟨v, rfl, hv, q⟩ := h
    refine ⟨_, pss_cons (ps_if (pt_not (pt_val (pe_call G_is_text_within hr (by rfl) D_is_text_within.g D_is_text_within.F.kp D_is_text_within.b .nil pass0 (pa_cons (pv 0) (pa_cons (pe_glob (v := .int 200) rfl c_MOST_ABOUT_SIGNS ⟨_, rfl⟩) pa_nil))))) (pss_one (ps_ret pe_bl)) pss_nil)
      (pss_one (ps_ret (pe_or (pe_cmpR op_eq (pv 0) pe_str (nomark _)) (pe_one (pe_cmpR op_notIn_seq pe_str (pe_split (pv 0) pe_str) (by rfl)))))), ?_⟩
    refine ⟨v, rfl, v, 200, rfl, hv, _, rfl, ite2 (fun e => ?_) (fun e => ?_)⟩
    · cases v with
      | str z =>
        have e1 : ¬ ((z.length : Int) ≤ 200) := fun c => by
          have : within (.str z) 200 = true := decide_eq_true c
          rw [this] at e
          cases e
        have e2 : isAb (.str z) = false := by
          show ab z = false
          unfold ab
          rw [decide_eq_false (p := z.length ≤ 200) (by omega)]
          rfl
        rw [e2] at q
        exact q _ (Same.refl _)
      | _ => exact q _ (Same.refl _)
    · cases v with
      | str z =>
        have e1 : (z.length : Int) ≤ 200 := by
          have : within (.str z) 200 = true := by
            cases c : within (.str z) 200 with
            | true => rfl
            | false => rw [c] at e; exact absurd rfl e
          exact of_decide_eq_true this
        have e2 : isAb (.str z) = (decide (z = Str.ofString "") || !inV (.str (Str.ofString "")) ((Txt.split z (Str.ofString " ")).map V.str)) := by
          show ab z = _
          unfold ab
          rw [decide_eq_true (p := z.length ≤ 200) (by omega), Bool.true_and]
        have e3 : decide (V.str z = V.str (Str.ofString "")) = decide (z = Str.ofString "") := decide_eq_decide.mpr ⟨fun h => V.str.inj h, fun h => by rw [h]⟩
        refine ⟨.str z, rfl, rfl, _, rfl, ite2 (fun e => ?_) (fun e => ?_)⟩
        · rw [e2, ← e3, e] at q
          exact q _ (Same.refl _)
        · have e4 : decide (V.str z = V.str (Str.ofString "")) = false := Bool.eq_false_iff.mpr e
          rw [e2, ← e3, e4, Bool.false_or] at q
          refine ⟨.str z, rfl, ⟨_, rfl⟩, _, _, rfl, rfl, by decide +kernel, ?_, fun p np => ?_⟩
          · have : sizeLine = 16777216 := sizeLine_eq
            omega
          · exact ⟨p, _, rfl, .inl (SqL.of upd_same), rfl, strs_flat _, q _ (same_upd np)⟩
      | _ => exact absurd rfl e
/-! ### is_among -/
def among (v : V) (ys : List Str) : Bool := match v with
  | .str z => inV (.str z) (ys.map V.str)
  | _ => false
def spAmong (K : PySem.W.Frag) : Sp := fun vs H Q _ => ∃ (v : V) (a : Addr) (ys : List Str), vs = [v, .ref a] ∧ Thg H v ∧ SqT K H a (ys.map V.str) ∧ Q (.bl (among v ys)) H
theorem ok_isAmong {f : Addr} {fd : FuncData} {k : Nat} (F : Fun K "is_among" "is_among" st_is_among f fd) (m_str : mg "str" = none) (m_isinstance : mg "isinstance" = none) :
    FnOk P w K mg base CX0 (k + 1) f fd ["value", "texts"] (spAmong K) := by
  refine F.ok sc_is_among (fun vs H Q E h => ?_) (fun cdv A outer s H vs Q E hr h => ?_)
  · obtain ⟨v, a, ys, rfl, _⟩ := h
    rfl
  · obtain ⟨v, a, ys, rfl, hv, hS, q⟩ := h
    refine ⟨_, pss_one (ps_ret (pe_and (pe_callB call_isi (by rfl) m_isinstance (by decide +kernel) (pa_cons (pv 0) (pa_cons (pe_bltn (v := .ty "str") (by rfl) m_str (by decide +kernel) rfl) pa_nil))) (pe_one (pe_cmpR op_in_seq (pv 0) (pv 1) (by rfl))))), ?_⟩
    obtain ⟨t, ht, hk⟩ := hv.isi (K := K)
    refine ⟨v, rfl, v, _, t, _, isS v, rfl, ClsV.ty "str", ht, hk, _, rfl, ?_⟩
    cases v with
    | str z => exact ⟨_, rfl, _, rfl, a, _, rfl, .inr hS, rfl, strs_flat _, q⟩
    | _ => exact q
/-! ### is_default -/
def dflt (v : V) (allowed : Bool) : Bool := decide (v = .non) || (allowed && within v 60)
def spDefault : Sp := fun vs H Q _ => ∃ (v : V) (b : Bool), vs = [v, .bl b] ∧ Thg H v ∧ Q (.bl (dflt v b)) H
theorem ok_isDefault {f fW : Addr} {fd fdW : FuncData} {k : Nat} {u1 : Tok} (F : Fun K "is_default" "is_default" st_is_default f fd) (D_is_text_within : Df K mg "is_text_within" st_is_text_within ["value", "most"] fW fdW)
    (m_len : mg "len" = none) (m_str : mg "str" = none) (m_isinstance : mg "isinstance" = none) (c_MOST_DEFAULT_SIGNS : mg "MOST_DEFAULT_SIGNS" = some (.int 60 u1)) :
    FnOk P w K mg base CX0 (k + 2) f fd ["value", "allowed"] spDefault := by
  have G_is_text_within : FnOk P w K mg base CX0 (k + 1) fW fdW ["value", "most"] spWithin := ok_within D_is_text_within.F m_len m_str m_isinstance
  refine F.ok sc_is_default (fun vs H Q E h => ?_) (fun cdv A outer s H vs Q E hr h => ?_)
  · obtain ⟨v, b, rfl, _⟩ := h
    rfl
  · obtain ⟨v, b, rfl, hv, q⟩ := h
    refine ⟨_, pss_cons (ps_if (pt_cmpR op_isN (pv 0) pe_non (nomark _)) (pss_one (ps_ret pe_bl)) pss_nil)
      (pss_one (ps_ret (pe_and (pv 1) (pe_one (pe_call G_is_text_within hr (by rfl) D_is_text_within.g D_is_text_within.F.kp D_is_text_within.b .nil pass0 (pa_cons (pv 0) (pa_cons (pe_glob (v := .int 60) rfl c_MOST_DEFAULT_SIGNS ⟨_, rfl⟩) pa_nil))))))), ?_⟩
    refine ⟨v, rfl, rfl, _, rfl, ite2 (fun e => ?_) (fun e => ?_)⟩
    · unfold dflt at q
      rw [e] at q
      exact q
    · unfold dflt at q
      rw [Bool.eq_false_iff.mpr e, Bool.false_or] at q
      refine ⟨.bl b, rfl, b, rfl, ?_⟩
      cases b with
      | true => exact ⟨v, rfl, v, 60, rfl, hv, q⟩
      | false => exact q
theorem dp_strs {K : PySem.W.Frag} {H : Hp} : ∀ ys : List Str, DpAll K H (ys.map V.str) (ys.map PyData.str)
  | [] => .nil
  | y :: r => .cons (.str y) (dp_strs r)
theorem strOk_of {z : Str} (h : ∀ c ∈ tl z, c < 256) : PyData.strOk z = true := by
  unfold PyData.strOk
  rw [← Array.all_toList]
  exact List.all_eq_true.mpr fun c hc => decide_eq_true (Nat.lt_trans (h c hc) (by decide))
theorem lay_strs : ∀ ys : List Str, (∀ y ∈ ys, PyData.strOk y = true) → PyData.canLayAll0 (ys.map PyData.str) = true ∧ PyData.depthAll (ys.map PyData.str) = 0
  | [], _ => ⟨by simp [PyData.canLayAll0], by simp [PyData.depthAll]⟩
  | y :: r, h => by
    obtain ⟨h1, h2⟩ := lay_strs r fun z hz => h z (List.mem_cons_of_mem _ hz)
    rw [List.map_cons]
    exact ⟨by simp [PyData.canLayAll0, PyData.canLay0, h1, h y List.mem_cons_self], by simp [PyData.depthAll, PyData.depth, h2]⟩
theorem shaped_strs (ys : List Str) (h : ∀ y ∈ ys, PyData.strOk y = true) : SeqAt.shaped (.list (ys.map PyData.str)) = true := by
  obtain ⟨h1, h2⟩ := lay_strs ys h
  unfold SeqAt.shaped
  simp [PyData.canLay0, PyData.depth, h1, h2]
theorem eqv_nil (ds : List PyData) : PyData.eqv (.list ds) (.list []) = ds.isEmpty := by
  cases ds with
  | nil => simp [PyData.eqv, PyData.eqvAll]
  | cons d r => simp [PyData.eqv, PyData.eqvAll]
theorem filter_all (p : Nat → Bool) : ∀ l : List Nat, (l.filter fun c => !p c).isEmpty = l.all p
  | [] => rfl
  | c :: r => by
    cases h : p c with
    | true =>
      rw [List.filter_cons_of_neg (by rw [h]; decide), filter_all p r, List.all_cons, h, Bool.true_and]
    | false =>
      rw [List.filter_cons_of_pos (by rw [h]; rfl), List.all_cons, h]
      rfl
/-! ### the law's own looks -/
/-! ### shorts -/
def letters : Str := Str.ofString "abcdefghijklmnopqrstuvwxyzABCDEFGHIJKLMNOPQRSTUVWXYZ"
def inLet (z : Str) : Bool := !(Builtin.Str.occurrences letters z 0 letters.length 1).isEmpty
def isSh : V → Bool
  | .str z => decide ((z.length : Int) ≤ 1) && inLet z
  | _ => false
theorem ok_isShort {f fW : Addr} {fd fdW : FuncData} {k : Nat} {u1 : Tok} (F : Fun K "is_short_or_empty" "is_short_or_empty" st_is_short_or_empty f fd) (D_is_text_within : Df K mg "is_text_within" st_is_text_within ["value", "most"] fW fdW)
    (m_len : mg "len" = none) (m_str : mg "str" = none) (m_isinstance : mg "isinstance" = none) (c_LETTERS : mg "LETTERS" = some (.str letters u1)) :
    FnOk P w K mg base CX0 (k + 2) f fd ["value"] (spOf isSh) := by
  have G_is_text_within : FnOk P w K mg base CX0 (k + 1) fW fdW ["value", "most"] spWithin := ok_within D_is_text_within.F m_len m_str m_isinstance
  refine F.ok sc_is_short_or_empty (fun vs H Q E h => ?_) (fun cdv A outer s H vs Q E hr h => ?_)
  · obtain ⟨v, rfl, _⟩ := h
    rfl
  · obtain ⟨v, rfl, hv, q⟩ := h
    refine ⟨_, pss_one (ps_ret (pe_and (pe_call G_is_text_within hr (by rfl) D_is_text_within.g D_is_text_within.F.kp D_is_text_within.b .nil pass0 (pa_cons (pv 0) (pa_cons pe_int pa_nil))) (pe_one (pe_cmpR op_in_str (pv 0) (pe_glob (v := .str letters) rfl c_LETTERS ⟨_, rfl⟩) (by rfl))))), ?_⟩
    refine ⟨v, rfl, v, 1, rfl, hv, _, rfl, ?_⟩
    have q' := q H (Same.refl H)
    cases v with
    | str z =>
      cases e : decide ((z.length : Int) ≤ 1) with
      | true =>
        have e2 : within (.str z) 1 = true := e
        rw [e2]
        have e3 : isSh (.str z) = inLet z := by show (decide ((z.length : Int) ≤ 1) && inLet z) = inLet z; rw [e, Bool.true_and]
        rw [e3] at q'
        exact ⟨_, rfl, _, _, rfl, rfl, q'⟩
      | false =>
        have e2 : within (.str z) 1 = false := e
        rw [e2]
        have e3 : isSh (.str z) = false := by show (decide ((z.length : Int) ≤ 1) && inLet z) = false; rw [e, Bool.false_and]
        rw [e3] at q'
        exact q'
    | _ => exact q'
/-! ### truths -/
def isB : V → Bool
  | .bl _ => true
  | _ => false
theorem Thg.isb {K : PySem.W.Frag} {H : Hp} {v : V} (h : Thg H v) : ∃ t : Value, TyX K H v t ∧ PySem.W.kitOne K t (.type "bool") = some (isB v) := by
  cases h with
  | non => exact ⟨_, .base .non, kit_ty (show kitB "NoneType" "bool" = some false from by decide +kernel)⟩
  | bl b => exact ⟨_, .base (.bl b), kit_ty (show kitB "bool" "bool" = some true from by decide +kernel)⟩
  | int _ _ => exact ⟨_, .base (.int _), kit_ty (show kitB "int" "bool" = some false from by decide +kernel)⟩
  | str _ => exact ⟨_, .base (.str _), kit_ty (show kitB "str" "bool" = some false from by decide +kernel)⟩
  | odd e h =>
    cases h with
    | l0 => exact ⟨_, .base (.lst e), kit_ty (show kitB "list" "bool" = some false from by decide +kernel)⟩
    | l1 _ => exact ⟨_, .base (.lst e), kit_ty (show kitB "list" "bool" = some false from by decide +kernel)⟩
    | t0 => exact ⟨_, .base (.tup e), kit_ty (show kitB "tuple" "bool" = some false from by decide +kernel)⟩
    | t1 _ => exact ⟨_, .base (.tup e), kit_ty (show kitB "tuple" "bool" = some false from by decide +kernel)⟩
    | d0 => exact ⟨_, .base (.dK e), kit_ty (show kitB "dict" "bool" = some false from by decide +kernel)⟩
    | d1 _ _ _ => exact ⟨_, .base (.dK e), kit_ty (show kitB "dict" "bool" = some false from by decide +kernel)⟩
def trth (v : V) (allowed : Bool) : Bool := match v with
  | .bl b => allowed || !b
  | _ => false
def spTruth : Sp := fun vs H Q _ => ∃ (v : V) (b : Bool), vs = [v, .bl b] ∧ Thg H v ∧ Q (.bl (trth v b)) H
theorem ok_isTruth {f : Addr} {fd : FuncData} {k : Nat} (F : Fun K "is_truth" "is_truth" st_is_truth f fd) (m_bool : mg "bool" = none) (m_isinstance : mg "isinstance" = none) : FnOk P w K mg base CX0 (k + 1) f fd ["value", "allowed"] spTruth := by
  refine F.ok sc_is_truth (fun vs H Q E h => ?_) (fun cdv A outer s H vs Q E hr h => ?_)
  · obtain ⟨v, b, rfl, _⟩ := h
    rfl
  · obtain ⟨v, b, rfl, hv, q⟩ := h
    refine ⟨_, pss_one (ps_ret (pe_and (pe_callB call_isi (by rfl) m_isinstance (by decide +kernel) (pa_cons (pv 0) (pa_cons (pe_bltn (v := .ty "bool") (by rfl) m_bool (by decide +kernel) rfl) pa_nil))) (pe_one (pe_or (pv 1) (pe_one (pe_not (pv 0))))))), ?_⟩
    obtain ⟨t, ht, hk⟩ := hv.isb (K := K)
    refine ⟨v, rfl, v, _, t, _, isB v, rfl, ClsV.ty "bool", ht, hk, _, rfl, ?_⟩
    cases v with
    | bl c =>
      refine ⟨.bl b, rfl, b, rfl, ?_⟩
      cases b with
      | true => exact q
      | false => exact ⟨.bl c, rfl, c, rfl, q⟩
    | _ => exact q
/-- x is True, x is False -/
theorem op_isBA {X : Cx} : OpR X (compareOp .Is) (fun x y H Q => ∃ b : Bool, y = .bl b ∧ Q (.bl (decide (x = .bl b))) H) := by
  intro pins s σ H x y v u Q I rx ry h
  obtain ⟨b, rfl, q⟩ := h
  cases (show u = Value.bool b from ry)
  cases x with
  | bl a =>
    cases (show v = Value.bool a from rx)
    by_cases e : a = b
    · subst e
      exact wpAny_is_self rfl ⟨.bl true, H, I, rfl, by simpa using q⟩
    · exact wpAny_is_other rfl (fun z => e (Value.bool.inj z)) ⟨.bl false, H, I, rfl, by simpa [e] using q⟩
  | non =>
    cases (show v = Value.none from rx)
    exact wpAny_is_other rfl (fun z => by cases z) ⟨.bl false, H, I, rfl, by simpa using q⟩
  | int i =>
    obtain ⟨t, rfl⟩ := rx
    exact wpAny_is_other rfl (fun z => by cases z) ⟨.bl false, H, I, rfl, by simpa using q⟩
  | str z =>
    obtain ⟨t, rfl⟩ := rx
    exact wpAny_is_other rfl (fun z => by cases z) ⟨.bl false, H, I, rfl, by simpa using q⟩
  | byt z =>
    obtain ⟨t, rfl⟩ := rx
    exact wpAny_is_other rfl (fun z => by cases z) ⟨.bl false, H, I, rfl, by simpa using q⟩
  | flt z =>
    obtain ⟨t, rfl⟩ := rx
    exact wpAny_is_other rfl (fun z => by cases z) ⟨.bl false, H, I, rfl, by simpa using q⟩
  | ref a =>
    cases (show v = Value.ref a from rx)
    exact wpAny_is_other rfl (fun z => by cases z) ⟨.bl false, H, I, rfl, by simpa using q⟩
  | ty n =>
    cases (show v = Value.type n from rx)
    exact wpAny_is_other rfl (fun z => by cases z) ⟨.bl false, H, I, rfl, by simpa using q⟩
end
end WB

set_option Elab.async false
set_option linter.all false
set_option maxRecDepth 100000
set_option maxHeartbeats 4000000
namespace WB
open PySem PySem.Spec PyProof.Rows L2 WG
open TL (tl)
abbrev st_err : Stmt := inClass (topS 2) 0
abbrev st_init : Stmt := inClass (topS 33) 0
theorem sc_err : FnScope ["self", "field"] ["self", "field"] (defScope st_err) := ⟨rfl, rfl, rfl, by decide +kernel, rfl, by decide +kernel, by decide +kernel⟩
abbrev st_Option_init : Stmt := inClass (topS 33) 0
theorem sc_Option_init : FnScope ["self", "long", "short", "takes", "maker", "default", "needed", "off", "about"] ["self", "long", "short", "takes", "maker", "default", "needed", "off", "about"] (defScope st_Option_init) := ⟨rfl, rfl, rfl, by decide +kernel, rfl, by decide +kernel, by decide +kernel⟩
abbrev sc_init := sc_Option_init
/-! ### what is wrong first -/
def takesL : List Str := [Str.ofString "flag", Str.ofString "count", Str.ofString "one", Str.ofString "last", Str.ofString "each"]
def plainL : List Str := [Str.ofString "flag", Str.ofString "count"]
def singleL : List Str := [Str.ofString "one", Str.ofString "last"]
def taken (v : V) : Str := match v with
  | .str z => z
  | _ => Str.ofString "none"
def plain (v : V) : Bool := inV (.str (taken v)) (plainL.map V.str)
def single (v : V) : Bool := inV (.str (taken v)) (singleL.map V.str)
def wrongF (v0 v1 v2 v3 v4 v5 v6 v7 : V) : Str := if isNm v0 = false then Str.ofString "long" else if isSh v1 = false then Str.ofString "short" else if among v2 takesL = false then Str.ofString "takes" else if isNm v3 = false then Str.ofString "maker" else if dflt v4 (single v2) = false then Str.ofString "default" else if trth v5 (!plain v2 && decide (v4 = .non)) = false then Str.ofString "needed" else if trth v6 (plain v2) = false then Str.ofString "off" else if isAb v7 = false then Str.ofString "about" else Str.ofString ""
/-- NoOption, as the written part tells it -/
structure ErrT (K : PySem.W.Frag) (mg : Str → Option Value) (x : Str) (C fI : Addr) (fd : FuncData) : Prop where
  o : OexC K C
  i : PySem.W.findIn K (.ref C) "__init__" = some (some (.ref fI))
  t : PySem.W.typeIn K (.ref fI) = some (.type "function")
  nf : PySem.W.findIn K (.ref C) "field" = some none
  g : mg x = some (.ref C)
  b : Binds K fd ["self", "field"] []
section
variable {P : Program} {w : World} {K : PySem.W.Frag} {mg : Str → Option Value} {base : Heap}
def spErr (C : Addr) : Sp := fun vs H Q _ => ∃ (a : Addr) (y : V), vs = [.ref a, y] ∧ H a = some (exo a C none) ∧ ∀ dx, H dx = none → dx ≠ a → Q .non (upd (upd H dx (exd dx [(("field" : Str), y)])) a (exo a C (some dx)))
theorem ok_err {C f : Addr} {fd : FuncData} {x q : Str} {k : Nat} (F : Fun K "__init__" q st_err f fd) (T : ErrT K mg x C f fd) : FnOk P w K mg base CX0 (k + 1) f fd ["self", "field"] (spErr C) := by
  refine F.ok sc_err (fun vs H Q E h => ?_) (fun cdv A outer s H vs Q E hr h => ?_)
  · obtain ⟨a, y, rfl, _⟩ := h
    rfl
  · obtain ⟨a, y, rfl, ea, q⟩ := h
    refine ⟨_, pss_one (ps_ost (pv 0) (pv 1)), ?_⟩
    exact ⟨y, rfl, .ref a, rfl, a, C, rfl, T.o, T.nf, .inl ⟨ea, fun dx n ne => q dx n ne⟩⟩
/-- the way out by a raised error -/
theorem err_out {C : Addr} {y : V} {H : Hp} {E : XK} {x : Addr} (h : ∀ H' d, Same H H' → H d = none → H' d = some (.xd [(("field" : Str), y)]) → E (.ref C) (some d) H') (a : Addr) (na : H a = none) :
    spErr C [.ref a, y] (upd H a (exo a C none)) (fun v H2 => v = .non ∧ ∃ (d : Addr) (fs : List (Str × V)), H2 a = some (exo a C (some d)) ∧ H2 d = some (exd d fs) ∧ H d = none ∧ E (.ref C) (some d) (upd (del H2 a) d (.xd fs))) (fun _ _ _ => False) := by
  refine ⟨a, y, rfl, upd_same, fun dx ndx ne => ⟨rfl, dx, [(("field" : Str), y)], upd_same, ?_, ?_, ?_⟩⟩
  · rw [upd_ne ne, upd_same]
  · rw [upd_ne ne] at ndx
    exact ndx
  · rw [upd_ne ne] at ndx
    refine h _ dx (fun b o e => ?_) ndx upd_same
    have nb : b ≠ dx := ne_of_none e ndx
    have nba : b ≠ a := ne_of_none e na
    rw [upd_ne nb, del_ne nba, upd_ne nba, upd_ne nb, upd_ne nba]
    exact e
/-! ### Option.__init__ -/
/-- Option, as the written part tells it -/
structure ClsT (K : PySem.W.Frag) (C : Addr) : Prop where
  cl : Cls K C
  nh : NoAttr K C "held"
def spInit (C CN : Addr) : Sp := fun vs H Q E => ∃ (x dx : Addr) (v0 v1 v2 v3 v4 v5 v6 v7 : V), vs = [.ref x, v0, v1, v2, v3, v4, v5, v6, v7] ∧ H x = some (.ins C dx []) ∧ (Thg H v0 ∧ Thg H v1 ∧ Thg H v2 ∧ Thg H v3 ∧ Thg H v4 ∧ Thg H v5 ∧ Thg H v6 ∧ Thg H v7) ∧
  (wrongF v0 v1 v2 v3 v4 v5 v6 v7 = Str.ofString "" → ∀ H' t, But x H H' → H' x = some (.ins C dx [(("held" : Str), .ref t)]) → H' t = some (.tup [v0, v1, v2, v3, v4, v5, v6, v7]) → Q .non H') ∧
  (wrongF v0 v1 v2 v3 v4 v5 v6 v7 ≠ Str.ofString "" → ∀ H' d, Same H H' → H d = none → H' d = some (.xd [(("field" : Str), .str (wrongF v0 v1 v2 v3 v4 v5 v6 v7))]) → E (.ref CN) (some d) H')
theorem ev_use {t : TE} {σ : L2.St} {H : Hp} {v : V} {R : VK} (e : ∀ R : VK, R v H → t σ H R) (c : R v H) : t σ H R := e R c
theorem lit_ne {s : String} (h : (Str.ofString s).length ≠ 0) : Str.ofString s ≠ Str.ofString "" := fun e => h (by rw [e]; decide +kernel)
theorem ok_init {C CN f fE fW fA fB fM fD fS fR : Addr} {fd fdE fdW fdA fdB fdM fdD fdS fdR : FuncData} {u1 u2 u3 u4 u5 : Tok} {aT aU aW : Addr} {k : Nat} (F : FunD K "__init__" "Option.__init__" (defArgs st_init) (defBody st_init) (defScope st_init) [.str (Str.ofString ""), .str (Str.ofString "flag"), .str (Str.ofString "word"), .non, .bl false, .bl false, .str (Str.ofString "")] [] f fd)
    (FE : Fun K "__init__" "NoOption.__init__" st_err fE fdE) (TE : ErrT K mg "NoOption" CN fE fdE) (T : ClsT K C)
    (D_is_text_within : Df K mg "is_text_within" st_is_text_within ["value", "most"] fW fdW) (D_is_name : Df K mg "is_name" st_is_name ["value"] fA fdA) (D_is_about : Df K mg "is_about" st_is_about ["value"] fB fdB)
    (D_is_among : Df K mg "is_among" st_is_among ["value", "texts"] fM fdM) (D_is_default : Df K mg "is_default" st_is_default ["value", "allowed"] fD fdD) (D_is_short_or_empty : Df K mg "is_short_or_empty" st_is_short_or_empty ["value"] fS fdS) (D_is_truth : Df K mg "is_truth" st_is_truth ["value", "allowed"] fR fdR)
    (m_len : mg "len" = none) (m_str : mg "str" = none) (m_bool : mg "bool" = none) (m_isinstance : mg "isinstance" = none) (m_all : mg "all" = none) (c_MOST_NAME_SIGNS : mg "MOST_NAME_SIGNS" = some (.int 10 u1)) (c_NAME_SIGNS : mg "NAME_SIGNS" = some (.str nameSet u2))
    (c_MOST_ABOUT_SIGNS : mg "MOST_ABOUT_SIGNS" = some (.int 200 u3)) (c_MOST_DEFAULT_SIGNS : mg "MOST_DEFAULT_SIGNS" = some (.int 60 u4)) (c_LETTERS : mg "LETTERS" = some (.str letters u5)) (c_TAKES : mg "TAKES" = some (.ref aT)) (hT : ∀ H, SqT K H aT (takesL.map V.str))
    (c_UNVALUED : mg "UNVALUED" = some (.ref aU)) (hU : ∀ H, SqT K H aU (plainL.map V.str)) (c_WITH_DEFAULT : mg "WITH_DEFAULT" = some (.ref aW)) (hW : ∀ H, SqT K H aW (singleL.map V.str)) :
    FnOk P w K mg base (L2N.CX P w) (k + 3) f fd ["self", "long", "short", "takes", "maker", "default", "needed", "off", "about"] (spInit C CN) := by
  have GE : FnOk P w K mg base CX0 (k + 1) fE fdE ["self", "field"] (spErr CN) := ok_err FE TE
  have G_is_name : FnOk P w K mg base CX0 (k + 2) fA fdA ["value"] (spOf isNm) := ok_isName D_is_name.F D_is_text_within m_len m_str m_isinstance m_all c_MOST_NAME_SIGNS c_NAME_SIGNS
  have G_is_about : FnOk P w K mg base CX0 (k + 2) fB fdB ["value"] (spOf isAb) := ok_isAbout D_is_about.F D_is_text_within m_len m_str m_isinstance c_MOST_ABOUT_SIGNS
  have G_is_among : FnOk P w K mg base CX0 (k + 2) fM fdM ["value", "texts"] (spAmong K) := ok_isAmong D_is_among.F m_str m_isinstance
  have G_is_default : FnOk P w K mg base CX0 (k + 2) fD fdD ["value", "allowed"] spDefault := ok_isDefault D_is_default.F D_is_text_within m_len m_str m_isinstance c_MOST_DEFAULT_SIGNS
  have G_is_short_or_empty : FnOk P w K mg base CX0 (k + 2) fS fdS ["value"] (spOf isSh) := ok_isShort D_is_short_or_empty.F D_is_text_within m_len m_str m_isinstance c_LETTERS
  have G_is_truth : FnOk P w K mg base CX0 (k + 2) fR fdR ["value", "allowed"] spTruth := ok_isTruth D_is_truth.F m_bool m_isinstance
  refine F.ok sc_init (fun vs H Q E h => ?_) (fun cdv A outer s H vs Q E hr h => ?_)
  · obtain ⟨x, dx, v0, v1, v2, v3, v4, v5, v6, v7, rfl, _⟩ := h
    rfl
  · obtain ⟨x, dx, v0, v1, v2, v3, v4, v5, v6, v7, rfl, ex, ⟨t0, t1, t2, t3, t4, t5, t6, t7⟩, qok, qbad⟩ := h
    refine ⟨_, pss_cons (ps_if (pt_not (pt_val (pe_call G_is_name hr (by rfl) D_is_name.g D_is_name.F.kp D_is_name.b .nil pass0 (pa_cons (pv 1) pa_nil)))) (pss_one (L2N.ps_raise rfl (L2N.takes_of rfl rfl rfl rfl) (pmk_oexN TE.o TE.i TE.t GE hr TE.b .nil pass0 (by rfl) TE.g (pa_cons pe_str pa_nil)))) pss_nil)
      (pss_cons (ps_if (pt_not (pt_val (pe_call G_is_short_or_empty hr (by rfl) D_is_short_or_empty.g D_is_short_or_empty.F.kp D_is_short_or_empty.b .nil pass0 (pa_cons (pv 2) pa_nil)))) (pss_one (L2N.ps_raise rfl (L2N.takes_of rfl rfl rfl rfl) (pmk_oexN TE.o TE.i TE.t GE hr TE.b .nil pass0 (by rfl) TE.g (pa_cons pe_str pa_nil)))) pss_nil)
      (pss_cons (ps_if (pt_not (pt_val (pe_call G_is_among hr (by rfl) D_is_among.g D_is_among.F.kp D_is_among.b .nil pass0 (pa_cons (pv 3) (pa_cons (pe_glob (v := .ref aT) rfl c_TAKES rfl) pa_nil))))) (pss_one (L2N.ps_raise rfl (L2N.takes_of rfl rfl rfl rfl) (pmk_oexN TE.o TE.i TE.t GE hr TE.b .nil pass0 (by rfl) TE.g (pa_cons pe_str pa_nil)))) pss_nil)
      (pss_cons (ps_if (pt_not (pt_val (pe_call G_is_name hr (by rfl) D_is_name.g D_is_name.F.kp D_is_name.b .nil pass0 (pa_cons (pv 4) pa_nil)))) (pss_one (L2N.ps_raise rfl (L2N.takes_of rfl rfl rfl rfl) (pmk_oexN TE.o TE.i TE.t GE hr TE.b .nil pass0 (by rfl) TE.g (pa_cons pe_str pa_nil)))) pss_nil)
      (pss_cons (ps_if (pt_not (pt_val (pe_call G_is_default hr (by rfl) D_is_default.g D_is_default.F.kp D_is_default.b .nil pass0 (pa_cons (pv 5) (pa_cons (pe_cmpR op_in_seq (pv 3) (pe_glob (v := .ref aW) rfl c_WITH_DEFAULT rfl) (by rfl)) pa_nil))))) (pss_one (L2N.ps_raise rfl (L2N.takes_of rfl rfl rfl rfl) (pmk_oexN TE.o TE.i TE.t GE hr TE.b .nil pass0 (by rfl) TE.g (pa_cons pe_str pa_nil)))) pss_nil)
      (pss_cons (ps_if (pt_not (pt_val (pe_call G_is_truth hr (by rfl) D_is_truth.g D_is_truth.F.kp D_is_truth.b .nil pass0 (pa_cons (pv 6) (pa_cons (pe_and (pe_cmpR op_notIn_seq (pv 3) (pe_glob (v := .ref aU) rfl c_UNVALUED rfl) (by rfl)) (pe_one (pe_cmpR op_isN (pv 5) pe_non (nomark _)))) pa_nil))))) (pss_one (L2N.ps_raise rfl (L2N.takes_of rfl rfl rfl rfl) (pmk_oexN TE.o TE.i TE.t GE hr TE.b .nil pass0 (by rfl) TE.g (pa_cons pe_str pa_nil)))) pss_nil)
      (pss_cons (ps_if (pt_not (pt_val (pe_call G_is_truth hr (by rfl) D_is_truth.g D_is_truth.F.kp D_is_truth.b .nil pass0 (pa_cons (pv 7) (pa_cons (pe_cmpR op_in_seq (pv 3) (pe_glob (v := .ref aU) rfl c_UNVALUED rfl) (by rfl)) pa_nil))))) (pss_one (L2N.ps_raise rfl (L2N.takes_of rfl rfl rfl rfl) (pmk_oexN TE.o TE.i TE.t GE hr TE.b .nil pass0 (by rfl) TE.g (pa_cons pe_str pa_nil)))) pss_nil)
      (pss_cons (ps_if (pt_not (pt_val (pe_call G_is_about hr (by rfl) D_is_about.g D_is_about.F.kp D_is_about.b .nil pass0 (pa_cons (pv 8) pa_nil)))) (pss_one (L2N.ps_raise rfl (L2N.takes_of rfl rfl rfl rfl) (pmk_oexN TE.o TE.i TE.t GE hr TE.b .nil pass0 (by rfl) TE.g (pa_cons pe_str pa_nil)))) pss_nil)
      (pss_one (ps_fld (pv 0) (pe_tup (pa_cons (pv 1) (pa_cons (pv 2) (pa_cons (pv 3) (pa_cons (pv 4) (pa_cons (pv 5) (pa_cons (pv 6) (pa_cons (pv 7) (pa_cons (pv 8) pa_nil))))))))) rfl))))))))), ?_⟩
    refine ⟨v0, rfl, v0, rfl, t0, fun H1 s1 => ⟨_, rfl, ?_⟩⟩
    cases b0 : isNm v0 with
    | false =>
      have e : wrongF v0 v1 v2 v3 v4 v5 v6 v7 = Str.ofString "long" := by unfold wrongF; rw [if_pos b0]
      rw [e] at qbad
      exact ⟨by show 1 ≤ 1000; decide, fun a na => err_out (x := x) (fun H' d sm nd ed => qbad (lit_ne (by decide +kernel)) H' d (s1.trans sm) (s1.free nd) ed) a na⟩
    | true =>
      refine ⟨v1, rfl, v1, rfl, t1.same s1, fun H2 s2 => ⟨_, rfl, ?_⟩⟩
      have s12 := s1.trans s2
      cases b1 : isSh v1 with
      | false =>
        have e : wrongF v0 v1 v2 v3 v4 v5 v6 v7 = Str.ofString "short" := by unfold wrongF; rw [if_neg (by rw [b0]; decide), if_pos b1]
        rw [e] at qbad
        exact ⟨by show 1 ≤ 1000; decide, fun a na => err_out (x := x) (fun H' d sm nd ed => qbad (lit_ne (by decide +kernel)) H' d (s12.trans sm) (s12.free nd) ed) a na⟩
      | true =>
        refine ⟨v2, rfl, v2, aT, takesL, rfl, t2.same s12, hT _, _, rfl, ?_⟩
        cases b2 : among v2 takesL with
        | false =>
          have e : wrongF v0 v1 v2 v3 v4 v5 v6 v7 = Str.ofString "takes" := by unfold wrongF; rw [if_neg (by rw [b0]; decide), if_neg (by rw [b1]; decide), if_pos b2]
          rw [e] at qbad
          exact ⟨by show 1 ≤ 1000; decide, fun a na => err_out (x := x) (fun H' d sm nd ed => qbad (lit_ne (by decide +kernel)) H' d (s12.trans sm) (s12.free nd) ed) a na⟩
        | true =>
          refine ⟨v3, rfl, v3, rfl, t3.same s12, fun H3 s3 => ⟨_, rfl, ?_⟩⟩
          have s13 := s12.trans s3
          cases b3 : isNm v3 with
          | false =>
            have e : wrongF v0 v1 v2 v3 v4 v5 v6 v7 = Str.ofString "maker" := by unfold wrongF; rw [if_neg (by rw [b0]; decide), if_neg (by rw [b1]; decide), if_neg (by rw [b2]; decide), if_pos b3]
            rw [e] at qbad
            exact ⟨by show 1 ≤ 1000; decide, fun a na => err_out (x := x) (fun H' d sm nd ed => qbad (lit_ne (by decide +kernel)) H' d (s13.trans sm) (s13.free nd) ed) a na⟩
          | true =>
            cases v2 with
            | str z2 =>
              refine ⟨v4, rfl, .str z2, rfl, aW, _, rfl, .inr (hW _), rfl, strs_flat _, v4, _, rfl, t4.same s13, _, rfl, ?_⟩
              have em : inV (.str z2) (singleL.map V.str) = single (.str z2) := rfl
              simp only [Bool.false_eq_true, if_false]
              rw [em]
              cases b4 : dflt v4 (single (.str z2)) with
              | false =>
                have e : wrongF v0 v1 (.str z2) v3 v4 v5 v6 v7 = Str.ofString "default" := by unfold wrongF; rw [if_neg (by rw [b0]; decide), if_neg (by rw [b1]; decide), if_neg (by rw [b2]; decide), if_neg (by rw [b3]; decide), if_pos b4]
                rw [e] at qbad
                exact ⟨by show 1 ≤ 1000; decide, fun a na => err_out (x := x) (fun H' d sm nd ed => qbad (lit_ne (by decide +kernel)) H' d (s13.trans sm) (s13.free nd) ed) a na⟩
              | true =>
                have ep : inV (.str z2) (plainL.map V.str) = plain (.str z2) := rfl
                refine ⟨v5, rfl, ?_⟩
                refine ev_use (t := tAndV _ _) (v := .bl (!plain (.str z2) && decide (v4 = .non))) (fun R c => ?_) ?_
                · refine ⟨.str z2, rfl, aU, _, rfl, .inr (hU _), rfl, strs_flat _, ?_⟩
                  simp only [if_true, ep]
                  cases bp : plain (.str z2) with
                  | true =>
                    rw [bp] at c
                    exact ⟨_, rfl, c⟩
                  | false =>
                    rw [bp] at c
                    exact ⟨_, rfl, v4, rfl, rfl, c⟩
                refine ⟨v5, _, rfl, t5.same s13, _, rfl, ?_⟩
                cases b5 : trth v5 (!plain (.str z2) && decide (v4 = .non)) with
                | false =>
                  have e : wrongF v0 v1 (.str z2) v3 v4 v5 v6 v7 = Str.ofString "needed" := by unfold wrongF; rw [if_neg (by rw [b0]; decide), if_neg (by rw [b1]; decide), if_neg (by rw [b2]; decide), if_neg (by rw [b3]; decide), if_neg (by rw [b4]; decide), if_pos b5]
                  rw [e] at qbad
                  exact ⟨by show 1 ≤ 1000; decide, fun a na => err_out (x := x) (fun H' d sm nd ed => qbad (lit_ne (by decide +kernel)) H' d (s13.trans sm) (s13.free nd) ed) a na⟩
                | true =>
                  refine ⟨v6, rfl, .str z2, rfl, aU, _, rfl, .inr (hU _), rfl, strs_flat _, v6, _, rfl, t6.same s13, _, rfl, ?_⟩
                  simp only [Bool.false_eq_true, if_false]
                  rw [ep]
                  cases b6 : trth v6 (plain (.str z2)) with
                  | false =>
                    have e : wrongF v0 v1 (.str z2) v3 v4 v5 v6 v7 = Str.ofString "off" := by unfold wrongF; rw [if_neg (by rw [b0]; decide), if_neg (by rw [b1]; decide), if_neg (by rw [b2]; decide), if_neg (by rw [b3]; decide), if_neg (by rw [b4]; decide), if_neg (by rw [b5]; decide), if_pos b6]
                    rw [e] at qbad
                    exact ⟨by show 1 ≤ 1000; decide, fun a na => err_out (x := x) (fun H' d sm nd ed => qbad (lit_ne (by decide +kernel)) H' d (s13.trans sm) (s13.free nd) ed) a na⟩
                  | true =>
                    refine ⟨v7, rfl, v7, rfl, t7.same s13, fun H4 s4 => ⟨_, rfl, ?_⟩⟩
                    have s14 := s13.trans s4
                    cases b7 : isAb v7 with
                    | false =>
                      have e : wrongF v0 v1 (.str z2) v3 v4 v5 v6 v7 = Str.ofString "about" := by unfold wrongF; rw [if_neg (by rw [b0]; decide), if_neg (by rw [b1]; decide), if_neg (by rw [b2]; decide), if_neg (by rw [b3]; decide), if_neg (by rw [b4]; decide), if_neg (by rw [b5]; decide), if_neg (by rw [b6]; decide), if_pos b7]
                      rw [e] at qbad
                      exact ⟨by show 1 ≤ 1000; decide, fun a na => err_out (x := x) (fun H' d sm nd ed => qbad (lit_ne (by decide +kernel)) H' d (s14.trans sm) (s14.free nd) ed) a na⟩
                    | true =>
                      have e : wrongF v0 v1 (.str z2) v3 v4 v5 v6 v7 = Str.ofString "" := by unfold wrongF; rw [if_neg (by rw [b0]; decide), if_neg (by rw [b1]; decide), if_neg (by rw [b2]; decide), if_neg (by rw [b3]; decide), if_neg (by rw [b4]; decide), if_neg (by rw [b5]; decide), if_neg (by rw [b6]; decide), if_neg (by rw [b7]; decide)]
                      have ex4 := s14 _ _ ex
                      refine ⟨_, rfl, _, rfl, _, rfl, _, rfl, _, rfl, _, rfl, _, rfl, _, rfl, by show 8 ≤ sizeLine; decide, fun t nt => ?_⟩
                      have nxt : x ≠ t := ne_of_none ex4 nt
                      refine ⟨.ref x, rfl, x, C, dx, [], rfl, ?_, T.cl, T.nh, by decide, ?_⟩
                      · rw [upd_ne nxt]
                        exact ex4
                      · refine qok e _ t (fun b o nb eb => ?_) upd_same ?_
                        · rw [upd_ne nb]
                          exact same_upd nt _ _ (s14 _ _ eb)
                        · rw [upd_ne nxt.symm, upd_same]
            | _ => cases b2
/-! ### the methods -/
end
end WB

set_option Elab.async false
set_option linter.all false
set_option maxRecDepth 100000
set_option maxHeartbeats 4000000
namespace WP
open PySem PySem.Spec PyProof.Rows L2 WG WB
open TL (tl)
abbrev st_err : Stmt := inClass (topS 3) 0
abbrev st_init : Stmt := inClass (topS 34) 0
theorem sc_err : FnScope ["self", "field"] ["self", "field"] (defScope st_err) := ⟨rfl, rfl, rfl, by decide +kernel, rfl, by decide +kernel, by decide +kernel⟩
theorem sc_init : FnScope ["self", "name", "many", "maker", "default", "about"] ["self", "name", "many", "maker", "default", "about"] (defScope st_init) := ⟨rfl, rfl, rfl, by decide +kernel, rfl, by decide +kernel, by decide +kernel⟩
/-! ### what is wrong first -/
def manies : List Str := [Str.ofString "one", Str.ofString "maybe", Str.ofString "some", Str.ofString "any"]
def isMb (v : V) : Bool := decide (v = .str (Str.ofString "maybe"))
def wrongF (v0 v1 v2 v3 v4 : V) : Str :=
  if isNm v0 = false then Str.ofString "name" else if among v1 manies = false then Str.ofString "many" else if isNm v2 = false then Str.ofString "maker" else
  if dflt v3 (isMb v1) = false then Str.ofString "default" else if isAb v4 = false then Str.ofString "about" else Str.ofString ""
/-- NoPlace, as the written part tells it -/
structure ErrT (K : PySem.W.Frag) (mg : Str → Option Value) (x : Str) (C fI : Addr) (fd : FuncData) : Prop where
  o : OexC K C
  i : PySem.W.findIn K (.ref C) "__init__" = some (some (.ref fI))
  t : PySem.W.typeIn K (.ref fI) = some (.type "function")
  nf : PySem.W.findIn K (.ref C) "field" = some none
  g : mg x = some (.ref C)
  b : Binds K fd ["self", "field"] []
section
variable {P : Program} {w : World} {K : PySem.W.Frag} {mg : Str → Option Value} {base : Heap}
def spErr (C : Addr) : Sp := fun vs H Q _ => ∃ (a : Addr) (y : V), vs = [.ref a, y] ∧ H a = some (exo a C none) ∧ ∀ dx, H dx = none → dx ≠ a → Q .non (upd (upd H dx (exd dx [(("field" : Str), y)])) a (exo a C (some dx)))
theorem ok_err {C f : Addr} {fd : FuncData} {x q : Str} {k : Nat} (F : Fun K "__init__" q st_err f fd) (T : ErrT K mg x C f fd) : FnOk P w K mg base CX0 (k + 1) f fd ["self", "field"] (spErr C) := by
  refine F.ok sc_err (fun vs H Q E h => ?_) (fun cdv A outer s H vs Q E hr h => ?_)
  · obtain ⟨a, y, rfl, _⟩ := h
    rfl
  · obtain ⟨a, y, rfl, ea, q⟩ := h
    refine ⟨_, pss_one (ps_ost (pv 0) (pv 1)), ?_⟩
    exact ⟨y, rfl, .ref a, rfl, a, C, rfl, T.o, T.nf, .inl ⟨ea, fun dx n ne => q dx n ne⟩⟩
/-- the way out by a raised error -/
theorem err_out {C : Addr} {y : V} {H : Hp} {E : XK} {x : Addr} (h : ∀ H' d, Same H H' → H d = none → H' d = some (.xd [(("field" : Str), y)]) → E (.ref C) (some d) H') (a : Addr) (na : H a = none) :
    spErr C [.ref a, y] (upd H a (exo a C none)) (fun v H2 => v = .non ∧ ∃ (d : Addr) (fs : List (Str × V)), H2 a = some (exo a C (some d)) ∧ H2 d = some (exd d fs) ∧ H d = none ∧ E (.ref C) (some d) (upd (del H2 a) d (.xd fs))) (fun _ _ _ => False) := by
  refine ⟨a, y, rfl, upd_same, fun dx ndx ne => ⟨rfl, dx, [(("field" : Str), y)], upd_same, ?_, ?_, ?_⟩⟩
  · rw [upd_ne ne, upd_same]
  · rw [upd_ne ne] at ndx
    exact ndx
  · rw [upd_ne ne] at ndx
    refine h _ dx (fun b o e => ?_) ndx upd_same
    have nb : b ≠ dx := ne_of_none e ndx
    have nba : b ≠ a := ne_of_none e na
    rw [upd_ne nb, del_ne nba, upd_ne nba, upd_ne nb, upd_ne nba]
    exact e
/-! ### Place.__init__ -/
/-- Place, as the written part tells it -/
structure ClsT (K : PySem.W.Frag) (C : Addr) : Prop where
  cl : Cls K C
  nh : NoAttr K C "held"
def spInit (C CN : Addr) : Sp := fun vs H Q E => ∃ (x dx : Addr) (v0 v1 v2 v3 v4 : V), vs = [.ref x, v0, v1, v2, v3, v4] ∧ H x = some (.ins C dx []) ∧ (Thg H v0 ∧ Thg H v1 ∧ Thg H v2 ∧ Thg H v3 ∧ Thg H v4) ∧
  (wrongF v0 v1 v2 v3 v4 = Str.ofString "" → ∀ H' t, But x H H' → H' x = some (.ins C dx [(("held" : Str), .ref t)]) → H' t = some (.tup [v0, v1, v2, v3, v4]) → Q .non H') ∧
  (wrongF v0 v1 v2 v3 v4 ≠ Str.ofString "" → ∀ H' d, Same H H' → H d = none → H' d = some (.xd [(("field" : Str), .str (wrongF v0 v1 v2 v3 v4))]) → E (.ref CN) (some d) H')
theorem lit_ne {s : String} (h : (Str.ofString s).length ≠ 0) : Str.ofString s ≠ Str.ofString "" := fun e => h (by rw [e]; decide +kernel)
theorem ok_init {C CN f fE fW fA fB fM fD : Addr} {fd fdE fdW fdA fdB fdM fdD : FuncData} {u1 u2 u3 u4 : Tok} {aM : Addr} {k : Nat} (F : FunD K "__init__" "Place.__init__" (defArgs st_init) (defBody st_init) (defScope st_init) [.str (Str.ofString "one"), .str (Str.ofString "word"), .non, .str (Str.ofString "")] [] f fd)
    (FE : Fun K "__init__" "NoPlace.__init__" st_err fE fdE) (TE : ErrT K mg "NoPlace" CN fE fdE) (T : ClsT K C)
    (D_is_text_within : Df K mg "is_text_within" st_is_text_within ["value", "most"] fW fdW) (D_is_name : Df K mg "is_name" st_is_name ["value"] fA fdA) (D_is_about : Df K mg "is_about" st_is_about ["value"] fB fdB)
    (D_is_among : Df K mg "is_among" st_is_among ["value", "texts"] fM fdM) (D_is_default : Df K mg "is_default" st_is_default ["value", "allowed"] fD fdD)
    (m_len : mg "len" = none) (m_str : mg "str" = none) (m_isinstance : mg "isinstance" = none) (m_all : mg "all" = none) (c_MOST_NAME_SIGNS : mg "MOST_NAME_SIGNS" = some (.int 10 u1)) (c_NAME_SIGNS : mg "NAME_SIGNS" = some (.str nameSet u2))
    (c_MOST_ABOUT_SIGNS : mg "MOST_ABOUT_SIGNS" = some (.int 200 u3)) (c_MOST_DEFAULT_SIGNS : mg "MOST_DEFAULT_SIGNS" = some (.int 60 u4)) (c_MANIES : mg "MANIES" = some (.ref aM)) (hM : ∀ H, SqT K H aM (manies.map V.str)) :
    FnOk P w K mg base (L2N.CX P w) (k + 3) f fd ["self", "name", "many", "maker", "default", "about"] (spInit C CN) := by
  have GE : FnOk P w K mg base CX0 (k + 1) fE fdE ["self", "field"] (spErr CN) := ok_err FE TE
  have G_is_name : FnOk P w K mg base CX0 (k + 2) fA fdA ["value"] (spOf isNm) := ok_isName D_is_name.F D_is_text_within m_len m_str m_isinstance m_all c_MOST_NAME_SIGNS c_NAME_SIGNS
  have G_is_about : FnOk P w K mg base CX0 (k + 2) fB fdB ["value"] (spOf isAb) := ok_isAbout D_is_about.F D_is_text_within m_len m_str m_isinstance c_MOST_ABOUT_SIGNS
  have G_is_among : FnOk P w K mg base CX0 (k + 2) fM fdM ["value", "texts"] (spAmong K) := ok_isAmong D_is_among.F m_str m_isinstance
  have G_is_default : FnOk P w K mg base CX0 (k + 2) fD fdD ["value", "allowed"] spDefault := ok_isDefault D_is_default.F D_is_text_within m_len m_str m_isinstance c_MOST_DEFAULT_SIGNS
  refine F.ok sc_init (fun vs H Q E h => ?_) (fun cdv A outer s H vs Q E hr h => ?_)
  · obtain ⟨x, dx, v0, v1, v2, v3, v4, rfl, _⟩ := h
    rfl
  · obtain ⟨x, dx, v0, v1, v2, v3, v4, rfl, ex, ⟨t0, t1, t2, t3, t4⟩, qok, qbad⟩ := h
    refine ⟨_, pss_cons (ps_if (pt_not (pt_val (pe_call G_is_name hr (by rfl) D_is_name.g D_is_name.F.kp D_is_name.b .nil pass0 (pa_cons (pv 1) pa_nil)))) (pss_one (L2N.ps_raise rfl (L2N.takes_of rfl rfl rfl rfl) (pmk_oexN TE.o TE.i TE.t GE hr TE.b .nil pass0 (by rfl) TE.g (pa_cons pe_str pa_nil)))) pss_nil)
      (pss_cons (ps_if (pt_not (pt_val (pe_call G_is_among hr (by rfl) D_is_among.g D_is_among.F.kp D_is_among.b .nil pass0 (pa_cons (pv 2) (pa_cons (pe_glob (v := .ref aM) rfl c_MANIES rfl) pa_nil))))) (pss_one (L2N.ps_raise rfl (L2N.takes_of rfl rfl rfl rfl) (pmk_oexN TE.o TE.i TE.t GE hr TE.b .nil pass0 (by rfl) TE.g (pa_cons pe_str pa_nil)))) pss_nil)
      (pss_cons (ps_if (pt_not (pt_val (pe_call G_is_name hr (by rfl) D_is_name.g D_is_name.F.kp D_is_name.b .nil pass0 (pa_cons (pv 3) pa_nil)))) (pss_one (L2N.ps_raise rfl (L2N.takes_of rfl rfl rfl rfl) (pmk_oexN TE.o TE.i TE.t GE hr TE.b .nil pass0 (by rfl) TE.g (pa_cons pe_str pa_nil)))) pss_nil)
      (pss_cons (ps_if (pt_not (pt_val (pe_call G_is_default hr (by rfl) D_is_default.g D_is_default.F.kp D_is_default.b .nil pass0 (pa_cons (pv 4) (pa_cons (pe_cmpR op_eq (pv 2) pe_str (nomark _)) pa_nil))))) (pss_one (L2N.ps_raise rfl (L2N.takes_of rfl rfl rfl rfl) (pmk_oexN TE.o TE.i TE.t GE hr TE.b .nil pass0 (by rfl) TE.g (pa_cons pe_str pa_nil)))) pss_nil)
      (pss_cons (ps_if (pt_not (pt_val (pe_call G_is_about hr (by rfl) D_is_about.g D_is_about.F.kp D_is_about.b .nil pass0 (pa_cons (pv 5) pa_nil)))) (pss_one (L2N.ps_raise rfl (L2N.takes_of rfl rfl rfl rfl) (pmk_oexN TE.o TE.i TE.t GE hr TE.b .nil pass0 (by rfl) TE.g (pa_cons pe_str pa_nil)))) pss_nil)
      (pss_one (ps_fld (pv 0) (pe_tup (pa_cons (pv 1) (pa_cons (pv 2) (pa_cons (pv 3) (pa_cons (pv 4) (pa_cons (pv 5) pa_nil)))))) rfl)))))), ?_⟩
    refine ⟨v0, rfl, v0, rfl, t0, fun H1 s1 => ⟨_, rfl, ?_⟩⟩
    cases b0 : isNm v0 with
    | false =>
      have e : wrongF v0 v1 v2 v3 v4 = Str.ofString "name" := by unfold wrongF; rw [if_pos b0]
      rw [e] at qbad
      refine ⟨by show 1 ≤ 1000; decide, fun a na => err_out (x := x) (fun H' d sm nd ed => qbad (lit_ne (by decide +kernel)) H' d (s1.trans sm) (s1.free nd) ed) a na⟩
    | true =>
      refine ⟨v1, rfl, v1, aM, manies, rfl, t1.same s1, hM _, _, rfl, ?_⟩
      cases b1 : among v1 manies with
      | false =>
        have e : wrongF v0 v1 v2 v3 v4 = Str.ofString "many" := by unfold wrongF; rw [if_neg (by rw [b0]; decide), if_pos b1]
        rw [e] at qbad
        refine ⟨by show 1 ≤ 1000; decide, fun a na => err_out (x := x) (fun H' d sm nd ed => qbad (lit_ne (by decide +kernel)) H' d (s1.trans sm) (s1.free nd) ed) a na⟩
      | true =>
        refine ⟨v2, rfl, v2, rfl, t2.same s1, fun H2 s2 => ⟨_, rfl, ?_⟩⟩
        have s12 := s1.trans s2
        cases b2 : isNm v2 with
        | false =>
          have e : wrongF v0 v1 v2 v3 v4 = Str.ofString "maker" := by unfold wrongF; rw [if_neg (by rw [b0]; decide), if_neg (by rw [b1]; decide), if_pos b2]
          rw [e] at qbad
          refine ⟨by show 1 ≤ 1000; decide, fun a na => err_out (x := x) (fun H' d sm nd ed => qbad (lit_ne (by decide +kernel)) H' d (s12.trans sm) (s12.free nd) ed) a na⟩
        | true =>
          cases v1 with
          | str z1 =>
            refine ⟨v3, rfl, .str z1, rfl, rfl, v3, _, rfl, t3.same s12, _, rfl, ?_⟩
            have em : decide (V.str z1 = V.str (Str.ofString "maybe")) = isMb (.str z1) := rfl
            rw [em]
            cases b3 : dflt v3 (isMb (.str z1)) with
            | false =>
              have e : wrongF v0 (.str z1) v2 v3 v4 = Str.ofString "default" := by unfold wrongF; rw [if_neg (by rw [b0]; decide), if_neg (by rw [b1]; decide), if_neg (by rw [b2]; decide), if_pos b3]
              rw [e] at qbad
              refine ⟨by show 1 ≤ 1000; decide, fun a na => err_out (x := x) (fun H' d sm nd ed => qbad (lit_ne (by decide +kernel)) H' d (s12.trans sm) (s12.free nd) ed) a na⟩
            | true =>
              refine ⟨v4, rfl, v4, rfl, t4.same s12, fun H4 s4 => ⟨_, rfl, ?_⟩⟩
              have s14 := s12.trans s4
              cases b4 : isAb v4 with
              | false =>
                have e : wrongF v0 (.str z1) v2 v3 v4 = Str.ofString "about" := by unfold wrongF; rw [if_neg (by rw [b0]; decide), if_neg (by rw [b1]; decide), if_neg (by rw [b2]; decide), if_neg (by rw [b3]; decide), if_pos b4]
                rw [e] at qbad
                refine ⟨by show 1 ≤ 1000; decide, fun a na => err_out (x := x) (fun H' d sm nd ed => qbad (lit_ne (by decide +kernel)) H' d (s14.trans sm) (s14.free nd) ed) a na⟩
              | true =>
                have e : wrongF v0 (.str z1) v2 v3 v4 = Str.ofString "" := by unfold wrongF; rw [if_neg (by rw [b0]; decide), if_neg (by rw [b1]; decide), if_neg (by rw [b2]; decide), if_neg (by rw [b3]; decide), if_neg (by rw [b4]; decide)]
                have ex4 := s14 _ _ ex
                refine ⟨_, rfl, _, rfl, _, rfl, _, rfl, _, rfl, by show 5 ≤ sizeLine; decide, fun t nt => ?_⟩
                have nxt : x ≠ t := ne_of_none ex4 nt
                refine ⟨.ref x, rfl, x, C, dx, [], rfl, ?_, T.cl, T.nh, by decide, ?_⟩
                · rw [upd_ne nxt]
                  exact ex4
                · refine qok e _ t (fun b o nb eb => ?_) upd_same ?_
                  · rw [upd_ne nb]
                    exact same_upd nt _ _ (s14 _ _ eb)
                  · rw [upd_ne nxt.symm, upd_same]
          | _ => cases b1
/-! ### the methods -/
end
end WP

set_option Elab.async false
set_option linter.all false
set_option maxRecDepth 100000
set_option maxHeartbeats 4000000
namespace WB
open PySem PySem.Spec PyProof.Rows L2 WG
/-- what isinstance asks of the class -/
structure IsiC (K : PySem.W.Frag) (C : Addr) : Prop where
  ca : PySem.W.findIn K (.ref C) "__class__" = some (some (.builtin "object.__class__"))
  cn : PySem.W.specialIn K (.builtin "object.__class__") "__get__" = some (some (.builtin "getset_descriptor.__get__"))
  ct : PySem.W.takesIn K (.builtin "object.__class__") = some true
  cm : PySem.W.mroIn K C (.type "object") = some true
end WB

set_option Elab.async false
set_option linter.all false
set_option maxRecDepth 100000
set_option maxHeartbeats 4000000
namespace WB
open PySem PySem.Spec PyProof.Rows L2 WG
open TL (tl)
abbrev st_is_list_within : Stmt := topS 26
theorem sc_is_list_within : FnScope ["value", "most"] ["value", "most"] (defScope st_is_list_within) := ⟨rfl, rfl, rfl, by decide +kernel, rfl, by decide +kernel, by decide +kernel⟩
abbrev st_are_options : Stmt := topS 42
theorem sc_are_options : FnScope ["value", "each"] ["value"] (defScope st_are_options) := ⟨rfl, rfl, rfl, by decide +kernel, rfl, by decide +kernel, by decide +kernel⟩
abbrev st_are_places : Stmt := topS 43
theorem sc_are_places : FnScope ["value", "each"] ["value"] (defScope st_are_places) := ⟨rfl, rfl, rfl, by decide +kernel, rfl, by decide +kernel, by decide +kernel⟩
abbrev st_is_group : Stmt := topS 44
theorem sc_is_group : FnScope ["value", "each"] ["value"] (defScope st_is_group) := ⟨rfl, rfl, rfl, by decide +kernel, rfl, by decide +kernel, by decide +kernel⟩
abbrev st_are_groups : Stmt := topS 45
theorem sc_are_groups : FnScope ["value", "each"] ["value"] (defScope st_are_groups) := ⟨rfl, rfl, rfl, by decide +kernel, rfl, by decide +kernel, by decide +kernel⟩
abbrev st_are_commands : Stmt := topS 46
theorem sc_are_commands : FnScope ["value", "each"] ["value"] (defScope st_are_commands) := ⟨rfl, rfl, rfl, by decide +kernel, rfl, by decide +kernel, by decide +kernel⟩
abbrev st_empty_for_none : Stmt := topS 47
theorem sc_empty_for_none : FnScope ["value"] ["value"] (defScope st_empty_for_none) := ⟨rfl, rfl, rfl, by decide +kernel, rfl, by decide +kernel, by decide +kernel⟩
abbrev st_copied_groups : Stmt := topS 48
theorem sc_copied_groups : FnScope ["groups", "group"] ["groups"] (defScope st_copied_groups) := ⟨rfl, rfl, rfl, by decide +kernel, rfl, by decide +kernel, by decide +kernel⟩
/-! ### things that may be handed in to a command -/
def isL (H : Hp) : V → Bool
  | .ref a => match H a with
    | some (.lst _) => true
    | _ => false
  | _ => false
def its (H : Hp) : V → List V
  | .ref a => match H a with
    | some (.lst xs) => xs
    | _ => []
  | _ => []
def isC (H : Hp) (C : Addr) : V → Bool
  | .ref a => match H a with
    | some (.ins D _ _) => decide (D = C)
    | _ => false
  | _ => false
inductive Wf (Cs : List Addr) (H : Hp) : V → Prop
  | non : Wf Cs H .non
  | bl (b : Bool) : Wf Cs H (.bl b)
  | int (i : Int) : Wf Cs H (.int i)
  | str {z : Str} (h : Tx 300 z) : Wf Cs H (.str z)
  | lst {a : Addr} {xs : List V} (e : H a = some (.lst xs)) (le : xs.length ≤ 1000) (h : ∀ x ∈ xs, Wf Cs H x) : Wf Cs H (.ref a)
  | tup {a : Addr} {xs : List V} (e : H a = some (.tup xs)) : Wf Cs H (.ref a)
  | dic {a : Addr} {kvs : List (Key × V)} (e : H a = some (.dK kvs)) : Wf Cs H (.ref a)
  | ins {a C dx : Addr} {fs : List (Str × V)} (e : H a = some (.ins C dx fs)) (c : C ∈ Cs) : Wf Cs H (.ref a)
def allT : List String := ["NoneType", "bool", "int", "str", "list", "tuple", "dict"]
structure Cl3 (K : PySem.W.Frag) (Cs : List Addr) : Prop where
  cl : ∀ c ∈ Cs, Cls K c
  isi : ∀ c ∈ Cs, IsiC K c
  kT : ∀ T ∈ allT, ∀ c ∈ Cs, PySem.W.kitOne K (.type T) (.ref c) = some false
  kC : ∀ d ∈ Cs, ∀ c ∈ Cs, PySem.W.kitOne K (.ref d) (.ref c) = some (decide (d = c))
  kS : ∀ d ∈ Cs, PySem.W.kitOne K (.ref d) (.type "str") = some false
  kL : ∀ d ∈ Cs, PySem.W.kitOne K (.ref d) (.type "list") = some false
theorem isL_lst {H : Hp} {a : Addr} {xs : List V} (e : H a = some (.lst xs)) : isL H (.ref a) = true ∧ its H (.ref a) = xs := by
  unfold isL its
  simp only [e]
  exact ⟨trivial, trivial⟩
theorem Wf.ty {K : PySem.W.Frag} {Cs : List Addr} {H : Hp} {v : V} (c : Cl3 K Cs) (h : Wf Cs H v) : ∃ t, TyX K H v t ∧ (∀ D ∈ Cs, PySem.W.kitOne K t (.ref D) = some (isC H D v)) ∧ PySem.W.kitOne K t (.type "list") = some (isL H v) ∧ PySem.W.kitOne K t (.type "str") = some (isS v) := by
  cases h with
  | non => exact ⟨_, .base .non, c.kT _ (by decide), kit_ty (show kitB "NoneType" "list" = some false from by decide +kernel), kit_ty (show kitB "NoneType" "str" = some false from by decide +kernel)⟩
  | bl b => exact ⟨_, .base (.bl b), c.kT _ (by decide), kit_ty (show kitB "bool" "list" = some false from by decide +kernel), kit_ty (show kitB "bool" "str" = some false from by decide +kernel)⟩
  | int i => exact ⟨_, .base (.int i), c.kT _ (by decide), kit_ty (show kitB "int" "list" = some false from by decide +kernel), kit_ty (show kitB "int" "str" = some false from by decide +kernel)⟩
  | str h => exact ⟨_, .base (.str _), c.kT _ (by decide), kit_ty (show kitB "str" "list" = some false from by decide +kernel), kit_ty (show kitB "str" "str" = some true from by decide +kernel)⟩
  | lst e le h =>
    refine ⟨_, .base (.lst e), fun D hD => ?_, ?_, kit_ty (show kitB "list" "str" = some false from by decide +kernel)⟩
    · rw [show isC H D (.ref _) = false from by unfold isC; simp only [e]]
      exact c.kT _ (by decide) D hD
    · rw [(isL_lst e).1]
      exact kit_ty (show kitB "list" "list" = some true from by decide +kernel)
  | tup e =>
    refine ⟨_, .base (.tup e), fun D hD => ?_, ?_, kit_ty (show kitB "tuple" "str" = some false from by decide +kernel)⟩
    · rw [show isC H D (.ref _) = false from by unfold isC; simp only [e]]
      exact c.kT _ (by decide) D hD
    · rw [show isL H (.ref _) = false from by unfold isL; simp only [e]]
      exact kit_ty (show kitB "tuple" "list" = some false from by decide +kernel)
  | dic e =>
    refine ⟨_, .base (.dK e), fun D hD => ?_, ?_, kit_ty (show kitB "dict" "str" = some false from by decide +kernel)⟩
    · rw [show isC H D (.ref _) = false from by unfold isC; simp only [e]]
      exact c.kT _ (by decide) D hD
    · rw [show isL H (.ref _) = false from by unfold isL; simp only [e]]
      exact kit_ty (show kitB "dict" "list" = some false from by decide +kernel)
  | @ins a C dx fs e hc =>
    have i := c.isi C hc
    refine ⟨_, .base (.ins e (c.cl C hc) i.ca i.cn i.ct i.cm), fun D hD => ?_, ?_, c.kS C hc⟩
    · rw [show isC H D (.ref a) = decide (C = D) from by unfold isC; simp only [e]]
      exact c.kC C hc D hD
    · rw [show isL H (.ref a) = false from by unfold isL; simp only [e]]
      exact c.kL C hc
theorem Wf.same {Cs : List Addr} {H H' : Hp} {v : V} (h : Wf Cs H v) (s : Same H H') : Wf Cs H' v := by
  induction h with
  | non => exact .non
  | bl b => exact .bl b
  | int i => exact .int i
  | str h => exact .str h
  | lst e le h ih => exact .lst (s _ _ e) le ih
  | tup e => exact .tup (s _ _ e)
  | dic e => exact .dic (s _ _ e)
  | ins e c => exact .ins (s _ _ e) c
theorem Wf.at_ {Cs : List Addr} {H H' : Hp} {v : V} (h : Wf Cs H v) (s : Same H H') : isL H' v = isL H v ∧ its H' v = its H v ∧ ∀ D, isC H' D v = isC H D v := by
  cases h with
  | non => exact ⟨rfl, rfl, fun _ => rfl⟩
  | bl b => exact ⟨rfl, rfl, fun _ => rfl⟩
  | int i => exact ⟨rfl, rfl, fun _ => rfl⟩
  | str h => exact ⟨rfl, rfl, fun _ => rfl⟩
  | lst e le h => exact ⟨by rw [(isL_lst e).1, (isL_lst (s _ _ e)).1], by rw [(isL_lst e).2, (isL_lst (s _ _ e)).2], fun D => by unfold isC; simp only [e, s _ _ e]⟩
  | tup e => exact ⟨by unfold isL; simp only [e, s _ _ e], by unfold its; simp only [e, s _ _ e], fun D => by unfold isC; simp only [e, s _ _ e]⟩
  | dic e => exact ⟨by unfold isL; simp only [e, s _ _ e], by unfold its; simp only [e, s _ _ e], fun D => by unfold isC; simp only [e, s _ _ e]⟩
  | ins e c => exact ⟨by unfold isL; simp only [e, s _ _ e], by unfold its; simp only [e, s _ _ e], fun D => by unfold isC; simp only [e, s _ _ e]⟩
theorem Wf.items {Cs : List Addr} {H : Hp} {v : V} (h : Wf Cs H v) : (its H v).length ≤ 1000 ∧ ∀ x ∈ its H v, Wf Cs H x := by
  cases h with
  | lst e le h => rw [(isL_lst e).2]; exact ⟨le, h⟩
  | tup e => unfold its; simp only [e]; exact ⟨by decide, fun x hx => by cases hx⟩
  | dic e => unfold its; simp only [e]; exact ⟨by decide, fun x hx => by cases hx⟩
  | ins e c => unfold its; simp only [e]; exact ⟨by decide, fun x hx => by cases hx⟩
  | _ => exact ⟨Nat.zero_le _, fun x hx => by cases hx⟩
theorem Wf.list {Cs : List Addr} {H : Hp} {v : V} (h : Wf Cs H v) (l : isL H v = true) : ∃ a, v = .ref a ∧ H a = some (.lst (its H v)) := by
  cases h with
  | lst e le h => exact ⟨_, rfl, by rw [(isL_lst e).2]; exact e⟩
  | tup e => unfold isL at l; simp only [e] at l; cases l
  | dic e => unfold isL at l; simp only [e] at l; cases l
  | ins e c => unfold isL at l; simp only [e] at l; cases l
  | _ => cases l
def lok (H : Hp) (m : Nat) (g : V → Bool) (v : V) : Bool := isL H v && decide ((its H v).length ≤ m) && (its H v).all g
def grp (H : Hp) (v : V) : Bool := isL H v && decide ((its H v).length ≤ 6) && decide (2 ≤ (its H v).length) && (its H v).all isS
theorem Wf.grp {Cs : List Addr} {H H' : Hp} {v : V} (h : Wf Cs H v) (s : Same H H') : WB.grp H' v = WB.grp H v := by
  obtain ⟨e1, e2, _⟩ := h.at_ s
  unfold WB.grp
  rw [e1, e2]
section
variable {P : Program} {w : World} {K : PySem.W.Frag} {mg : Str → Option Value} {base : Heap} {Cs : List Addr}
def spLW (Cs : List Addr) : Sp := fun xs H Q _ => ∃ (v : V) (m : Nat), xs = [v, .int m] ∧ Wf Cs H v ∧ Q (.bl (isL H v && decide ((its H v).length ≤ m))) H
theorem ok_listWithin {f : Addr} {fd : FuncData} {k : Nat} (c : Cl3 K Cs) (F : Fun K "is_list_within" "is_list_within" st_is_list_within f fd) (m_len : mg "len" = none) (m_list : mg "list" = none) (m_isinstance : mg "isinstance" = none) :
    FnOk P w K mg base CX0 (k + 1) f fd ["value", "most"] (spLW Cs) := by
  refine F.ok sc_is_list_within (fun vs H Q E h => ?_) (fun cdv A outer s H vs Q E hr h => ?_)
  · obtain ⟨v, m, rfl, _⟩ := h
    rfl
  · obtain ⟨v, m, rfl, hv, q⟩ := h
    refine ⟨_, pss_one (ps_ret (pe_and (pe_callB call_isi (by rfl) m_isinstance (by decide +kernel) (pa_cons (pv 0) (pa_cons (pe_bltn (v := .ty "list") (by rfl) m_list (by decide +kernel) rfl) pa_nil))) (pe_one (pe_cmpR op_le (pe_callB call_len_seq (by rfl) m_len PySem.boot_len (pa_cons (pv 0) pa_nil)) (pv 1) (nomark _))))), ?_⟩
    obtain ⟨t, ht, _, hl, _⟩ := hv.ty c
    refine ⟨v, rfl, v, _, t, _, isL H v, rfl, ClsV.ty "list", ht, hl, _, rfl, ?_⟩
    cases b : isL H v with
    | false =>
      rw [b] at q
      exact q
    | true =>
      rw [b] at q
      obtain ⟨a, rfl, ea⟩ := hv.list b
      refine ⟨_, rfl, a, _, rfl, .inl (SqL.of ea), _, rfl, _, _, rfl, rfl, ?_⟩
      show Q (.bl (decide (((its H (.ref a)).length : Int) ≤ (m : Int)))) H
      rw [show decide (((its H (.ref a)).length : Int) ≤ (m : Int)) = decide ((its H (.ref a)).length ≤ m) from decide_eq_decide.mpr (by omega)]
      exact q
def spAre (Cs : List Addr) (m : Nat) (g : Hp → V → Bool) : Sp := fun xs H Q _ => ∃ v, xs = [v] ∧ Wf Cs H v ∧ ∀ H', Same H H' → Q (.bl (lok H m (g H) v)) H'
theorem ok_areOptions {C f fL : Addr} {fd fdL : FuncData} {k : Nat} {u1 : Tok} (c : Cl3 K Cs) (hC : C ∈ Cs) (F : Fun K "are_options" "are_options" st_are_options f fd) (D_is_list_within : Df K mg "is_list_within" st_is_list_within ["value", "most"] fL fdL) (gO : mg "Option" = some (.ref C)) (c_OP : mg "MOST_OPTIONS" = some (.int 12 u1))
    (m_len : mg "len" = none) (m_list : mg "list" = none) (m_isinstance : mg "isinstance" = none) (m_all : mg "all" = none) : FnOk P w K mg base CX0 (k + 2) f fd ["value"] (spAre Cs 12 (fun H => isC H C)) := by
  have G_is_list_within : FnOk P w K mg base CX0 (k + 1) fL fdL ["value", "most"] (spLW Cs) := ok_listWithin c D_is_list_within.F m_len m_list m_isinstance
  refine F.ok sc_are_options (fun vs H Q E h => ?_) (fun cdv A outer s H vs Q E hr h => ?_)
  · obtain ⟨v, rfl, _⟩ := h
    rfl
  · obtain ⟨v, rfl, hv, q⟩ := h
    have sl : sizeLine = 16777216 := sizeLine_eq
    refine ⟨_, pss_one (ps_ret (pe_and (pe_call G_is_list_within hr (by rfl) D_is_list_within.g D_is_list_within.F.kp D_is_list_within.b .nil pass0 (pa_cons (pv 0) (pa_cons (pe_glob (v := .int 12) rfl c_OP ⟨_, rfl⟩) pa_nil))) (pe_one (pe_callB (cr_all rfl) (by rfl) m_all (by decide +kernel) (pa_cons (pe_lc (own := [("each", 1)]) (g := gName 1) (tt := tYes) rfl sc_are_options.nd (pi_list (pv 0)) (blkOk_by (N := ["value", "each"]) (sc := defScope st_are_options) (by decide +kernel)) (fun _ _ _ _ _ => (pg_name (i := 1) sc_are_options.nd rfl (Or.inl rfl))) (fun _ _ _ _ _ => pts_nil) (fun _ _ _ _ _ => (pe_callB (r := rIsi K) call_isi (by rfl) m_isinstance (by decide +kernel) (pa_cons (pv 1) (pa_cons (pe_glob (v := .ref C) rfl gO rfl) pa_nil))))) pa_nil))))), ?_⟩
    refine ⟨v, rfl, v, 12, rfl, hv, _, rfl, ?_⟩
    unfold lok at q
    cases b : (isL H v && decide ((its H v).length ≤ 12)) with
    | false =>
      rw [b] at q
      exact q _ (Same.refl _)
    | true =>
      rw [b] at q
      obtain ⟨b1, b2⟩ := Bool.and_eq_true_iff.mp b
      obtain ⟨a, rfl, ea⟩ := hv.list b1
      obtain ⟨le, hw⟩ := hv.items
      revert q
      generalize its H (.ref a) = ys at *
      intro q
      refine ⟨.ref a, rfl, a, rfl, ⟨_, SqL.of ea⟩, fun D nD => ?_⟩
      refine lc_list (K := K) (a := a) (xs := ys) (fun i Hc => Same H Hc ∧ Hc D = some (.lst (((ys.take i).map (isC H C)).map V.bl))) ⟨same_upd nD, upd_same⟩ (fun i Hc _ h => SqL.of (h.1 _ _ ea)) (fun i x Hc hx ⟨sc, eD⟩ => ?_) (fun Hc ⟨sc, eD⟩ => ?_)
      · have wx := hw x (List.mem_of_getElem? hx)
        obtain ⟨t, ht, hk, _⟩ := (wx.same sc).ty c
        refine ⟨rfl, x, rfl, x, _, t, _, _, rfl, ClsV.own C, ht, hk C hC, _, eD, ?_, ?_, ?_⟩
        · rw [List.length_map, List.length_map, List.length_take]
          omega
        · intro b o e
          rw [upd_ne (ne_of_none e nD)]
          exact sc b o e
        · rw [upd_same, (wx.at_ sc).2.2, List.take_add_one, hx, List.map_append, List.map_append]
          rfl
      · refine ⟨D, _, rfl, SqL.of eD, ?_⟩
        rw [List.take_length, List.all_map]
        exact q _ sc
end
end WB

set_option Elab.async false
set_option linter.all false
set_option maxRecDepth 100000
set_option maxHeartbeats 4000000
namespace WB
open PySem PySem.Spec PyProof.Rows L2 WG
open TL (tl)
section
variable {P : Program} {w : World} {K : PySem.W.Frag} {mg : Str → Option Value} {base : Heap} {Cs : List Addr}
theorem ok_arePlaces {C f fL : Addr} {fd fdL : FuncData} {k : Nat} {u1 : Tok} (c : Cl3 K Cs) (hC : C ∈ Cs) (F : Fun K "are_places" "are_places" st_are_places f fd) (D_is_list_within : Df K mg "is_list_within" st_is_list_within ["value", "most"] fL fdL) (gP : mg "Place" = some (.ref C)) (c_PL : mg "MOST_PLACES" = some (.int 6 u1))
    (m_len : mg "len" = none) (m_list : mg "list" = none) (m_isinstance : mg "isinstance" = none) (m_all : mg "all" = none) : FnOk P w K mg base CX0 (k + 2) f fd ["value"] (spAre Cs 6 (fun H => isC H C)) := by
  have G_is_list_within : FnOk P w K mg base CX0 (k + 1) fL fdL ["value", "most"] (spLW Cs) := ok_listWithin c D_is_list_within.F m_len m_list m_isinstance
  refine F.ok sc_are_places (fun vs H Q E h => ?_) (fun cdv A outer s H vs Q E hr h => ?_)
  · obtain ⟨v, rfl, _⟩ := h
    rfl
  · obtain ⟨v, rfl, hv, q⟩ := h
    have sl : sizeLine = 16777216 := sizeLine_eq
    refine ⟨_, pss_one (ps_ret (pe_and (pe_call G_is_list_within hr (by rfl) D_is_list_within.g D_is_list_within.F.kp D_is_list_within.b .nil pass0 (pa_cons (pv 0) (pa_cons (pe_glob (v := .int 6) rfl c_PL ⟨_, rfl⟩) pa_nil))) (pe_one (pe_callB (cr_all rfl) (by rfl) m_all (by decide +kernel) (pa_cons (pe_lc (own := [("each", 1)]) (g := gName 1) (tt := tYes) rfl sc_are_places.nd (pi_list (pv 0)) (blkOk_by (N := ["value", "each"]) (sc := defScope st_are_places) (by decide +kernel)) (fun _ _ _ _ _ => (pg_name (i := 1) sc_are_places.nd rfl (Or.inl rfl))) (fun _ _ _ _ _ => pts_nil) (fun _ _ _ _ _ => (pe_callB (r := rIsi K) call_isi (by rfl) m_isinstance (by decide +kernel) (pa_cons (pv 1) (pa_cons (pe_glob (v := .ref C) rfl gP rfl) pa_nil))))) pa_nil))))), ?_⟩
    refine ⟨v, rfl, v, 6, rfl, hv, _, rfl, ?_⟩
    unfold lok at q
    cases b : (isL H v && decide ((its H v).length ≤ 6)) with
    | false =>
      rw [b] at q
      exact q _ (Same.refl _)
    | true =>
      rw [b] at q
      obtain ⟨b1, b2⟩ := Bool.and_eq_true_iff.mp b
      obtain ⟨a, rfl, ea⟩ := hv.list b1
      obtain ⟨le, hw⟩ := hv.items
      revert q
      generalize its H (.ref a) = ys at *
      intro q
      refine ⟨.ref a, rfl, a, rfl, ⟨_, SqL.of ea⟩, fun D nD => ?_⟩
      refine lc_list (K := K) (a := a) (xs := ys) (fun i Hc => Same H Hc ∧ Hc D = some (.lst (((ys.take i).map (isC H C)).map V.bl))) ⟨same_upd nD, upd_same⟩ (fun i Hc _ h => SqL.of (h.1 _ _ ea)) (fun i x Hc hx ⟨sc, eD⟩ => ?_) (fun Hc ⟨sc, eD⟩ => ?_)
      · have wx := hw x (List.mem_of_getElem? hx)
        obtain ⟨t, ht, hk, _⟩ := (wx.same sc).ty c
        refine ⟨rfl, x, rfl, x, _, t, _, _, rfl, ClsV.own C, ht, hk C hC, _, eD, ?_, ?_, ?_⟩
        · rw [List.length_map, List.length_map, List.length_take]
          omega
        · intro b o e
          rw [upd_ne (ne_of_none e nD)]
          exact sc b o e
        · rw [upd_same, (wx.at_ sc).2.2, List.take_add_one, hx, List.map_append, List.map_append]
          rfl
      · refine ⟨D, _, rfl, SqL.of eD, ?_⟩
        rw [List.take_length, List.all_map]
        exact q _ sc
theorem ok_areCommands {C f fL : Addr} {fd fdL : FuncData} {k : Nat} {u1 : Tok} (c : Cl3 K Cs) (hC : C ∈ Cs) (F : Fun K "are_commands" "are_commands" st_are_commands f fd) (D_is_list_within : Df K mg "is_list_within" st_is_list_within ["value", "most"] fL fdL) (gC : mg "Command" = some (.ref C)) (c_CM : mg "MOST_COMMANDS" = some (.int 8 u1))
    (m_len : mg "len" = none) (m_list : mg "list" = none) (m_isinstance : mg "isinstance" = none) (m_all : mg "all" = none) : FnOk P w K mg base CX0 (k + 2) f fd ["value"] (spAre Cs 8 (fun H => isC H C)) := by
  have G_is_list_within : FnOk P w K mg base CX0 (k + 1) fL fdL ["value", "most"] (spLW Cs) := ok_listWithin c D_is_list_within.F m_len m_list m_isinstance
  refine F.ok sc_are_commands (fun vs H Q E h => ?_) (fun cdv A outer s H vs Q E hr h => ?_)
  · obtain ⟨v, rfl, _⟩ := h
    rfl
  · obtain ⟨v, rfl, hv, q⟩ := h
    have sl : sizeLine = 16777216 := sizeLine_eq
    refine ⟨_, pss_one (ps_ret (pe_and (pe_call G_is_list_within hr (by rfl) D_is_list_within.g D_is_list_within.F.kp D_is_list_within.b .nil pass0 (pa_cons (pv 0) (pa_cons (pe_glob (v := .int 8) rfl c_CM ⟨_, rfl⟩) pa_nil))) (pe_one (pe_callB (cr_all rfl) (by rfl) m_all (by decide +kernel) (pa_cons (pe_lc (own := [("each", 1)]) (g := gName 1) (tt := tYes) rfl sc_are_commands.nd (pi_list (pv 0)) (blkOk_by (N := ["value", "each"]) (sc := defScope st_are_commands) (by decide +kernel)) (fun _ _ _ _ _ => (pg_name (i := 1) sc_are_commands.nd rfl (Or.inl rfl))) (fun _ _ _ _ _ => pts_nil) (fun _ _ _ _ _ => (pe_callB (r := rIsi K) call_isi (by rfl) m_isinstance (by decide +kernel) (pa_cons (pv 1) (pa_cons (pe_glob (v := .ref C) rfl gC rfl) pa_nil))))) pa_nil))))), ?_⟩
    refine ⟨v, rfl, v, 8, rfl, hv, _, rfl, ?_⟩
    unfold lok at q
    cases b : (isL H v && decide ((its H v).length ≤ 8)) with
    | false =>
      rw [b] at q
      exact q _ (Same.refl _)
    | true =>
      rw [b] at q
      obtain ⟨b1, b2⟩ := Bool.and_eq_true_iff.mp b
      obtain ⟨a, rfl, ea⟩ := hv.list b1
      obtain ⟨le, hw⟩ := hv.items
      revert q
      generalize its H (.ref a) = ys at *
      intro q
      refine ⟨.ref a, rfl, a, rfl, ⟨_, SqL.of ea⟩, fun D nD => ?_⟩
      refine lc_list (K := K) (a := a) (xs := ys) (fun i Hc => Same H Hc ∧ Hc D = some (.lst (((ys.take i).map (isC H C)).map V.bl))) ⟨same_upd nD, upd_same⟩ (fun i Hc _ h => SqL.of (h.1 _ _ ea)) (fun i x Hc hx ⟨sc, eD⟩ => ?_) (fun Hc ⟨sc, eD⟩ => ?_)
      · have wx := hw x (List.mem_of_getElem? hx)
        obtain ⟨t, ht, hk, _⟩ := (wx.same sc).ty c
        refine ⟨rfl, x, rfl, x, _, t, _, _, rfl, ClsV.own C, ht, hk C hC, _, eD, ?_, ?_, ?_⟩
        · rw [List.length_map, List.length_map, List.length_take]
          omega
        · intro b o e
          rw [upd_ne (ne_of_none e nD)]
          exact sc b o e
        · rw [upd_same, (wx.at_ sc).2.2, List.take_add_one, hx, List.map_append, List.map_append]
          rfl
      · refine ⟨D, _, rfl, SqL.of eD, ?_⟩
        rw [List.take_length, List.all_map]
        exact q _ sc

def spGrp (Cs : List Addr) : Sp := fun xs H Q _ => ∃ v, xs = [v] ∧ Wf Cs H v ∧ ∀ H', Same H H' → Q (.bl (grp H v)) H'
theorem ok_isGroup {f fL : Addr} {fd fdL : FuncData} {k : Nat} {u1 u2 : Tok} (c : Cl3 K Cs) (F : Fun K "is_group" "is_group" st_is_group f fd) (D_is_list_within : Df K mg "is_list_within" st_is_list_within ["value", "most"] fL fdL) (c_IG : mg "MOST_IN_GROUP" = some (.int 6 u1)) (c_FG : mg "FEWEST_IN_GROUP" = some (.int 2 u2))
    (m_len : mg "len" = none) (m_list : mg "list" = none) (m_str : mg "str" = none) (m_isinstance : mg "isinstance" = none) (m_all : mg "all" = none) : FnOk P w K mg base CX0 (k + 2) f fd ["value"] (spGrp Cs) := by
  have G_is_list_within : FnOk P w K mg base CX0 (k + 1) fL fdL ["value", "most"] (spLW Cs) := ok_listWithin c D_is_list_within.F m_len m_list m_isinstance
  refine F.ok sc_is_group (fun vs H Q E h => ?_) (fun cdv A outer s H vs Q E hr h => ?_)
  · obtain ⟨v, rfl, _⟩ := h
    rfl
  · obtain ⟨v, rfl, hv, q⟩ := h
    have sl : sizeLine = 16777216 := sizeLine_eq
    refine ⟨_, pss_cons (ps_if (PW.pt (pw_or (pt_not (pt_val (pe_call G_is_list_within hr (by rfl) D_is_list_within.g D_is_list_within.F.kp D_is_list_within.b .nil pass0 (pa_cons (pv 0) (pa_cons (pe_glob (v := .int 6) rfl c_IG ⟨_, rfl⟩) pa_nil))))) (pw_or1 (pt_cmpR op_lt (pe_callB call_len_seq (by rfl) m_len PySem.boot_len (pa_cons (pv 0) pa_nil)) (pe_glob (v := .int 2) rfl c_FG ⟨_, rfl⟩) (nomark _))))) (pss_one (ps_ret pe_bl)) pss_nil)
      (pss_one (ps_ret (pe_callB (cr_all rfl) (by rfl) m_all (by decide +kernel) (pa_cons (pe_lc (own := [("each", 1)]) (g := gName 1) (tt := tYes) rfl sc_is_group.nd (pi_list (pv 0)) (blkOk_by (N := ["value", "each"]) (sc := defScope st_is_group) (by decide +kernel)) (fun _ _ _ _ _ => (pg_name (i := 1) sc_is_group.nd rfl (Or.inl rfl))) (fun _ _ _ _ _ => pts_nil) (fun _ _ _ _ _ => (pe_callB (r := rIsi K) call_isi (by rfl) m_isinstance (by decide +kernel) (pa_cons (pv 1) (pa_cons (pe_bltn (v := .ty "str") (by rfl) m_str (by decide +kernel) rfl) pa_nil))))) pa_nil)))), ?_⟩
    refine ⟨v, rfl, v, 6, rfl, hv, _, rfl, ?_⟩
    unfold grp at q
    cases b : (isL H v && decide ((its H v).length ≤ 6)) with
    | false =>
      rw [b] at q
      exact q _ (Same.refl _)
    | true =>
      rw [b] at q
      obtain ⟨b1, b2⟩ := Bool.and_eq_true_iff.mp b
      obtain ⟨a, rfl, ea⟩ := hv.list b1
      obtain ⟨le, hw⟩ := hv.items
      revert q
      generalize its H (.ref a) = ys at *
      intro q
      refine ⟨.ref a, rfl, a, _, rfl, .inl (SqL.of ea), _, _, rfl, rfl, _, rfl, ite2 (fun e => ?_) (fun e => ?_)⟩
      · have e' : (ys.length : Int) < 2 := of_decide_eq_true e
        rw [decide_eq_false (p := 2 ≤ ys.length) (by omega)] at q
        exact q _ (Same.refl _)
      · have e' : ¬ (ys.length : Int) < 2 := fun z => e (decide_eq_true z)
        rw [decide_eq_true (p := 2 ≤ ys.length) (by omega)] at q
        refine ⟨.ref a, rfl, a, rfl, ⟨_, SqL.of ea⟩, fun D nD => ?_⟩
        refine lc_list (K := K) (a := a) (xs := ys) (fun i Hc => Same H Hc ∧ Hc D = some (.lst (((ys.take i).map isS).map V.bl))) ⟨same_upd nD, upd_same⟩ (fun i Hc _ h => SqL.of (h.1 _ _ ea)) (fun i x Hc hx ⟨sc, eD⟩ => ?_) (fun Hc ⟨sc, eD⟩ => ?_)
        · have wx := hw x (List.mem_of_getElem? hx)
          obtain ⟨t, ht, _, _, hk⟩ := (wx.same sc).ty c
          refine ⟨rfl, x, rfl, x, _, t, _, _, rfl, ClsV.ty "str", ht, hk, _, eD, ?_, ?_, ?_⟩
          · rw [List.length_map, List.length_map, List.length_take]
            omega
          · intro b o e
            rw [upd_ne (ne_of_none e nD)]
            exact sc b o e
          · rw [upd_same, List.take_add_one, hx, List.map_append, List.map_append]
            rfl
        · refine ⟨D, _, rfl, SqL.of eD, ?_⟩
          rw [List.take_length, List.all_map]
          exact q _ sc
theorem ok_areGroups {f fL fG : Addr} {fd fdL fdG : FuncData} {k : Nat} {u1 u2 u3 : Tok} (c : Cl3 K Cs) (F : Fun K "are_groups" "are_groups" st_are_groups f fd) (D_is_list_within : Df K mg "is_list_within" st_is_list_within ["value", "most"] fL fdL) (D_is_group : Df K mg "is_group" st_is_group ["value"] fG fdG) (c_IG : mg "MOST_IN_GROUP" = some (.int 6 u1)) (c_FG : mg "FEWEST_IN_GROUP" = some (.int 2 u2)) (c_GR : mg "MOST_GROUPS" = some (.int 4 u3))
    (m_len : mg "len" = none) (m_list : mg "list" = none) (m_str : mg "str" = none) (m_isinstance : mg "isinstance" = none) (m_all : mg "all" = none) : FnOk P w K mg base CX0 (k + 3) f fd ["value"] (spAre Cs 4 grp) := by
  have G_is_list_within : FnOk P w K mg base CX0 (k + 2) fL fdL ["value", "most"] (spLW Cs) := ok_listWithin c D_is_list_within.F m_len m_list m_isinstance
  have G_is_group : FnOk P w K mg base CX0 (k + 2) fG fdG ["value"] (spGrp Cs) := ok_isGroup c D_is_group.F D_is_list_within c_IG c_FG m_len m_list m_str m_isinstance m_all
  refine F.ok sc_are_groups (fun vs H Q E h => ?_) (fun cdv A outer s H vs Q E hr h => ?_)
  · obtain ⟨v, rfl, _⟩ := h
    rfl
  · obtain ⟨v, rfl, hv, q⟩ := h
    have sl : sizeLine = 16777216 := sizeLine_eq
    refine ⟨_, pss_one (ps_ret (pe_and (pe_call G_is_list_within hr (by rfl) D_is_list_within.g D_is_list_within.F.kp D_is_list_within.b .nil pass0 (pa_cons (pv 0) (pa_cons (pe_glob (v := .int 4) rfl c_GR ⟨_, rfl⟩) pa_nil))) (pe_one (pe_callB (cr_all rfl) (by rfl) m_all (by decide +kernel) (pa_cons (pe_lc (own := [("each", 1)]) (g := gName 1) (tt := tYes) rfl sc_are_groups.nd (pi_list (pv 0)) (blkOk_by (N := ["value", "each"]) (sc := defScope st_are_groups) (by decide +kernel)) (fun _ _ _ _ _ => (pg_name (i := 1) sc_are_groups.nd rfl (Or.inl rfl))) (fun _ _ _ _ _ => pts_nil) (fun _ _ _ _ _ => (pe_call G_is_group hr (by rfl) D_is_group.g D_is_group.F.kp D_is_group.b .nil pass0 (pa_cons (pv 1) pa_nil)))) pa_nil))))), ?_⟩
    refine ⟨v, rfl, v, 4, rfl, hv, _, rfl, ?_⟩
    unfold lok at q
    cases b : (isL H v && decide ((its H v).length ≤ 4)) with
    | false =>
      rw [b] at q
      exact q _ (Same.refl _)
    | true =>
      rw [b] at q
      obtain ⟨b1, b2⟩ := Bool.and_eq_true_iff.mp b
      obtain ⟨a, rfl, ea⟩ := hv.list b1
      obtain ⟨le, hw⟩ := hv.items
      revert q
      generalize its H (.ref a) = ys at *
      intro q
      refine ⟨.ref a, rfl, a, rfl, ⟨_, SqL.of ea⟩, fun D nD => ?_⟩
      refine lc_list (K := K) (a := a) (xs := ys) (fun i Hc => Same H Hc ∧ Hc D = some (.lst (((ys.take i).map (grp H)).map V.bl))) ⟨same_upd nD, upd_same⟩ (fun i Hc _ h => SqL.of (h.1 _ _ ea)) (fun i x Hc hx ⟨sc, eD⟩ => ?_) (fun Hc ⟨sc, eD⟩ => ?_)
      · have wx := hw x (List.mem_of_getElem? hx)
        refine ⟨rfl, x, rfl, x, rfl, wx.same sc, fun Hd sd => ⟨_, sd _ _ eD, ?_, ?_, ?_⟩⟩
        · rw [List.length_map, List.length_map, List.length_take]
          omega
        · intro b o e
          rw [upd_ne (ne_of_none e nD)]
          exact sd _ _ (sc b o e)
        · rw [upd_same, wx.grp sc, List.take_add_one, hx, List.map_append, List.map_append]
          rfl
      · refine ⟨D, _, rfl, SqL.of eD, ?_⟩
        rw [List.take_length, List.all_map]
        exact q _ sc
/-! ### None for no list, and copies -/
def rListOf (K : PySem.W.Frag) : List V → Hp → VK → Prop := fun xs H Q => ∃ p ys, xs = [.ref p] ∧ (SqL K H p ys ∨ SqT K H p ys) ∧ ∀ l, H l = none → Q (.ref l) (upd H l (.lst ys))
theorem call_listOf {X : Cx} : CallR X (.type "list") (rListOf X.K) := call_list_of
def spEmpty : Sp := fun xs H Q _ => ∃ v, xs = [v] ∧ (v = .non → ∀ l, H l = none → Q (.ref l) (upd H l (.lst []))) ∧ (v ≠ .non → Q v H)
theorem ok_empty {f : Addr} {fd : FuncData} {k : Nat} (F : Fun K "empty_for_none" "empty_for_none" st_empty_for_none f fd) : FnOk P w K mg base CX0 (k + 1) f fd ["value"] spEmpty := by
  refine F.ok sc_empty_for_none (fun vs H Q E h => ?_) (fun cdv A outer s H vs Q E hr h => ?_)
  · obtain ⟨v, rfl, _⟩ := h
    rfl
  · obtain ⟨v, rfl, q1, q2⟩ := h
    refine ⟨_, pss_one (ps_ret (pe_ifExp (pt_cmpR op_isN (pv 0) pe_non (nomark _)) (pe_lst pa_nil) (pv 0))), ?_⟩
    refine ⟨v, rfl, rfl, _, rfl, ite2 (fun e => ?_) (fun e => ?_)⟩
    · exact ⟨by show 0 ≤ sizeLine; decide, fun l nl => q1 (of_decide_eq_true e) l nl⟩
    · exact ⟨v, rfl, q2 (fun z => e (decide_eq_true z))⟩
/-- at l there is a list of new lists, that hold what gss tells -/
def GL (H0 H : Hp) (l : Addr) (gss : List (List V)) : Prop := H0 l = none ∧ ∃ as : List Addr, H l = some (.lst (as.map V.ref)) ∧ as.length = gss.length ∧ (∀ (i : Nat) (a : Addr), as[i]? = some a → H0 a = none ∧ a ≠ l ∧ ∃ g, gss[i]? = some g ∧ H a = some (.lst g)) ∧ as.Nodup
def spCopied : Sp := fun xs H Q _ => ∃ (a : Addr) (ys : List V) (gss : List (List V)), xs = [.ref a] ∧ H a = some (.lst ys) ∧ ys.length = gss.length ∧ ys.length ≤ 1000 ∧ (∀ (i : Nat) (y : V), ys[i]? = some y → ∃ b g, y = .ref b ∧ H b = some (.lst g) ∧ gss[i]? = some g) ∧ ∀ H' l, Same H H' → GL H H' l gss → Q (.ref l) H'
theorem ok_copied {f : Addr} {fd : FuncData} {k : Nat} (F : Fun K "copied_groups" "copied_groups" st_copied_groups f fd) (m_list : mg "list" = none) : FnOk P w K mg base CX0 (k + 1) f fd ["groups"] spCopied := by
  refine F.ok sc_copied_groups (fun vs H Q E h => ?_) (fun cdv A outer s H vs Q E hr h => ?_)
  · obtain ⟨a, ys, gss, rfl, _⟩ := h
    rfl
  · obtain ⟨a, ys, gss, rfl, ea, hlen, le, hy, q⟩ := h
    have sl : sizeLine = 16777216 := sizeLine_eq
    refine ⟨_, pss_one (ps_ret (pe_lc (own := [("group", 1)]) (g := gName 1) (tt := tYes) rfl sc_copied_groups.nd (pi_list (pv 0)) (blkOk_by (N := ["groups", "group"]) (sc := defScope st_copied_groups) (by decide +kernel)) (fun _ _ _ _ _ => (pg_name (i := 1) sc_copied_groups.nd rfl (Or.inl rfl))) (fun _ _ _ _ _ => pts_nil) (fun _ _ _ _ _ => (pe_callTy (r := rListOf K) call_listOf (by rfl) m_list (by decide +kernel) (pa_cons (pv 1) pa_nil))))), ?_⟩
    refine ⟨.ref a, rfl, a, rfl, ⟨_, SqL.of ea⟩, fun D nD => ?_⟩
    refine lc_list (K := K) (a := a) (xs := ys) (fun i Hc => Same H Hc ∧ ∃ as : List Addr, Hc D = some (.lst (as.map V.ref)) ∧ as.length = min i ys.length ∧ (∀ (j : Nat) (b : Addr), as[j]? = some b → H b = none ∧ b ≠ D ∧ ∃ g, gss[j]? = some g ∧ Hc b = some (.lst g)) ∧ as.Nodup)
      ⟨same_upd nD, [], upd_same, by simp, (fun j b e => by cases e), List.nodup_nil⟩ (fun i Hc _ h => SqL.of (h.1 _ _ ea)) (fun i x Hc hx ⟨sc, as, eD, la, ha, nd⟩ => ?_) (fun Hc ⟨sc, as, eD, la, ha, nd⟩ => ?_)
    · obtain ⟨b, g, rfl, eb, eg⟩ := hy i x hx
      have hi : i < ys.length := (List.getElem?_eq_some_iff.mp hx).1
      refine ⟨rfl, .ref b, rfl, b, g, rfl, .inl (SqL.of (sc _ _ eb)), fun l nl => ?_⟩
      have nlD : l ≠ D := (ne_of_none eD nl).symm
      have nlH : H l = none := by
        cases e : H l with
        | none => rfl
        | some o => rw [sc _ _ e] at nl; cases nl
      have fresh : ∀ c ∈ as, c ≠ l := fun c hc => by
        obtain ⟨j, hj, e⟩ := List.mem_iff_getElem.mp hc
        obtain ⟨_, _, g', _, e'⟩ := ha j c (by rw [List.getElem?_eq_getElem hj, e])
        exact ne_of_none e' nl
      refine ⟨_, by rw [upd_ne nlD.symm]; exact eD, by rw [List.length_map]; omega, fun c o e => ?_, as ++ [l], ?_, by rw [List.length_append, la]; show _ + 1 = _; omega, fun j c e => ?_, ?_⟩
      · rw [upd_ne (ne_of_none e nD), upd_ne (ne_of_none e nlH)]
        exact sc c o e
      · rw [upd_same, List.map_append]
        rfl
      · by_cases q : j < as.length
        · rw [List.getElem?_append_left q] at e
          obtain ⟨h1, h2, g', h3, h4⟩ := ha j c e
          refine ⟨h1, h2, g', h3, ?_⟩
          rw [upd_ne h2, upd_ne (fresh c (List.mem_of_getElem? e))]
          exact h4
        · rw [List.getElem?_append_right (by omega)] at e
          have j0 : j - as.length = 0 := by
            cases h : j - as.length with
            | zero => rfl
            | succ n => rw [h] at e; cases e
          rw [j0] at e
          cases e
          have ji : j = i := by omega
          subst ji
          refine ⟨nlH, nlD, g, eg, ?_⟩
          rw [upd_ne nlD, upd_same]
      · refine List.nodup_append.mpr ⟨nd, List.nodup_cons.mpr ⟨List.not_mem_nil, List.nodup_nil⟩, fun y hy' c hc e => ?_⟩
        rw [List.mem_singleton.mp hc] at e
        exact fresh y hy' e
    · exact q _ D sc ⟨nD, as, eD, by rw [la, ← hlen]; omega, ha, nd⟩
end
end WB

set_option Elab.async false
set_option linter.all false
set_option maxRecDepth 100000
set_option maxHeartbeats 4000000
namespace WB
open PySem PySem.Spec PyProof.Rows L2 WG
open TL (tl)
abbrev st_Command_init : Stmt := inClass (topS 49) 0
theorem sc_Command_init : FnScope ["self", "name", "options", "places", "groups", "commands", "about"] ["self", "name", "options", "places", "groups", "commands", "about"] (defScope st_Command_init) := ⟨rfl, rfl, rfl, by decide +kernel, rfl, by decide +kernel, by decide +kernel⟩
abbrev st_errC : Stmt := inClass (topS 4) 0
theorem sc_errC : FnScope ["self", "field"] ["self", "field"] (defScope st_errC) := ⟨rfl, rfl, rfl, by decide +kernel, rfl, by decide +kernel, by decide +kernel⟩
def ol (H : Hp) (m : Nat) (g : V → Bool) (v : V) : Bool := decide (v = .non) || lok H m g v
/-- None, or a list that holds xs -/
def LV (H : Hp) (v : V) (xs : List V) : Prop := (v = .non ∧ xs = []) ∨ ∃ a, v = .ref a ∧ H a = some (.lst xs)
theorem lv_of {Cs : List Addr} {H : Hp} {m : Nat} {g : V → Bool} {v : V} (w : Wf Cs H v) (h : ol H m g v = true) : LV H v (its H v) := by
  unfold ol lok at h
  by_cases e : v = .non
  · subst e
    exact .inl ⟨rfl, rfl⟩
  · rw [decide_eq_false e, Bool.false_or] at h
    simp only [Bool.and_eq_true] at h
    obtain ⟨a, e1, e2⟩ := w.list h.1.1
    exact .inr ⟨a, e1, e2⟩
theorem LV.but {H H' : Hp} {v : V} {xs : List V} {x C dx : Addr} {fs : List (Str × V)} (h : LV H v xs) (b : But x H H') (hx : H x = some (.ins C dx fs)) : LV H' v xs := by
  rcases h with h | ⟨a, rfl, e⟩
  · exact .inl h
  · refine .inr ⟨a, rfl, b a _ (fun z => ?_) e⟩
    rw [z, hx] at e
    cases e
theorem but_none {x l : Addr} {H G : Hp} {o : HO} (b : But x H G) (hx : G x = some o) (n : G l = none) : H l = none := by
  cases e : H l with
  | none => rfl
  | some u =>
    have nx : l ≠ x := fun z => by rw [z, hx] at n; cases n
    rw [b l u nx e] at n
    cases n
theorem GL.base {H H1 H' : Hp} {l : Addr} {gss : List (List V)} (h : GL H1 H' l gss) (n : ∀ b, H1 b = none → H b = none) : GL H H' l gss := by
  obtain ⟨n1, as, e, le, ha, nd⟩ := h
  exact ⟨n l n1, as, e, le, fun i a e => by obtain ⟨h1, h2⟩ := ha i a e; exact ⟨n a h1, h2⟩, nd⟩
theorem GL.but {H0 H H' : Hp} {l x : Addr} {gss : List (List V)} (h : GL H0 H l gss) (b : But x H H') (hx : H0 x ≠ none) : GL H0 H' l gss := by
  obtain ⟨n1, as, e, le, ha, nd⟩ := h
  refine ⟨n1, as, b _ _ (fun z => hx (by rw [← z]; exact n1)) e, le, fun i a e => ?_, nd⟩
  obtain ⟨h1, h2, g, h3, h4⟩ := ha i a e
  exact ⟨h1, h2, g, h3, b _ _ (fun z => hx (by rw [← z]; exact h1)) h4⟩
section
variable {K : PySem.W.Frag} {Cs : List Addr} {σ : L2.St} {H : Hp} {Q : VK} {i : Nat} {v : V} {E E' : XK}
theorem are_in {m : Nat} {g : Hp → V → Bool} (hv : σ[i]? = some (some v)) (hw : Wf Cs H v) (q : ∀ H', Same H H' → Q (.bl (ol H m (g H) v)) H') : tCall (spAre Cs m g) [] E (tCons (tCall spEmpty [] E' (tCons (tVar i) tNil)) tNil) σ H Q := by
  refine ⟨v, hv, v, rfl, fun e l nl => ?_, fun e => ?_⟩
  · subst e
    refine ⟨.ref l, rfl, .lst upd_same (by decide) (fun x hx => by cases hx), fun H' s' => ?_⟩
    have eq : lok (upd H l (.lst [])) m (g (upd H l (.lst []))) (.ref l) = true := by
      obtain ⟨e1, e2⟩ := isL_lst (H := upd H l (.lst [])) (a := l) upd_same
      unfold lok
      rw [e1, e2]
      simp
    rw [eq]
    exact q _ ((same_upd nl).trans s')
  · refine ⟨v, rfl, hw, fun H' s' => ?_⟩
    have eq : lok H m (g H) v = ol H m (g H) v := by
      unfold ol
      rw [decide_eq_false e, Bool.false_or]
    rw [eq]
    exact q _ s'
theorem list_in {xs : List V} (hv : σ[i]? = some (some v)) (h : LV H v xs) (q : ∀ H' l, Same H H' → H l = none → H' l = some (.lst xs) → Q (.ref l) H') : tCB (rListOf K) (tCons (tCall spEmpty [] E (tCons (tVar i) tNil)) tNil) σ H Q := by
  refine ⟨v, hv, v, rfl, fun e l nl => ?_, fun e => ?_⟩
  · rcases h with ⟨_, rfl⟩ | ⟨a, e', _⟩
    · refine ⟨l, [], rfl, .inl (SqL.of upd_same), fun l2 n2 => q _ l2 ((same_upd nl).trans (same_upd n2)) ?_ upd_same⟩
      cases e3 : H l2 with
      | none => rfl
      | some o => rw [same_upd nl _ _ e3] at n2; cases n2
    · rw [e] at e'
      cases e'
  · rcases h with ⟨e', _⟩ | ⟨a, rfl, ea⟩
    · exact absurd e' e
    · exact ⟨a, xs, rfl, .inl (SqL.of ea), fun l nl => q _ l (same_upd nl) nl upd_same⟩
theorem cop_in {ys : List V} {gss : List (List V)} (hv : σ[i]? = some (some v)) (h : LV H v ys) (hlen : ys.length = gss.length) (le : ys.length ≤ 1000) (hy : ∀ (i : Nat) (y : V), ys[i]? = some y → ∃ b g, y = .ref b ∧ H b = some (.lst g) ∧ gss[i]? = some g)
    (q : ∀ H' l, Same H H' → GL H H' l gss → Q (.ref l) H') : tCall spCopied [] E (tCons (tCall spEmpty [] E' (tCons (tVar i) tNil)) tNil) σ H Q := by
  refine ⟨v, hv, v, rfl, fun e l nl => ?_, fun e => ?_⟩
  · rcases h with ⟨_, rfl⟩ | ⟨a, e', _⟩
    · refine ⟨l, [], gss, rfl, upd_same, hlen, by decide, (fun i y e => by cases e), fun H' l2 s' g => q _ l2 ((same_upd nl).trans s') (g.base fun b n => ?_)⟩
      cases e3 : H b with
      | none => rfl
      | some o => rw [same_upd nl _ _ e3] at n; cases n
    · rw [e] at e'
      cases e'
  · rcases h with ⟨e', _⟩ | ⟨a, rfl, ea⟩
    · exact absurd e' e
    · exact ⟨a, ys, gss, rfl, ea, hlen, le, hy, fun H' l s' g => q _ l s' g⟩
end
section
variable {P : Program} {w : World} {K : PySem.W.Frag} {mg : Str → Option Value} {base : Heap}
theorem ok_errC {C f : Addr} {fd : FuncData} {x q : Str} {k : Nat} (F : Fun K "__init__" q st_errC f fd) (T : ErrT K mg x C f fd) : FnOk P w K mg base CX0 (k + 1) f fd ["self", "field"] (spErr C) := by
  refine F.ok sc_errC (fun vs H Q E h => ?_) (fun cdv A outer s H vs Q E hr h => ?_)
  · obtain ⟨a, y, rfl, _⟩ := h
    rfl
  · obtain ⟨a, y, rfl, ea, q⟩ := h
    refine ⟨_, pss_one (ps_ost (pv 0) (pv 1)), ?_⟩
    exact ⟨y, rfl, .ref a, rfl, a, C, rfl, T.o, T.nf, .inl ⟨ea, fun dx n ne => q dx n ne⟩⟩
def wrongC (CO CP CC : Addr) (H : Hp) (v0 v1 v2 v3 v4 v5 : V) : Str :=
  if isNm v0 = false then Str.ofString "name" else if ol H 12 (isC H CO) v1 = false then Str.ofString "options" else if ol H 6 (isC H CP) v2 = false then Str.ofString "places" else if ol H 4 (grp H) v3 = false then Str.ofString "groups" else
  if ol H 8 (isC H CC) v4 = false then Str.ofString "commands" else if isAb v5 = false then Str.ofString "about" else Str.ofString ""
structure ClsC (K : PySem.W.Frag) (C : Addr) : Prop where
  cl : Cls K C
  n0 : NoAttr K C "own_name"
  n1 : NoAttr K C "own_options"
  n2 : NoAttr K C "own_places"
  n3 : NoAttr K C "own_groups"
  n4 : NoAttr K C "own_commands"
  n5 : NoAttr K C "own_about"
def cmdF (v0 : V) (lo lp lg lc : Addr) (v5 : V) : List (Str × V) := [(("own_name" : Str), v0), (("own_options" : Str), .ref lo), (("own_places" : Str), .ref lp), (("own_groups" : Str), .ref lg), (("own_commands" : Str), .ref lc), (("own_about" : Str), v5)]
/-- a command, its lists made behind H0 -/
structure CmdAt (CC : Addr) (H0 H : Hp) (x : Addr) (v0 : V) (os ps : List V) (gss : List (List V)) (cs : List V) (v5 : V) : Prop where
  ex : ∃ dx lo lp lg lc, H x = some (.ins CC dx (cmdF v0 lo lp lg lc v5)) ∧ (H0 lo = none ∧ H lo = some (.lst os)) ∧ (H0 lp = none ∧ H lp = some (.lst ps)) ∧ GL H0 H lg gss ∧ (H0 lc = none ∧ H lc = some (.lst cs))
def spCInit (CO CP CC CN : Addr) : Sp := fun vs H Q E => ∃ (x dx : Addr) (v0 v1 v2 v3 v4 v5 : V), vs = [.ref x, v0, v1, v2, v3, v4, v5] ∧ H x = some (.ins CC dx []) ∧ (Thg H v0 ∧ Wf [CO, CP, CC] H v1 ∧ Wf [CO, CP, CC] H v2 ∧ Wf [CO, CP, CC] H v3 ∧ Wf [CO, CP, CC] H v4 ∧ Thg H v5) ∧
  (wrongC CO CP CC H v0 v1 v2 v3 v4 v5 = Str.ofString "" → ∀ H', But x H H' → CmdAt CC H H' x v0 (its H v1) (its H v2) ((its H v3).map (its H)) (its H v4) v5 → Q .non H') ∧
  (wrongC CO CP CC H v0 v1 v2 v3 v4 v5 ≠ Str.ofString "" → ∀ H' d, Same H H' → H d = none → H' d = some (.xd [(("field" : Str), .str (wrongC CO CP CC H v0 v1 v2 v3 v4 v5))]) → E (.ref CN) (some d) H')
theorem Wf.ol {Cs : List Addr} {H H' : Hp} {v : V} {m : Nat} {g : Hp → V → Bool} (h : Wf Cs H v) (s : Same H H') (hg : ∀ x, Wf Cs H x → g H' x = g H x) : WB.ol H' m (g H') v = WB.ol H m (g H) v := by
  obtain ⟨e1, e2, _⟩ := h.at_ s
  have hi := h.items.2
  unfold WB.ol lok
  rw [e1, e2]
  congr 1
  congr 1
  rw [Bool.eq_iff_iff, List.all_eq_true, List.all_eq_true]
  constructor
  · intro z x hx
    rw [← hg x (hi x hx)]
    exact z x hx
  · intro z x hx
    rw [hg x (hi x hx)]
    exact z x hx
end
end WB

set_option Elab.async false
set_option linter.all false
set_option maxRecDepth 100000
set_option maxHeartbeats 4000000
namespace WB
open PySem PySem.Spec PyProof.Rows L2 WG
open TL (tl)
section
variable {K K' : PySem.W.Frag} {Cs : List Addr} {σ : L2.St} {H : Hp} {κ : L2.Ends} {t rest : TS} {i : Nat} {v : V} {E E' : XK}
theorem chk_in {m : Nat} {g : Hp → V → Bool} (hv : σ[i]? = some (some v)) (hw : Wf Cs H v) (qf : ol H m (g H) v = false → ∀ H', Same H H' → t { κ with nx := rest κ } σ H') (qt : ol H m (g H) v = true → ∀ H', Same H H' → rest κ σ H') :
    tSeq (tIfS (tNot (tB (tCall (spAre Cs m g) [] E (tCons (tCall spEmpty [] E' (tCons (tVar i) tNil)) tNil)))) t tNext) rest κ σ H := by
  refine are_in (Q := fun x H1 => ∃ c, x = .bl c ∧ if (!c) = true then t { κ with nx := rest κ } σ H1 else tNext { κ with nx := rest κ } σ H1) hv hw (fun H' s' => ⟨_, rfl, ?_⟩)
  cases b : ol H m (g H) v with
  | false => exact qf b H' s'
  | true => exact qt b H' s'
theorem chk_of {g : V → Bool} (hv : σ[i]? = some (some v)) (hw : Thg H v) (qf : g v = false → ∀ H', Same H H' → t { κ with nx := rest κ } σ H') (qt : g v = true → ∀ H', Same H H' → rest κ σ H') :
    tSeq (tIfS (tNot (tB (tCall (spOf g) [] E (tCons (tVar i) tNil)))) t tNext) rest κ σ H := by
  refine (⟨v, hv, v, rfl, hw, fun H' s' => ⟨_, rfl, ?_⟩⟩ : (tCall (spOf g) [] E (tCons (tVar i) tNil)) σ H (fun x H1 => ∃ c, x = .bl c ∧ if (!c) = true then t { κ with nx := rest κ } σ H1 else tNext { κ with nx := rest κ } σ H1))
  cases b : g v with
  | false => exact qf b H' s'
  | true => exact qt b H' s'
theorem fld_list {f : Str} {x C dx : Addr} {fs : List (Str × V)} {xs : List V} (h0 : σ[0]? = some (some (.ref x))) (hv : σ[i]? = some (some v)) (hl : LV H v xs) (ex : H x = some (.ins C dx fs)) (cl : Cls K C) (na : NoAttr K C f) (lf : fs.length < 1000)
    (q : ∀ H' l, Same H H' → H l = none → H' l = some (.lst xs) → rest κ σ (upd H' x (.ins C dx (putF f (.ref l) fs)))) : tSeq (sFld K (tVar 0) (tCB (rListOf K') (tCons (tCall spEmpty [] E (tCons (tVar i) tNil)) tNil)) f) rest κ σ H :=
  list_in (Q := fun y H1 => (tVar 0) σ H1 fun z H2 => ∃ a C dx fs, z = .ref a ∧ H2 a = some (.ins C dx fs) ∧ Cls K C ∧ NoAttr K C f ∧ fs.length < 1000 ∧ rest κ σ (upd H2 a (.ins C dx (putF f y fs)))) hv hl (fun H' l s n e => ⟨.ref x, h0, x, C, dx, fs, rfl, s _ _ ex, cl, na, lf, q H' l s n e⟩)
theorem fld_cop {f : Str} {x C dx : Addr} {fs : List (Str × V)} {ys : List V} {gss : List (List V)} (h0 : σ[0]? = some (some (.ref x))) (hv : σ[i]? = some (some v)) (hl : LV H v ys) (hlen : ys.length = gss.length) (le : ys.length ≤ 1000) (hy : ∀ (i : Nat) (y : V), ys[i]? = some y → ∃ b g, y = .ref b ∧ H b = some (.lst g) ∧ gss[i]? = some g)
    (ex : H x = some (.ins C dx fs)) (cl : Cls K C) (na : NoAttr K C f) (lf : fs.length < 1000) (q : ∀ H' l, Same H H' → GL H H' l gss → rest κ σ (upd H' x (.ins C dx (putF f (.ref l) fs)))) : tSeq (sFld K (tVar 0) (tCall spCopied [] E (tCons (tCall spEmpty [] E' (tCons (tVar i) tNil)) tNil)) f) rest κ σ H :=
  cop_in (Q := fun y H1 => (tVar 0) σ H1 fun z H2 => ∃ a C dx fs, z = .ref a ∧ H2 a = some (.ins C dx fs) ∧ Cls K C ∧ NoAttr K C f ∧ fs.length < 1000 ∧ rest κ σ (upd H2 a (.ins C dx (putF f y fs)))) hv hl hlen le hy (fun H' l s g => ⟨.ref x, h0, x, C, dx, fs, rfl, s _ _ ex, cl, na, lf, q H' l s g⟩)
theorem fld_var {f : Str} {x C dx : Addr} {fs : List (Str × V)} (h0 : σ[0]? = some (some (.ref x))) (hv : σ[i]? = some (some v)) (ex : H x = some (.ins C dx fs)) (cl : Cls K C) (na : NoAttr K C f) (lf : fs.length < 1000) (q : rest κ σ (upd H x (.ins C dx (putF f v fs)))) : tSeq (sFld K (tVar 0) (tVar i) f) rest κ σ H :=
  ⟨v, hv, .ref x, h0, x, C, dx, fs, rfl, ex, cl, na, lf, q⟩
end
theorem putF_new {f : Str} {v : V} : ∀ {fs : List (Str × V)}, f ∉ fs.map (·.1) → putF f v fs = fs ++ [(f, v)]
  | [], _ => rfl
  | (g, x) :: r, h => by
    have h1 : ¬ g = f := fun e => h (by rw [e]; exact List.mem_cons_self)
    have h2 : f ∉ r.map (·.1) := fun e => h (List.mem_cons_of_mem _ e)
    unfold putF
    rw [if_neg h1, putF_new h2]
    rfl
theorem LV.same {H H' : Hp} {v : V} {xs : List V} (h : LV H v xs) (s : Same H H') : LV H' v xs := by
  rcases h with h | ⟨a, rfl, e⟩
  · exact .inl h
  · exact .inr ⟨a, rfl, s _ _ e⟩
/-- what the right groups hold -/
theorem grp_items {Cs : List Addr} {H : Hp} {m : Nat} {v : V} (w : Wf Cs H v) (h : ol H m (grp H) v = true) : ∀ (i : Nat) (y : V), (its H v)[i]? = some y → ∃ b g, y = .ref b ∧ H b = some (.lst g) ∧ ((its H v).map (its H))[i]? = some g := by
  intro i y e
  have hm := List.mem_of_getElem? e
  have hg : grp H y = true := by
    unfold ol lok at h
    by_cases z : v = .non
    · subst z
      cases hm
    · rw [decide_eq_false z, Bool.false_or] at h
      exact List.all_eq_true.mp (Bool.and_eq_true_iff.mp h).2 y hm
  have hl : isL H y = true := by
    unfold grp at hg
    simp only [Bool.and_eq_true] at hg
    exact hg.1.1.1
  obtain ⟨b, e1, e2⟩ := (w.items.2 y hm).list hl
  exact ⟨b, its H y, e1, e2, by rw [List.getElem?_map, e]; rfl⟩
section
variable {P : Program} {w : World} {K : PySem.W.Frag} {mg : Str → Option Value} {base : Heap}
theorem ok_cinit {CO CP CC CN f fE fW fA fB fL f1 f2 fG f3 f4 fEm fCp : Addr} {fd fdE fdW fdA fdB fdL fd1 fd2 fdG fd3 fd4 fdEm fdCp : FuncData} {u1 u2 u3 w1 w2 w3 w4 w5 w6 : Tok} {k : Nat} (F : FunD K "__init__" "Command.__init__" (defArgs st_Command_init) (defBody st_Command_init) (defScope st_Command_init) [.non, .non, .non, .non, .str (Str.ofString "")] [] f fd)
    (c3 : Cl3 K [CO, CP, CC]) (FE : Fun K "__init__" "NoCommand.__init__" st_errC fE fdE) (TE : ErrT K mg "NoCommand" CN fE fdE) (T : ClsC K CC)
    (D_is_text_within : Df K mg "is_text_within" st_is_text_within ["value", "most"] fW fdW) (D_is_name : Df K mg "is_name" st_is_name ["value"] fA fdA) (D_is_about : Df K mg "is_about" st_is_about ["value"] fB fdB) (D_is_list_within : Df K mg "is_list_within" st_is_list_within ["value", "most"] fL fdL)
    (D_are_options : Df K mg "are_options" st_are_options ["value"] f1 fd1) (D_are_places : Df K mg "are_places" st_are_places ["value"] f2 fd2) (D_is_group : Df K mg "is_group" st_is_group ["value"] fG fdG) (D_are_groups : Df K mg "are_groups" st_are_groups ["value"] f3 fd3) (D_are_commands : Df K mg "are_commands" st_are_commands ["value"] f4 fd4)
    (D_empty_for_none : Df K mg "empty_for_none" st_empty_for_none ["value"] fEm fdEm) (D_copied_groups : Df K mg "copied_groups" st_copied_groups ["groups"] fCp fdCp) (gO : mg "Option" = some (.ref CO)) (gP : mg "Place" = some (.ref CP)) (gC : mg "Command" = some (.ref CC))
    (m_len : mg "len" = none) (m_list : mg "list" = none) (m_str : mg "str" = none) (m_isinstance : mg "isinstance" = none) (m_all : mg "all" = none) (c_MOST_NAME_SIGNS : mg "MOST_NAME_SIGNS" = some (.int 10 u1)) (c_NAME_SIGNS : mg "NAME_SIGNS" = some (.str nameSet u2)) (c_MOST_ABOUT_SIGNS : mg "MOST_ABOUT_SIGNS" = some (.int 200 u3))
    (c_OP : mg "MOST_OPTIONS" = some (.int 12 w1)) (c_PL : mg "MOST_PLACES" = some (.int 6 w2)) (c_GR : mg "MOST_GROUPS" = some (.int 4 w3)) (c_FG : mg "FEWEST_IN_GROUP" = some (.int 2 w4)) (c_IG : mg "MOST_IN_GROUP" = some (.int 6 w5)) (c_CM : mg "MOST_COMMANDS" = some (.int 8 w6)) :
    FnOk P w K mg base (L2N.CX P w) (k + 4) f fd ["self", "name", "options", "places", "groups", "commands", "about"] (spCInit CO CP CC CN) := by
  have GE : FnOk P w K mg base CX0 (k + 2) fE fdE ["self", "field"] (spErr CN) := ok_errC FE TE
  have G_is_name : FnOk P w K mg base CX0 (k + 3) fA fdA ["value"] (spOf isNm) := ok_isName D_is_name.F D_is_text_within m_len m_str m_isinstance m_all c_MOST_NAME_SIGNS c_NAME_SIGNS
  have G_is_about : FnOk P w K mg base CX0 (k + 3) fB fdB ["value"] (spOf isAb) := ok_isAbout D_is_about.F D_is_text_within m_len m_str m_isinstance c_MOST_ABOUT_SIGNS
  have G_are_options : FnOk P w K mg base CX0 (k + 3) f1 fd1 ["value"] (spAre [CO, CP, CC] 12 (fun H => isC H CO)) := ok_areOptions c3 (by simp) D_are_options.F D_is_list_within gO c_OP m_len m_list m_isinstance m_all
  have G_are_places : FnOk P w K mg base CX0 (k + 3) f2 fd2 ["value"] (spAre [CO, CP, CC] 6 (fun H => isC H CP)) := ok_arePlaces c3 (by simp) D_are_places.F D_is_list_within gP c_PL m_len m_list m_isinstance m_all
  have G_are_groups : FnOk P w K mg base CX0 (k + 3) f3 fd3 ["value"] (spAre [CO, CP, CC] 4 grp) := ok_areGroups c3 D_are_groups.F D_is_list_within D_is_group c_IG c_FG c_GR m_len m_list m_str m_isinstance m_all
  have G_are_commands : FnOk P w K mg base CX0 (k + 3) f4 fd4 ["value"] (spAre [CO, CP, CC] 8 (fun H => isC H CC)) := ok_areCommands c3 (by simp) D_are_commands.F D_is_list_within gC c_CM m_len m_list m_isinstance m_all
  have G_empty_for_none : FnOk P w K mg base CX0 (k + 3) fEm fdEm ["value"] spEmpty := ok_empty D_empty_for_none.F
  have G_copied_groups : FnOk P w K mg base CX0 (k + 3) fCp fdCp ["groups"] spCopied := ok_copied D_copied_groups.F m_list
  refine F.ok sc_Command_init (fun vs H Q E h => ?_) (fun cdv A outer s H vs Q E hr h => ?_)
  · obtain ⟨x, dx, v0, v1, v2, v3, v4, v5, rfl, _⟩ := h
    rfl
  · obtain ⟨x, dx, v0, v1, v2, v3, v4, v5, rfl, ex, ⟨t0, w1', w2', w3', w4', t5⟩, qok, qbad⟩ := h
    refine ⟨_, pss_cons (ps_if (pt_not (pt_val (pe_call G_is_name hr (by rfl) D_is_name.g D_is_name.F.kp D_is_name.b .nil pass0 (pa_cons (pv 1) pa_nil)))) (pss_one (L2N.ps_raise rfl (L2N.takes_of rfl rfl rfl rfl) (pmk_oexN TE.o TE.i TE.t GE hr TE.b .nil pass0 (by rfl) TE.g (pa_cons pe_str pa_nil)))) pss_nil)
      (pss_cons (ps_if (pt_not (pt_val (pe_call G_are_options hr (by rfl) D_are_options.g D_are_options.F.kp D_are_options.b .nil pass0 (pa_cons (pe_call G_empty_for_none hr (by rfl) D_empty_for_none.g D_empty_for_none.F.kp D_empty_for_none.b .nil pass0 (pa_cons (pv 2) pa_nil)) pa_nil)))) (pss_one (L2N.ps_raise rfl (L2N.takes_of rfl rfl rfl rfl) (pmk_oexN TE.o TE.i TE.t GE hr TE.b .nil pass0 (by rfl) TE.g (pa_cons pe_str pa_nil)))) pss_nil)
      (pss_cons (ps_if (pt_not (pt_val (pe_call G_are_places hr (by rfl) D_are_places.g D_are_places.F.kp D_are_places.b .nil pass0 (pa_cons (pe_call G_empty_for_none hr (by rfl) D_empty_for_none.g D_empty_for_none.F.kp D_empty_for_none.b .nil pass0 (pa_cons (pv 3) pa_nil)) pa_nil)))) (pss_one (L2N.ps_raise rfl (L2N.takes_of rfl rfl rfl rfl) (pmk_oexN TE.o TE.i TE.t GE hr TE.b .nil pass0 (by rfl) TE.g (pa_cons pe_str pa_nil)))) pss_nil)
      (pss_cons (ps_if (pt_not (pt_val (pe_call G_are_groups hr (by rfl) D_are_groups.g D_are_groups.F.kp D_are_groups.b .nil pass0 (pa_cons (pe_call G_empty_for_none hr (by rfl) D_empty_for_none.g D_empty_for_none.F.kp D_empty_for_none.b .nil pass0 (pa_cons (pv 4) pa_nil)) pa_nil)))) (pss_one (L2N.ps_raise rfl (L2N.takes_of rfl rfl rfl rfl) (pmk_oexN TE.o TE.i TE.t GE hr TE.b .nil pass0 (by rfl) TE.g (pa_cons pe_str pa_nil)))) pss_nil)
      (pss_cons (ps_if (pt_not (pt_val (pe_call G_are_commands hr (by rfl) D_are_commands.g D_are_commands.F.kp D_are_commands.b .nil pass0 (pa_cons (pe_call G_empty_for_none hr (by rfl) D_empty_for_none.g D_empty_for_none.F.kp D_empty_for_none.b .nil pass0 (pa_cons (pv 5) pa_nil)) pa_nil)))) (pss_one (L2N.ps_raise rfl (L2N.takes_of rfl rfl rfl rfl) (pmk_oexN TE.o TE.i TE.t GE hr TE.b .nil pass0 (by rfl) TE.g (pa_cons pe_str pa_nil)))) pss_nil)
      (pss_cons (ps_if (pt_not (pt_val (pe_call G_is_about hr (by rfl) D_is_about.g D_is_about.F.kp D_is_about.b .nil pass0 (pa_cons (pv 6) pa_nil)))) (pss_one (L2N.ps_raise rfl (L2N.takes_of rfl rfl rfl rfl) (pmk_oexN TE.o TE.i TE.t GE hr TE.b .nil pass0 (by rfl) TE.g (pa_cons pe_str pa_nil)))) pss_nil)
      (pss_cons (ps_fld (pv 0) (pv 1) rfl)
      (pss_cons (ps_fld (pv 0) (pe_callTy (r := rListOf K) call_listOf (by rfl) m_list (by decide +kernel) (pa_cons (pe_call G_empty_for_none hr (by rfl) D_empty_for_none.g D_empty_for_none.F.kp D_empty_for_none.b .nil pass0 (pa_cons (pv 2) pa_nil)) pa_nil)) rfl)
      (pss_cons (ps_fld (pv 0) (pe_callTy (r := rListOf K) call_listOf (by rfl) m_list (by decide +kernel) (pa_cons (pe_call G_empty_for_none hr (by rfl) D_empty_for_none.g D_empty_for_none.F.kp D_empty_for_none.b .nil pass0 (pa_cons (pv 3) pa_nil)) pa_nil)) rfl)
      (pss_cons (ps_fld (pv 0) (pe_call G_copied_groups hr (by rfl) D_copied_groups.g D_copied_groups.F.kp D_copied_groups.b .nil pass0 (pa_cons (pe_call G_empty_for_none hr (by rfl) D_empty_for_none.g D_empty_for_none.F.kp D_empty_for_none.b .nil pass0 (pa_cons (pv 4) pa_nil)) pa_nil)) rfl)
      (pss_cons (ps_fld (pv 0) (pe_callTy (r := rListOf K) call_listOf (by rfl) m_list (by decide +kernel) (pa_cons (pe_call G_empty_for_none hr (by rfl) D_empty_for_none.g D_empty_for_none.F.kp D_empty_for_none.b .nil pass0 (pa_cons (pv 5) pa_nil)) pa_nil)) rfl)
      (pss_one (ps_fld (pv 0) (pv 6) rfl)))))))))))), ?_⟩
    have I1 := fun {Hx} (sx : Same H Hx) => fun {m} => Wf.ol (m := m) (g := fun H => isC H CO) w1' sx (fun x wx => (wx.at_ sx).2.2 CO)
    have I2 := fun {Hx} (sx : Same H Hx) => fun {m} => Wf.ol (m := m) (g := fun H => isC H CP) w2' sx (fun x wx => (wx.at_ sx).2.2 CP)
    have I3 := fun {Hx} (sx : Same H Hx) => fun {m} => Wf.ol (m := m) (g := grp) w3' sx (fun x wx => wx.grp sx)
    have I4 := fun {Hx} (sx : Same H Hx) => fun {m} => Wf.ol (m := m) (g := fun H => isC H CC) w4' sx (fun x wx => (wx.at_ sx).2.2 CC)
    refine chk_of rfl t0 (fun b0 H1 s1 => ?_) (fun b0 H1 s1 => ?_)
    · skip
      have e : wrongC CO CP CC H v0 v1 v2 v3 v4 v5 = Str.ofString "name" := by unfold wrongC; rw [if_pos b0]
      rw [e] at qbad
      exact ⟨by show 1 ≤ 1000; decide, fun a na => err_out (x := x) (fun H' d sm nd ed => qbad (lit_ne (by decide +kernel)) H' d (s1.trans sm) (s1.free nd) ed) a na⟩
    refine chk_in rfl (w1'.same s1) (fun b1 H2 s2 => ?_) (fun b1 H2 s2 => ?_)
    · rw [I1 s1] at b1
      have e : wrongC CO CP CC H v0 v1 v2 v3 v4 v5 = Str.ofString "options" := by unfold wrongC; rw [if_neg (by rw [b0]; decide), if_pos b1]
      rw [e] at qbad
      exact ⟨by show 1 ≤ 1000; decide, fun a na => err_out (x := x) (fun H' d sm nd ed => qbad (lit_ne (by decide +kernel)) H' d ((s1.trans s2).trans sm) ((s1.trans s2).free nd) ed) a na⟩
    rw [I1 s1] at b1
    refine chk_in rfl (w2'.same (s1.trans s2)) (fun b2 H3 s3 => ?_) (fun b2 H3 s3 => ?_)
    · rw [I2 (s1.trans s2)] at b2
      have e : wrongC CO CP CC H v0 v1 v2 v3 v4 v5 = Str.ofString "places" := by unfold wrongC; rw [if_neg (by rw [b0]; decide), if_neg (by rw [b1]; decide), if_pos b2]
      rw [e] at qbad
      exact ⟨by show 1 ≤ 1000; decide, fun a na => err_out (x := x) (fun H' d sm nd ed => qbad (lit_ne (by decide +kernel)) H' d (((s1.trans s2).trans s3).trans sm) (((s1.trans s2).trans s3).free nd) ed) a na⟩
    rw [I2 (s1.trans s2)] at b2
    refine chk_in rfl (w3'.same ((s1.trans s2).trans s3)) (fun b3 H4 s4 => ?_) (fun b3 H4 s4 => ?_)
    · rw [I3 ((s1.trans s2).trans s3)] at b3
      have e : wrongC CO CP CC H v0 v1 v2 v3 v4 v5 = Str.ofString "groups" := by unfold wrongC; rw [if_neg (by rw [b0]; decide), if_neg (by rw [b1]; decide), if_neg (by rw [b2]; decide), if_pos b3]
      rw [e] at qbad
      exact ⟨by show 1 ≤ 1000; decide, fun a na => err_out (x := x) (fun H' d sm nd ed => qbad (lit_ne (by decide +kernel)) H' d ((((s1.trans s2).trans s3).trans s4).trans sm) ((((s1.trans s2).trans s3).trans s4).free nd) ed) a na⟩
    rw [I3 ((s1.trans s2).trans s3)] at b3
    refine chk_in rfl (w4'.same (((s1.trans s2).trans s3).trans s4)) (fun b4 H5 s5 => ?_) (fun b4 H5 s5 => ?_)
    · rw [I4 (((s1.trans s2).trans s3).trans s4)] at b4
      have e : wrongC CO CP CC H v0 v1 v2 v3 v4 v5 = Str.ofString "commands" := by unfold wrongC; rw [if_neg (by rw [b0]; decide), if_neg (by rw [b1]; decide), if_neg (by rw [b2]; decide), if_neg (by rw [b3]; decide), if_pos b4]
      rw [e] at qbad
      exact ⟨by show 1 ≤ 1000; decide, fun a na => err_out (x := x) (fun H' d sm nd ed => qbad (lit_ne (by decide +kernel)) H' d (((((s1.trans s2).trans s3).trans s4).trans s5).trans sm) (((((s1.trans s2).trans s3).trans s4).trans s5).free nd) ed) a na⟩
    rw [I4 (((s1.trans s2).trans s3).trans s4)] at b4
    refine chk_of rfl (t5.same ((((s1.trans s2).trans s3).trans s4).trans s5)) (fun b5 H6 s6 => ?_) (fun b5 H6 s6 => ?_)
    · skip
      have e : wrongC CO CP CC H v0 v1 v2 v3 v4 v5 = Str.ofString "about" := by unfold wrongC; rw [if_neg (by rw [b0]; decide), if_neg (by rw [b1]; decide), if_neg (by rw [b2]; decide), if_neg (by rw [b3]; decide), if_neg (by rw [b4]; decide), if_pos b5]
      rw [e] at qbad
      exact ⟨by show 1 ≤ 1000; decide, fun a na => err_out (x := x) (fun H' d sm nd ed => qbad (lit_ne (by decide +kernel)) H' d ((((((s1.trans s2).trans s3).trans s4).trans s5).trans s6).trans sm) ((((((s1.trans s2).trans s3).trans s4).trans s5).trans s6).free nd) ed) a na⟩
    have e : wrongC CO CP CC H v0 v1 v2 v3 v4 v5 = Str.ofString "" := by unfold wrongC; rw [if_neg (by rw [b0]; decide), if_neg (by rw [b1]; decide), if_neg (by rw [b2]; decide), if_neg (by rw [b3]; decide), if_neg (by rw [b4]; decide), if_neg (by rw [b5]; decide)]
    have S6 : Same H H6 := ((((s1.trans s2).trans s3).trans s4).trans s5).trans s6
    have ex6 := S6 _ _ ex
    have L1 := (lv_of w1' b1).same S6
    have L2 := (lv_of w2' b2).same S6
    have L3 := (lv_of w3' b3).same S6
    have L4 := (lv_of w4' b4).same S6
    have G3 := grp_items w3' b3
    refine fld_var rfl rfl ex6 T.cl T.n0 (by decide) ?_
    rw [show putF (Str.ofString "own_name") v0 [] = [(Str.ofString "own_name", v0)] from rfl]
    have B7 : But x H (upd H6 x (.ins CC dx [(Str.ofString "own_name", v0)])) := fun b ob nb eb => by rw [upd_ne nb]; exact S6 _ _ eb
    have C7 : But x H6 (upd H6 x (.ins CC dx [(Str.ofString "own_name", v0)])) := But.upd _ _ _
    have ex7 : (upd H6 x (.ins CC dx [(Str.ofString "own_name", v0)])) x = some (.ins CC dx [(Str.ofString "own_name", v0)]) := upd_same
    revert B7 C7 ex7
    generalize upd H6 x (.ins CC dx [(Str.ofString "own_name", v0)]) = H7
    intro B7 C7 ex7
    refine fld_list rfl rfl (L1.but C7 ex6) ex7 T.cl T.n1 (by show 1 < 1000; decide) (fun H8 lo s8 n8 e8 => ?_)
    have no : H lo = none := but_none B7 ex7 n8
    have nxo : lo ≠ x := fun z => by rw [z, ex7] at n8; cases n8
    rw [putF_new (fs := [(Str.ofString "own_name", v0)]) (by show Str.ofString "own_options" ∉ [Str.ofString "own_name"]; decide +kernel)]
    simp only [List.cons_append, List.nil_append]
    have B9 : But x H (upd H8 x (.ins CC dx [(Str.ofString "own_name", v0), (Str.ofString "own_options", .ref lo)])) := fun b ob nb eb => by rw [upd_ne nb]; exact s8 _ _ (B7 b ob nb eb)
    have C9 : But x H8 (upd H8 x (.ins CC dx [(Str.ofString "own_name", v0), (Str.ofString "own_options", .ref lo)])) := But.upd _ _ _
    have ex9 : (upd H8 x (.ins CC dx [(Str.ofString "own_name", v0), (Str.ofString "own_options", .ref lo)])) x = some (.ins CC dx [(Str.ofString "own_name", v0), (Str.ofString "own_options", .ref lo)]) := upd_same
    revert B9 C9 ex9
    generalize upd H8 x (.ins CC dx [(Str.ofString "own_name", v0), (Str.ofString "own_options", .ref lo)]) = H9
    intro B9 C9 ex9
    have eo9 := C9 _ _ nxo e8
    have D9 : But x H6 H9 := fun b ob nb eb => C9 _ _ nb (s8 _ _ (C7 _ _ nb eb))
    refine fld_list rfl rfl (L2.but D9 ex6) ex9 T.cl T.n2 (by show 2 < 1000; decide) (fun H10 lp s10 n10 e10 => ?_)
    have np : H lp = none := but_none B9 ex9 n10
    have nxp : lp ≠ x := fun z => by rw [z, ex9] at n10; cases n10
    rw [putF_new (fs := [(Str.ofString "own_name", v0), (Str.ofString "own_options", .ref lo)]) (by show Str.ofString "own_places" ∉ [Str.ofString "own_name", Str.ofString "own_options"]; decide +kernel)]
    simp only [List.cons_append, List.nil_append]
    have B11 : But x H (upd H10 x (.ins CC dx [(Str.ofString "own_name", v0), (Str.ofString "own_options", .ref lo), (Str.ofString "own_places", .ref lp)])) := fun b ob nb eb => by rw [upd_ne nb]; exact s10 _ _ (B9 b ob nb eb)
    have C11 : But x H10 (upd H10 x (.ins CC dx [(Str.ofString "own_name", v0), (Str.ofString "own_options", .ref lo), (Str.ofString "own_places", .ref lp)])) := But.upd _ _ _
    have ex11 : (upd H10 x (.ins CC dx [(Str.ofString "own_name", v0), (Str.ofString "own_options", .ref lo), (Str.ofString "own_places", .ref lp)])) x = some (.ins CC dx [(Str.ofString "own_name", v0), (Str.ofString "own_options", .ref lo), (Str.ofString "own_places", .ref lp)]) := upd_same
    revert B11 C11 ex11
    generalize upd H10 x (.ins CC dx [(Str.ofString "own_name", v0), (Str.ofString "own_options", .ref lo), (Str.ofString "own_places", .ref lp)]) = H11
    intro B11 C11 ex11
    have eo11 := C11 _ _ nxo (s10 _ _ eo9)
    have ep11 := C11 _ _ nxp e10
    have D11 : But x H6 H11 := fun b ob nb eb => C11 _ _ nb (s10 _ _ (D9 _ _ nb eb))
    have lis := w3'.items.1
    refine fld_cop (gss := (its H v3).map (its H)) rfl rfl (L3.but D11 ex6) (by rw [List.length_map]) lis (fun i y e => ?_) ex11 T.cl T.n3 (by show 3 < 1000; decide) (fun H12 lg s12 g12 => ?_)
    · obtain ⟨b, g, e1, e2, e3⟩ := G3 i y e
      exact ⟨b, g, e1, B11 _ _ (fun z => by rw [z, ex] at e2; cases e2) e2, e3⟩
    have g0 : GL H H12 lg ((its H v3).map (its H)) := g12.base (fun b n => but_none B11 ex11 n)
    have hx : H x ≠ none := by rw [ex]; simp
    rw [putF_new (fs := [(Str.ofString "own_name", v0), (Str.ofString "own_options", .ref lo), (Str.ofString "own_places", .ref lp)]) (by show Str.ofString "own_groups" ∉ [Str.ofString "own_name", Str.ofString "own_options", Str.ofString "own_places"]; decide +kernel)]
    simp only [List.cons_append, List.nil_append]
    have B13 : But x H (upd H12 x (.ins CC dx [(Str.ofString "own_name", v0), (Str.ofString "own_options", .ref lo), (Str.ofString "own_places", .ref lp), (Str.ofString "own_groups", .ref lg)])) := fun b ob nb eb => by rw [upd_ne nb]; exact s12 _ _ (B11 b ob nb eb)
    have C13 : But x H12 (upd H12 x (.ins CC dx [(Str.ofString "own_name", v0), (Str.ofString "own_options", .ref lo), (Str.ofString "own_places", .ref lp), (Str.ofString "own_groups", .ref lg)])) := But.upd _ _ _
    have ex13 : (upd H12 x (.ins CC dx [(Str.ofString "own_name", v0), (Str.ofString "own_options", .ref lo), (Str.ofString "own_places", .ref lp), (Str.ofString "own_groups", .ref lg)])) x = some (.ins CC dx [(Str.ofString "own_name", v0), (Str.ofString "own_options", .ref lo), (Str.ofString "own_places", .ref lp), (Str.ofString "own_groups", .ref lg)]) := upd_same
    revert B13 C13 ex13
    generalize upd H12 x (.ins CC dx [(Str.ofString "own_name", v0), (Str.ofString "own_options", .ref lo), (Str.ofString "own_places", .ref lp), (Str.ofString "own_groups", .ref lg)]) = H13
    intro B13 C13 ex13
    have eo13 := C13 _ _ nxo (s12 _ _ eo11)
    have ep13 := C13 _ _ nxp (s12 _ _ ep11)
    have g13 := g0.but C13 hx
    have D13 : But x H6 H13 := fun b ob nb eb => C13 _ _ nb (s12 _ _ (D11 _ _ nb eb))
    refine fld_list rfl rfl (L4.but D13 ex6) ex13 T.cl T.n4 (by show 4 < 1000; decide) (fun H14 lc s14 n14 e14 => ?_)
    have nc : H lc = none := but_none B13 ex13 n14
    have nxc : lc ≠ x := fun z => by rw [z, ex13] at n14; cases n14
    have g14 : GL H H14 lg ((its H v3).map (its H)) := g13.but (x := x) (fun b ob _ e => s14 _ _ e) hx
    rw [putF_new (fs := [(Str.ofString "own_name", v0), (Str.ofString "own_options", .ref lo), (Str.ofString "own_places", .ref lp), (Str.ofString "own_groups", .ref lg)]) (by show Str.ofString "own_commands" ∉ [Str.ofString "own_name", Str.ofString "own_options", Str.ofString "own_places", Str.ofString "own_groups"]; decide +kernel)]
    simp only [List.cons_append, List.nil_append]
    have B15 : But x H (upd H14 x (.ins CC dx [(Str.ofString "own_name", v0), (Str.ofString "own_options", .ref lo), (Str.ofString "own_places", .ref lp), (Str.ofString "own_groups", .ref lg), (Str.ofString "own_commands", .ref lc)])) := fun b ob nb eb => by rw [upd_ne nb]; exact s14 _ _ (B13 b ob nb eb)
    have C15 : But x H14 (upd H14 x (.ins CC dx [(Str.ofString "own_name", v0), (Str.ofString "own_options", .ref lo), (Str.ofString "own_places", .ref lp), (Str.ofString "own_groups", .ref lg), (Str.ofString "own_commands", .ref lc)])) := But.upd _ _ _
    have ex15 : (upd H14 x (.ins CC dx [(Str.ofString "own_name", v0), (Str.ofString "own_options", .ref lo), (Str.ofString "own_places", .ref lp), (Str.ofString "own_groups", .ref lg), (Str.ofString "own_commands", .ref lc)])) x = some (.ins CC dx [(Str.ofString "own_name", v0), (Str.ofString "own_options", .ref lo), (Str.ofString "own_places", .ref lp), (Str.ofString "own_groups", .ref lg), (Str.ofString "own_commands", .ref lc)]) := upd_same
    revert B15 C15 ex15
    generalize upd H14 x (.ins CC dx [(Str.ofString "own_name", v0), (Str.ofString "own_options", .ref lo), (Str.ofString "own_places", .ref lp), (Str.ofString "own_groups", .ref lg), (Str.ofString "own_commands", .ref lc)]) = H15
    intro B15 C15 ex15
    have eo15 := C15 _ _ nxo (s14 _ _ eo13)
    have ep15 := C15 _ _ nxp (s14 _ _ ep13)
    have g15 := g14.but C15 hx
    have ec15 := C15 _ _ nxc e14
    refine ⟨v5, rfl, .ref x, rfl, x, CC, dx, _, rfl, ex15, T.cl, T.n5, by show 5 < 1000; decide, ?_⟩
    rw [putF_new (fs := [(Str.ofString "own_name", v0), (Str.ofString "own_options", .ref lo), (Str.ofString "own_places", .ref lp), (Str.ofString "own_groups", .ref lg), (Str.ofString "own_commands", .ref lc)]) (by show Str.ofString "own_about" ∉ [Str.ofString "own_name", Str.ofString "own_options", Str.ofString "own_places", Str.ofString "own_groups", Str.ofString "own_commands"]; decide +kernel)]
    simp only [List.cons_append, List.nil_append]
    have B16 : But x H (upd H15 x (.ins CC dx [(Str.ofString "own_name", v0), (Str.ofString "own_options", .ref lo), (Str.ofString "own_places", .ref lp), (Str.ofString "own_groups", .ref lg), (Str.ofString "own_commands", .ref lc), (Str.ofString "own_about", v5)])) := fun b ob nb eb => by rw [upd_ne nb]; exact B15 b ob nb eb
    have C16 : But x H15 (upd H15 x (.ins CC dx [(Str.ofString "own_name", v0), (Str.ofString "own_options", .ref lo), (Str.ofString "own_places", .ref lp), (Str.ofString "own_groups", .ref lg), (Str.ofString "own_commands", .ref lc), (Str.ofString "own_about", v5)])) := But.upd _ _ _
    have ex16 : (upd H15 x (.ins CC dx [(Str.ofString "own_name", v0), (Str.ofString "own_options", .ref lo), (Str.ofString "own_places", .ref lp), (Str.ofString "own_groups", .ref lg), (Str.ofString "own_commands", .ref lc), (Str.ofString "own_about", v5)])) x = some (.ins CC dx [(Str.ofString "own_name", v0), (Str.ofString "own_options", .ref lo), (Str.ofString "own_places", .ref lp), (Str.ofString "own_groups", .ref lg), (Str.ofString "own_commands", .ref lc), (Str.ofString "own_about", v5)]) := upd_same
    revert B16 C16 ex16
    generalize upd H15 x (.ins CC dx [(Str.ofString "own_name", v0), (Str.ofString "own_options", .ref lo), (Str.ofString "own_places", .ref lp), (Str.ofString "own_groups", .ref lg), (Str.ofString "own_commands", .ref lc), (Str.ofString "own_about", v5)]) = H16
    intro B16 C16 ex16
    exact qok e H16 B16 ⟨dx, lo, lp, lg, lc, ex16, ⟨no, C16 _ _ nxo eo15⟩, ⟨np, C16 _ _ nxp ep15⟩, g15.but C16 hx, ⟨nc, C16 _ _ nxc ec15⟩⟩
end
end WB

set_option Elab.async false
set_option linter.all false
set_option maxRecDepth 100000
set_option maxHeartbeats 4000000
namespace WB
open PySem PySem.Spec PyProof.Rows L2 WG
open TL (tl)
abbrev st_kinds : Stmt := topS 57
theorem sc_kinds : FnScope ["_law_e", "_law_found", "_law_words", "_law_word", "_law_told"] ["_law_e"] (defScope st_kinds) := ⟨rfl, rfl, rfl, by decide +kernel, rfl, by decide +kernel, by decide +kernel⟩
/-- a comprehension over zip of two lists of one length -/
theorem lc_zip {K : PySem.W.Frag} {a b : Addr} {xs ys : List V} {g : TG} {tt : TT} {te : TE} {vs : List Nat} {σ : L2.St} {H1 : Hp} {D : Addr} {Qd : Hp → Prop} (same : xs.length = ys.length) (Pv : Nat → Hp → Prop) (h0 : Pv 0 (upd H1 D (.lst []))) (hl : ∀ i H, Pv i H → SqL K H a xs ∧ SqL K H b ys)
    (hs : ∀ (i : Nat) (x y : V) (T : Addr) (H : Hp), xs[i]? = some x → ys[i]? = some y → Pv i H → H T = none → g (.ref T) (wipe σ vs) (upd H T (.tup [x, y])) fun σ2 H2 => wipe σ2 vs = wipe σ vs ∧ tt σ2 H2 fun b H3 =>
      if b = true then te σ2 H3 fun y H4 => ∃ acc, H4 D = some (.lst acc) ∧ acc.length < sizeLine ∧ Pv (i + 1) (upd H4 D (.lst (acc ++ [y]))) else Pv (i + 1) H3) (hd : ∀ H, Pv xs.length H → Qd H) :
    ∃ W : Nat → Nat → Hp → Prop, (∃ m, W 0 m (upd H1 D (.lst []))) ∧ ∀ i m H, W i m H →
      ((Itz K a b).stop i H ∧ Qd H) ∨ ((Itz K a b).go i H ∧ ∃ Nx : Hp → Prop, (∀ H', Nx H' → ∃ m', m' < m ∧ W (i + 1) m' H') ∧ ∀ x H', (Itz K a b).yld i H x H' → g x (wipe σ vs) H' fun σ2 H2 => wipe σ2 vs = wipe σ vs ∧ tt σ2 H2 fun b H3 =>
        if b = true then te σ2 H3 fun y H4 => ∃ acc, H4 D = some (.lst acc) ∧ acc.length < sizeLine ∧ Nx (upd H4 D (.lst (acc ++ [y]))) else Nx H3) := by
  refine ⟨fun i m H => m = xs.length - i ∧ i ≤ xs.length ∧ Pv i H, ⟨xs.length, rfl, Nat.zero_le _, h0⟩, ?_⟩
  rintro i m H ⟨rfl, hi, p⟩
  obtain ⟨qx, qy⟩ := hl i H p
  by_cases hlt : i < xs.length
  · have hx : xs[i]? = some xs[i] := List.getElem?_eq_getElem hlt
    have hlt2 : i < ys.length := by omega
    have hy : ys[i]? = some ys[i] := List.getElem?_eq_getElem hlt2
    refine .inr ⟨⟨xs, ys, _, _, qx, qy, hx, hy⟩, Pv (i + 1), fun H' p' => ⟨xs.length - (i + 1), by omega, rfl, hlt, p'⟩, fun v H' yl => ?_⟩
    obtain ⟨T, x', y', ev, nT, eH, f1, f2⟩ := yl
    subst ev eH
    exact hs i x' y' T H (f1 xs qx) (f2 ys qy) p nT
  · have e : i = xs.length := by omega
    subst e
    exact .inl ⟨⟨xs, ys, qx, qy, .inl (Nat.le_refl _)⟩, hd H p⟩
/-- the ten kinds of errors, as the law calls them -/
def kwords : List Str := [Str.ofString "option", Str.ofString "place", Str.ofString "command", Str.ofString "clash", Str.ofString "row", Str.ofString "name", Str.ofString "maker", Str.ofString "default", Str.ofString "fault", Str.ofString "unmade"]
def kword (i : Nat) : Str := kwords.getD i (Str.ofString "")
/-- the error class D is the one at place i, and straight under ValueError -/
structure KindsAt (K : PySem.W.Frag) (Cs : List Addr) (i : Nat) (D : Addr) : Prop where
  x : ExcC K D
  one : ∀ (j : Nat) (C : Addr), Cs[j]? = some C → PySem.W.kitOne K (.ref D) (.ref C) = some (decide (j = i))
  ve : PySem.W.kitOne K (.ref D) (.type "ValueError") = some true
/-- what is told of place i up to j -/
def upto (i j : Nat) : List V := if i < j then [.str (kword i)] else []
theorem go {R : Hp → Prop} {H : Hp} {a : Addr} {o : HO} (n : H a = none) (h : ∀ H', Same H H' → H' a = some o → R H') : R (upd H a o) := h _ (same_upd n) upd_same
theorem none_back {H H' : Hp} {a : Addr} (s : Same H H') (n : H' a = none) : H a = none := by
  cases e : H a with
  | none => rfl
  | some o =>
    rw [s _ _ e] at n
    cases n
def told10 (i : Nat) : List V := (List.range 10).map fun j => V.bl (decide (j = i))
theorem kw_at {j : Nat} {x : V} (h : (kwords.map V.str)[j]? = some x) : x = .str (kword j) ∧ j < 10 := by
  rw [List.getElem?_map] at h
  cases e : kwords[j]? with
  | none =>
    rw [e] at h
    cases h
  | some z =>
    rw [e] at h
    cases h
    have lj : j < kwords.length := (List.getElem?_eq_some_iff.mp e).1
    refine ⟨?_, lj⟩
    unfold kword
    rw [List.getD_eq_getElem?_getD, e]
    rfl
theorem told_at {i j : Nat} {y : V} (h : (told10 i)[j]? = some y) : y = .bl (decide (j = i)) := by
  unfold told10 at h
  rw [List.getElem?_map] at h
  cases e : (List.range 10)[j]? with
  | none =>
    rw [e] at h
    cases h
  | some z =>
    rw [e] at h
    cases h
    obtain ⟨_, e2⟩ := List.getElem?_eq_some_iff.mp e
    rw [List.getElem_range] at e2
    rw [e2]
section
variable {P : Program} {w : World} {K : PySem.W.Frag} {mg : Str → Option Value} {base : Heap}
def spKinds (d : Addr) (i : Nat) : Addr → Sp := fun a vs H Q _ => ∃ fs, vs = [.ref a] ∧ H d = some (.xd fs) ∧ ∀ H' l, Same H H' → H l = none → H' l = some (.lst [.str (kword i)]) → Q (.ref l) H'
theorem ok_kinds {C0 C1 C2 C3 C4 C5 C6 C7 C8 C9 D d : Addr} {i : Nat} {f : Addr} {fd : FuncData} {k : Nat} (F : Fun K "_law_kinds" "_law_kinds" st_kinds f fd) (hi : i < 10) (kd : KindsAt K [C0, C1, C2, C3, C4, C5, C6, C7, C8, C9] i D)
    (g0 : mg "NoOption" = some (.ref C0)) (g1 : mg "NoPlace" = some (.ref C1)) (g2 : mg "NoCommand" = some (.ref C2)) (g3 : mg "Clash" = some (.ref C3)) (g4 : mg "NoRow" = some (.ref C4)) (g5 : mg "NoName" = some (.ref C5)) (g6 : mg "NoMaker" = some (.ref C6)) (g7 : mg "BadDefault" = some (.ref C7)) (g8 : mg "Fault" = some (.ref C8)) (g9 : mg "Unmade" = some (.ref C9))
    (m_isinstance : mg "isinstance" = none) (m_zip : mg "zip" = none) (m_int : mg "int" = none) (m_ValueError : mg "ValueError" = none) :
    FnQ P w K mg base (k + 1) f fd ["_law_e"] (ZIs D (some d)) (spKinds d i) := by
  refine fnQ_of F sc_kinds (fun a vs H Q E h => ?_) (fun cdv A outer s H vs Q E p hz hot hr h => ?_)
  · obtain ⟨fs, rfl, _⟩ := h
    rfl
  · obtain ⟨fs, rfl, ed, q⟩ := h
    refine ⟨_, pss_cons (ps_set (i := 1) sc_kinds.nd rfl (.inl rfl) (pe_lst (pa_cons (pe_callB (r := rIsQ K D (some d) p.1) (call_isQ hz) (by rfl) m_isinstance (by decide +kernel) (pa_cons (pv 0) (pa_cons (pe_glob (v := .ref C0) rfl g0 rfl) pa_nil))) (pa_cons (pe_callB (r := rIsQ K D (some d) p.1) (call_isQ hz) (by rfl) m_isinstance (by decide +kernel) (pa_cons (pv 0) (pa_cons (pe_glob (v := .ref C1) rfl g1 rfl) pa_nil))) (pa_cons (pe_callB (r := rIsQ K D (some d) p.1) (call_isQ hz) (by rfl) m_isinstance (by decide +kernel) (pa_cons (pv 0) (pa_cons (pe_glob (v := .ref C2) rfl g2 rfl) pa_nil))) (pa_cons (pe_callB (r := rIsQ K D (some d) p.1) (call_isQ hz) (by rfl) m_isinstance (by decide +kernel) (pa_cons (pv 0) (pa_cons (pe_glob (v := .ref C3) rfl g3 rfl) pa_nil))) pa_nil))))))
      (pss_cons (ps_set (i := 1) sc_kinds.nd rfl (.inl rfl) (pe_op op_cat (pv 1) (pe_lst (pa_cons (pe_callB (r := rIsQ K D (some d) p.1) (call_isQ hz) (by rfl) m_isinstance (by decide +kernel) (pa_cons (pv 0) (pa_cons (pe_glob (v := .ref C4) rfl g4 rfl) pa_nil))) (pa_cons (pe_callB (r := rIsQ K D (some d) p.1) (call_isQ hz) (by rfl) m_isinstance (by decide +kernel) (pa_cons (pv 0) (pa_cons (pe_glob (v := .ref C5) rfl g5 rfl) pa_nil))) (pa_cons (pe_callB (r := rIsQ K D (some d) p.1) (call_isQ hz) (by rfl) m_isinstance (by decide +kernel) (pa_cons (pv 0) (pa_cons (pe_glob (v := .ref C6) rfl g6 rfl) pa_nil))) (pa_cons (pe_callB (r := rIsQ K D (some d) p.1) (call_isQ hz) (by rfl) m_isinstance (by decide +kernel) (pa_cons (pv 0) (pa_cons (pe_glob (v := .ref C7) rfl g7 rfl) pa_nil))) pa_nil)))))))
      (pss_cons (ps_set (i := 1) sc_kinds.nd rfl (.inl rfl) (pe_op op_cat (pv 1) (pe_lst (pa_cons (pe_callB (r := rIsQ K D (some d) p.1) (call_isQ hz) (by rfl) m_isinstance (by decide +kernel) (pa_cons (pv 0) (pa_cons (pe_glob (v := .ref C8) rfl g8 rfl) pa_nil))) (pa_cons (pe_callB (r := rIsQ K D (some d) p.1) (call_isQ hz) (by rfl) m_isinstance (by decide +kernel) (pa_cons (pv 0) (pa_cons (pe_glob (v := .ref C9) rfl g9 rfl) pa_nil))) pa_nil)))))
      (pss_cons (ps_set (i := 2) sc_kinds.nd rfl (.inl rfl) (pe_lst (pa_cons pe_str (pa_cons pe_str (pa_cons pe_str (pa_cons pe_str (pa_cons pe_str (pa_cons pe_str (pa_cons pe_str (pa_cons pe_str (pa_cons pe_str (pa_cons pe_str pa_nil))))))))))))
      (pss_one (ps_ret (pe_op op_cat (L2H.pe_lcH (pe0 := p) (own := [("_law_word", 3), ("_law_told", 4)]) (g := gTup K 2 (gCons (gName 3) (gCons (gName 4) gNil))) (tt := tB (tVar 4)) (te := tVar 3) ⟨hot.1, hot.2⟩ (List.mem_singleton.mpr rfl) sc_kinds.nd (L2H.pi_zipH (by rfl) m_zip (pa_cons (pv 2) (pa_cons (pv 1) pa_nil))) (blkOk_by (N := ["_law_e", "_law_found", "_law_words", "_law_word", "_law_told"]) (sc := defScope st_kinds) (by decide +kernel)) (fun _ _ _ _ _ => (L2H.pg_tupH ⟨p, ⟨hot.1, hot.2⟩, List.mem_singleton.mpr rfl⟩ (pgs_cons (pg_name (i := 3) sc_kinds.nd rfl (Or.inl rfl)) (pgs_cons (pg_name (i := 4) sc_kinds.nd rfl (Or.inl rfl)) pgs_nil)))) (fun _ _ _ _ _ => pts_one (pt_val (pv 4))) (fun _ _ _ _ _ => (pv 3))) (pe_op op_rep (pe_lst (pa_cons pe_str pa_nil)) (pe_callTy call_int1 (by rfl) m_int (by decide +kernel) (pa_cons (pe_not (pe_callB (r := rIsQ K D (some d) p.1) (call_isQ hz) (by rfl) m_isinstance (by decide +kernel) (pa_cons (pv 0) (pa_cons (pe_bltn (v := .ty "ValueError") (by rfl) m_ValueError (by decide +kernel) rfl) pa_nil)))) pa_nil))))))))), ?_⟩
    have small : ∀ {n : Nat}, n ≤ 20 → n ≤ sizeLine := fun {n} hn => by
      have sz : sizeLine = 16777216 := sizeLine_eq
      omega
    refine ⟨.ref p.1, rfl, .ref C0, .ref C0, _, rfl, fun u hu => hu, kd.x, ⟨fs, ed⟩, kd.one 0 C0 rfl,
      .ref p.1, rfl, .ref C1, .ref C1, _, rfl, fun u hu => hu, kd.x, ⟨fs, ed⟩, kd.one 1 C1 rfl,
      .ref p.1, rfl, .ref C2, .ref C2, _, rfl, fun u hu => hu, kd.x, ⟨fs, ed⟩, kd.one 2 C2 rfl,
      .ref p.1, rfl, .ref C3, .ref C3, _, rfl, fun u hu => hu, kd.x, ⟨fs, ed⟩, kd.one 3 C3 rfl, small (by show 4 ≤ 20; decide), fun l1 n1 => go n1 fun H1 s1 e1 => ?_⟩
    have ed1 := s1 _ _ ed
    refine ⟨.ref l1, rfl, .ref p.1, rfl, .ref C4, .ref C4, _, rfl, fun u hu => hu, kd.x, ⟨fs, ed1⟩, kd.one 4 C4 rfl,
      .ref p.1, rfl, .ref C5, .ref C5, _, rfl, fun u hu => hu, kd.x, ⟨fs, ed1⟩, kd.one 5 C5 rfl,
      .ref p.1, rfl, .ref C6, .ref C6, _, rfl, fun u hu => hu, kd.x, ⟨fs, ed1⟩, kd.one 6 C6 rfl,
      .ref p.1, rfl, .ref C7, .ref C7, _, rfl, fun u hu => hu, kd.x, ⟨fs, ed1⟩, kd.one 7 C7 rfl, small (by show 4 ≤ 20; decide), fun l2 n2 => go (R := fun G => rCat (.ref l1) (.ref l2) G _) n2 fun H2 s2 e2 => ⟨l1, l2, _, _, rfl, rfl, s2 _ _ e1, e2, small (by show 8 ≤ 20; decide), fun l3 n3 => go n3 fun H3 s3 e3 => ?_⟩⟩
    have ed3 := s3 _ _ (s2 _ _ ed1)
    refine ⟨.ref l3, rfl, .ref p.1, rfl, .ref C8, .ref C8, _, rfl, fun u hu => hu, kd.x, ⟨fs, ed3⟩, kd.one 8 C8 rfl,
      .ref p.1, rfl, .ref C9, .ref C9, _, rfl, fun u hu => hu, kd.x, ⟨fs, ed3⟩, kd.one 9 C9 rfl, small (by show 2 ≤ 20; decide), fun l4 n4 => go (R := fun G => rCat (.ref l3) (.ref l4) G _) n4 fun H4 s4 e4 => ⟨l3, l4, _, _, rfl, rfl, s4 _ _ e3, e4, small (by show 10 ≤ 20; decide), fun l5 n5 => go n5 fun H5 s5 e5 => ?_⟩⟩
    have ed5 := s5 _ _ (s4 _ _ ed3)
    have s05 : Same H H5 := s1.trans (s2.trans (s3.trans (s4.trans s5)))
    refine ⟨small (by show 10 ≤ 20; decide), fun l6 n6 => go n6 fun H6 s6 e6 => ?_⟩
    have e6' : H6 l6 = some (.lst (kwords.map V.str)) := e6
    have e5' : H6 l5 = some (.lst (told10 i)) := s6 _ _ e5
    have ed6 := s6 _ _ ed5
    have s06 : Same H H6 := s05.trans s6
    clear e1 e2 e3 e4 e5 e6 ed1 ed3 ed5 s1 s2 s3 s4 s5 s6
    refine ⟨.ref l6, rfl, .ref l5, rfl, l6, l5, _, _, rfl, SqL.of e6', SqL.of e5', fun D0 nD => ?_⟩
    refine lc_zip (by simp [kwords, told10]) (fun j G => Same H6 G ∧ G D0 = some (.lst (upto i j))) ⟨same_upd nD, upd_same⟩ (fun j G pv => ⟨SqL.of (pv.1 _ _ e6'), SqL.of (pv.1 _ _ e5')⟩) (fun j x y T G hx hy pv nT => ?_) (fun G pv => ?_)
    · obtain ⟨ex, lj⟩ := kw_at hx
      have ey := told_at hy
      subst ex ey
      have nTD : D0 ≠ T := ne_of_none pv.2 nT
      refine ⟨T, [.str (kword j), .bl (decide (j = i))], rfl, SqT.of upd_same, rfl, .str (kword j), [.bl (decide (j = i))], rfl, .bl (decide (j = i)), [], rfl, rfl, rfl, _, rfl, ?_⟩
      refine ⟨_, rfl, ?_⟩
      by_cases e : j = i
      · dsimp only
        rw [if_pos (decide_eq_true e)]
        refine ⟨.str (kword j), rfl, upto i j, by rw [upd_ne nTD]; exact pv.2, ?_, fun b o eb => ?_, ?_⟩
        · unfold upto
          rw [if_neg (by omega)]
          show 0 < sizeLine
          decide
        · have nbD : b ≠ D0 := fun z => by
            rw [z, nD] at eb
            cases eb
          rw [upd_ne nbD, upd_ne (ne_of_none (pv.1 _ _ eb) nT)]
          exact pv.1 _ _ eb
        · rw [upd_same]
          unfold upto
          rw [if_neg (by omega), if_pos (by omega), e]
          rfl
      · dsimp only
        rw [if_neg (by rw [decide_eq_false e]; decide)]
        refine ⟨fun b o eb => ?_, ?_⟩
        · rw [upd_ne (ne_of_none (pv.1 _ _ eb) nT)]
          exact pv.1 _ _ eb
        · rw [upd_ne nTD, pv.2]
          unfold upto
          by_cases a : i < j
          · rw [if_pos a, if_pos (by omega)]
          · rw [if_neg a, if_neg (by omega)]
    · have edG := pv.1 _ _ ed6
      have eD : G D0 = some (.lst [.str (kword i)]) := by
        have z := pv.2
        unfold upto at z
        rw [if_pos (by show i < 10; exact hi)] at z
        exact z
      refine ⟨small (by show 1 ≤ 20; decide), fun l7 n7 => ?_⟩
      have s7 := same_upd (o := HO.lst [V.str (Str.ofString "no value")]) n7
      have e7 : (upd G l7 (HO.lst [V.str (Str.ofString "no value")])) l7 = _ := upd_same
      revert s7 e7
      generalize upd G l7 (HO.lst [V.str (Str.ofString "no value")]) = H7
      intro s7 e7
      have ed7 := s7 _ _ edG
      refine ⟨.ref p.1, rfl, .ty "ValueError", .type "ValueError", true, rfl, fun u hu => hu, kd.x, ⟨fs, ed7⟩, kd.ve, true, rfl, .inr ⟨false, rfl, l7, 0, _, rfl, rfl, e7, by decide, by decide, small (by show 0 ≤ 20; decide), fun l8 n8 => ?_⟩⟩
      refine go (R := fun G8 => rCat (.ref D0) (.ref l8) G8 _) n8 fun H8 s8 e8 => ⟨D0, l8, _, _, rfl, rfl, s8 _ _ (s7 _ _ eD), e8, small (by show 1 ≤ 20; decide), fun l9 n9 => ?_⟩
      refine q _ l9 (fun b o eb => ?_) ?_ upd_same
      · rw [upd_ne (ne_of_none (s8 _ _ (s7 _ _ (pv.1 _ _ (s06 _ _ eb)))) n9)]
        exact s8 _ _ (s7 _ _ (pv.1 _ _ (s06 _ _ eb)))
      · exact none_back ((s06.trans pv.1).trans (s7.trans s8)) n9
end
end WB

set_option Elab.async false
set_option linter.all false
set_option maxRecDepth 100000
set_option maxHeartbeats 4000000
namespace WB
open PySem PySem.Spec PyProof.Rows L2 WG
open TL (tl)
abbrev st_called : Stmt := topS 58
theorem sc_called : FnScope ["_law_way", "_law_thing"] ["_law_way", "_law_thing"] (defScope st_called) := ⟨rfl, rfl, rfl, by decide +kernel, rfl, by decide +kernel, by decide +kernel⟩
abbrev optPs : List Str := ["self", "long", "short", "takes", "maker", "default", "needed", "off", "about"]
abbrev plcPs : List Str := ["self", "name", "many", "maker", "default", "about"]
abbrev cmdPs : List Str := ["self", "name", "options", "places", "groups", "commands", "about"]
abbrev dvO : List V := [.str (Str.ofString ""), .str (Str.ofString "flag"), .str (Str.ofString "word"), .non, .bl false, .bl false, .str (Str.ofString "")]
abbrev dvP : List V := [.str (Str.ofString "one"), .str (Str.ofString "word"), .non, .str (Str.ofString "")]
abbrev dvC : List V := [.non, .non, .non, .non, .str (Str.ofString "")]
theorem tx_lit {n : Nat} (s : String) (h : ((Str.ofString s).length ≤ n ∧ ∀ c ∈ tl (Str.ofString s), c < 256)) : Tx n (Str.ofString s) := Tx.lit s n h.1 h.2
theorem thg_s {H : Hp} (s : String) (h : ((Str.ofString s).length ≤ 300 ∧ ∀ c ∈ tl (Str.ofString s), c < 256)) : Thg H (.str (Str.ofString s)) := .str (tx_lit s h)
/-- a thing of which nothing is made -/
structure Bad (Cs : List Addr) (H : Hp) (v : V) : Prop where
  th : Thg H v
  wf : Wf Cs H v
  nm : isNm v = false
  tk : among v takesL = false
  mn : among v WP.manies = false
theorem Bad.same {Cs : List Addr} {H H' : Hp} {v : V} (h : Bad Cs H v) (s : Same H H') : Bad Cs H' v := ⟨h.th.same s, h.wf.same s, h.nm, h.tk, h.mn⟩
def fieldAt (way : Int) : Str := if way = 0 then Str.ofString "long" else if way = 1 then Str.ofString "takes" else if way = 2 then Str.ofString "name" else if way = 3 then Str.ofString "many" else if way = 4 then Str.ofString "name" else Str.ofString "about"
def errAt (CNO CNP CNC : Addr) (way : Int) : Addr := if way < 2 then CNO else if way < 4 then CNP else CNC
theorem nmA : isNm (.str (Str.ofString "a")) = true := by decide +kernel
section
variable {CO CP CC CNO CNP CNC : Addr} {H : Hp} {E : XK} {Q : VK} {v : V} {x dx : Addr}
theorem made_same (C : Addr) (nx : H x = none) (ndx : H dx = none) : Same H (upd (upd H dx (.own x)) x (.ins C dx [])) := fun b o e => by
  rw [upd_ne (ne_of_none e nx), upd_ne (ne_of_none e ndx)]
  exact e
theorem bad_opt {v0 v2 : V} {w : Str} (t0 : Thg H v0) (t2 : Thg H v2) (hw : wrongF v0 (.str (Str.ofString "")) v2 (.str (Str.ofString "word")) .non (.bl false) (.bl false) (.str (Str.ofString "")) = w) (ne : w ≠ Str.ofString "")
    (he : ∀ H' d, Same H H' → H d = none → H' d = some (.xd [(("field" : Str), .str w)]) → E (.ref CNO) (some d) H') (nx : H x = none) (ndx : H dx = none) :
    spInit CO CNO [.ref x, v0, .str (Str.ofString ""), v2, .str (Str.ofString "word"), .non, .bl false, .bl false, .str (Str.ofString "")] (upd (upd H dx (.own x)) x (.ins CO dx [])) Q E := by
  have sm := made_same (H := H) (x := x) (dx := dx) CO nx ndx
  have s0 : ∀ {G : Hp}, Thg G (.str (Str.ofString "")) := thg_s "" (by decide +kernel)
  have s1 : ∀ {G : Hp}, Thg G (.str (Str.ofString "word")) := thg_s "word" (by decide +kernel)
  refine ⟨x, dx, _, _, _, _, _, _, _, _, rfl, upd_same, ⟨t0.same sm, s0, t2.same sm, s1, .non, .bl _, .bl _, s0⟩, fun z => absurd (hw.symm.trans z) ne, fun _ H' d s nd ed => ?_⟩
  rw [hw] at ed
  exact he H' d (sm.trans s) (sm.free nd) ed
theorem bad_plc {v0 v1 : V} {w : Str} (t0 : Thg H v0) (t1 : Thg H v1) (hw : WP.wrongF v0 v1 (.str (Str.ofString "word")) .non (.str (Str.ofString "")) = w) (ne : w ≠ Str.ofString "")
    (he : ∀ H' d, Same H H' → H d = none → H' d = some (.xd [(("field" : Str), .str w)]) → E (.ref CNP) (some d) H') (nx : H x = none) (ndx : H dx = none) :
    WP.spInit CP CNP [.ref x, v0, v1, .str (Str.ofString "word"), .non, .str (Str.ofString "")] (upd (upd H dx (.own x)) x (.ins CP dx [])) Q E := by
  have sm := made_same (H := H) (x := x) (dx := dx) CP nx ndx
  refine ⟨x, dx, _, _, _, _, _, rfl, upd_same, ⟨t0.same sm, t1.same sm, thg_s "word" (by decide +kernel), .non, thg_s "" (by decide +kernel)⟩, fun z => absurd (hw.symm.trans z) ne, fun _ H' d s nd ed => ?_⟩
  rw [hw] at ed
  exact he H' d (sm.trans s) (sm.free nd) ed
theorem bad_cmd {v0 v5 : V} {w : Str} (t0 : Thg H v0) (t5 : Thg H v5) (hw : ∀ G, wrongC CO CP CC G v0 .non .non .non .non v5 = w) (ne : w ≠ Str.ofString "")
    (he : ∀ H' d, Same H H' → H d = none → H' d = some (.xd [(("field" : Str), .str w)]) → E (.ref CNC) (some d) H') (nx : H x = none) (ndx : H dx = none) :
    spCInit CO CP CC CNC [.ref x, v0, .non, .non, .non, .non, v5] (upd (upd H dx (.own x)) x (.ins CC dx [])) Q E := by
  have sm := made_same (H := H) (x := x) (dx := dx) CC nx ndx
  refine ⟨x, dx, _, _, _, _, _, _, rfl, upd_same, ⟨t0.same sm, .non, .non, .non, .non, t5.same sm⟩, fun z => absurd ((hw _).symm.trans z) ne, fun _ H' d s nd ed => ?_⟩
  rw [hw] at ed
  exact he H' d (sm.trans s) (sm.free nd) ed
theorem wrongC_name {G : Hp} (h : isNm v = false) {v5 : V} : wrongC CO CP CC G v .non .non .non .non v5 = Str.ofString "name" := by
  unfold wrongC
  rw [if_pos h]
theorem wrongC_about {G : Hp} (h : isAb v = false) : wrongC CO CP CC G (.str (Str.ofString "a")) .non .non .non .non v = Str.ofString "about" := by
  unfold wrongC ol
  rw [nmA]
  simp [h]
theorem wrongF_long (h : isNm v = false) {v1 v2 v3 v4 v5 v6 v7 : V} : wrongF v v1 v2 v3 v4 v5 v6 v7 = Str.ofString "long" := by
  unfold wrongF
  rw [if_pos h]
theorem wrongF_takes (h : among v takesL = false) {v3 v4 v5 v6 v7 : V} : wrongF (.str (Str.ofString "a")) (.str (Str.ofString "")) v v3 v4 v5 v6 v7 = Str.ofString "takes" := by
  unfold wrongF
  rw [if_neg (by rw [nmA]; decide), if_neg (by decide +kernel), if_pos h]
theorem wrongP_name (h : isNm v = false) {v1 v2 v3 v4 : V} : WP.wrongF v v1 v2 v3 v4 = Str.ofString "name" := by
  unfold WP.wrongF
  rw [if_pos h]
theorem wrongP_many (h : among v WP.manies = false) {v2 v3 v4 : V} : WP.wrongF (.str (Str.ofString "a")) v v2 v3 v4 = Str.ofString "many" := by
  unfold WP.wrongF
  rw [if_neg (by rw [nmA]; decide), if_pos h]
end
section
variable {P : Program} {w : World} {K : PySem.W.Frag} {mg : Str → Option Value} {base : Heap}
def spCalled (CO CP CC CNO CNP CNC : Addr) : Sp := fun vs H _ E => ∃ (way : Int) (v : V), vs = [.int way, v] ∧ 0 ≤ way ∧ way < 6 ∧ Bad [CO, CP, CC] H v ∧ (way = 5 → isAb v = false) ∧
  ∀ H' d, Same H H' → H d = none → H' d = some (.xd [(("field" : Str), .str (fieldAt way))]) → E (.ref (errAt CNO CNP CNC way)) (some d) H'
/-- the three classes, as the law makes them -/
structure Mk17 (P : Program) (w : World) (K : PySem.W.Frag) (mg : Str → Option Value) (base : Heap) (n : Nat) (CO CP CC CNO CNP CN fIO fIP fIC : Addr) (fdO fdP fdC : FuncData) (d1O d1P d1C : List Value) (gO1 gP1 gC1 : List Value → List Value → List Value) (gVO gVP gVC : List V → List V → List V) : Prop where
  mo : L2.Mk K CO fIO
  go : FnOk P w K mg base (L2N.CX P w) n fIO fdO optPs (spInit CO CNO)
  gO : mg "Option" = some (.ref CO)
  bo : Binds K fdO optPs d1O
  vo : Vals dvO d1O
  kO : KBn K fdO optPs 2 ["takes"] gO1 gVO
  hO : ∀ x n a : V, gVO [x, n] [a] = [x, n, .str (Str.ofString ""), a, .str (Str.ofString "word"), .non, .bl false, .bl false, .str (Str.ofString "")]
  mp : L2.Mk K CP fIP
  gp : FnOk P w K mg base (L2N.CX P w) n fIP fdP plcPs (WP.spInit CP CNP)
  gP : mg "Place" = some (.ref CP)
  bp : Binds K fdP plcPs d1P
  vp : Vals dvP d1P
  kP : KBn K fdP plcPs 2 ["many"] gP1 gVP
  hP : ∀ x n a : V, gVP [x, n] [a] = [x, n, a, .str (Str.ofString "word"), .non, .str (Str.ofString "")]
  mc : L2.Mk K CC fIC
  gc : FnOk P w K mg base (L2N.CX P w) n fIC fdC cmdPs (spCInit CO CP CC CN)
  gC : mg "Command" = some (.ref CC)
  bc : Binds K fdC cmdPs d1C
  vc : Vals dvC d1C
  kC : KBn K fdC cmdPs 2 ["about"] gC1 gVC
  hC : ∀ x n a : V, gVC [x, n] [a] = [x, n, .non, .non, .non, .non, a]
/-- a def that lets errors out, of which it is told that their context is None -/
theorem okN {x qual : Str} {st : Stmt} {f : Addr} {fd : FuncData} {N ps : List Str} {k : Nat} {sp : Sp} (F : Fun K x qual st f fd) (S : FnScope N ps (defScope st)) (few : ∀ vs H Q E, sp vs H Q E → vs.length = ps.length)
    (body : ∀ (cdv : Value) (A : Around) (outer : List Env) (s : Shared) (H : Hp) (vs : List V) (Q : VK) (E : XK), Room k (A.deeper (envOfC qual (defScope st) s.heap.objs.size f cdv)) → sp vs H Q E → ∃ t, PSs (cxOf (L2N.CX P w) P w K mg base N qual (defScope st) f cdv A outer s H E) (defBody st) t ∧ t { nx := fun _ H' => Q .non H', rt := Q } (L2.start N vs) H) :
    FnOk P w K mg base (L2N.CX P w) (k + 1) f fd ps sp := by
  obtain ⟨_, _, _, _, _, _, cdv, _, _, rfl, look, code⟩ := F.ex
  exact fn_of look code S few fun A outer s H vs Q E room want => body cdv A outer s H vs Q E room want
theorem ok_called {CO CP CC CNO CNP CN fIO fIP fIC : Addr} {fdO fdP fdC : FuncData} {d1O d1P d1C : List Value} {gO1 gP1 gC1 : List Value → List Value → List Value} {gVO gVP gVC : List V → List V → List V} {f : Addr} {fd : FuncData} {k : Nat} (F : Fun K "_law_called" "_law_called" st_called f fd)
    (M : Mk17 P w K mg base k CO CP CC CNO CNP CN fIO fIP fIC fdO fdP fdC d1O d1P d1C gO1 gP1 gC1 gVO gVP gVC) :
    FnOk P w K mg base (L2N.CX P w) (k + 2) f fd ["_law_way", "_law_thing"] (spCalled CO CP CC CNO CNP CN) := by
  refine okN F sc_called (fun vs H Q E h => ?_) (fun cdv A outer s H vs Q E hr h => ?_)
  · obtain ⟨way, v, rfl, _⟩ := h
    rfl
  · obtain ⟨way, v, rfl, h0, h6, bad, ab, q⟩ := h
    refine ⟨_, pss_cons (ps_if (pt_cmpR op_eq (pv 0) pe_int (nomark _)) (pss_one (ps_ret (pe_make M.mo M.go hr (by rfl) M.gO M.bo M.vo (L2N.passes_call (L2N.takes_of rfl rfl rfl rfl) (fun _ _ _ _ h => h)) (pa_cons (pv 1) pa_nil)))) pss_nil)
      (pss_cons (ps_if (pt_cmpR op_eq (pv 0) pe_int (nomark _)) (pss_one (ps_ret (pe_makeN (n := 1) M.mo M.go hr (by rfl) M.gO M.kO (L2N.passes_call (L2N.takes_of rfl rfl rfl rfl) (fun _ _ _ _ h => h)) (pa_cons pe_str pa_nil) (pk_cons (pv 1) pk_nil)))) pss_nil)
      (pss_cons (ps_if (pt_cmpR op_eq (pv 0) pe_int (nomark _)) (pss_one (ps_ret (pe_make M.mp M.gp hr (by rfl) M.gP M.bp M.vp (L2N.passes_call (L2N.takes_of rfl rfl rfl rfl) (fun _ _ _ _ h => h)) (pa_cons (pv 1) pa_nil)))) pss_nil)
      (pss_cons (ps_if (pt_cmpR op_eq (pv 0) pe_int (nomark _)) (pss_one (ps_ret (pe_makeN (n := 1) M.mp M.gp hr (by rfl) M.gP M.kP (L2N.passes_call (L2N.takes_of rfl rfl rfl rfl) (fun _ _ _ _ h => h)) (pa_cons pe_str pa_nil) (pk_cons (pv 1) pk_nil)))) pss_nil)
      (pss_cons (ps_if (pt_cmpR op_eq (pv 0) pe_int (nomark _)) (pss_one (ps_ret (pe_make M.mc M.gc hr (by rfl) M.gC M.bc M.vc (L2N.passes_call (L2N.takes_of rfl rfl rfl rfl) (fun _ _ _ _ h => h)) (pa_cons (pv 1) pa_nil)))) pss_nil)
      (pss_one (ps_ret (pe_makeN (n := 1) M.mc M.gc hr (by rfl) M.gC M.kC (L2N.passes_call (L2N.takes_of rfl rfl rfl rfl) (fun _ _ _ _ h => h)) (pa_cons pe_str pa_nil) (pk_cons (pv 1) pk_nil)))))))), ?_⟩
    have ta : Thg H (.str (Str.ofString "a")) := thg_s "a" (by decide +kernel)
    have i0 : ∀ {i : Int}, ¬ (decide (V.int way = V.int i) = true) → way ≠ i := fun z e => z (decide_eq_true (by rw [e]))
    refine ⟨_, rfl, rfl, _, rfl, ite2 (fun e => ?_) (fun e => ?_)⟩
    · have e0 : way = 0 := V.int.inj (of_decide_eq_true e)
      subst e0
      exact ⟨v, rfl, fun x dx nx ndx ne => bad_opt bad.th (thg_s "flag" (by decide +kernel)) (wrongF_long bad.nm) (lit_ne (by decide +kernel)) q nx ndx⟩
    · have n0 := i0 e
      refine ⟨_, rfl, rfl, _, rfl, ite2 (fun e => ?_) (fun e => ?_)⟩
      · have e0 : way = 1 := V.int.inj (of_decide_eq_true e)
        subst e0
        refine ⟨v, rfl, rfl, rfl, fun x dx nx ndx ne => ?_⟩
        rw [M.hO]
        exact bad_opt ta bad.th (wrongF_takes bad.tk) (lit_ne (by decide +kernel)) q nx ndx
      · have n1 := i0 e
        refine ⟨_, rfl, rfl, _, rfl, ite2 (fun e => ?_) (fun e => ?_)⟩
        · have e0 : way = 2 := V.int.inj (of_decide_eq_true e)
          subst e0
          exact ⟨v, rfl, fun x dx nx ndx ne => bad_plc bad.th (thg_s "one" (by decide +kernel)) (wrongP_name bad.nm) (lit_ne (by decide +kernel)) q nx ndx⟩
        · have n2 := i0 e
          refine ⟨_, rfl, rfl, _, rfl, ite2 (fun e => ?_) (fun e => ?_)⟩
          · have e0 : way = 3 := V.int.inj (of_decide_eq_true e)
            subst e0
            refine ⟨v, rfl, rfl, rfl, fun x dx nx ndx ne => ?_⟩
            rw [M.hP]
            exact bad_plc ta bad.th (wrongP_many bad.mn) (lit_ne (by decide +kernel)) q nx ndx
          · have n3 := i0 e
            refine ⟨_, rfl, rfl, _, rfl, ite2 (fun e => ?_) (fun e => ?_)⟩
            · have e0 : way = 4 := V.int.inj (of_decide_eq_true e)
              subst e0
              exact ⟨v, rfl, fun x dx nx ndx ne => bad_cmd bad.th (thg_s "" (by decide +kernel)) (fun G => wrongC_name bad.nm) (lit_ne (by decide +kernel)) q nx ndx⟩
            · have n4 := i0 e
              have e0 : way = 5 := by omega
              subst e0
              refine ⟨v, rfl, rfl, rfl, fun x dx nx ndx ne => ?_⟩
              rw [M.hC]
              exact bad_cmd ta bad.th (fun G => wrongC_about (ab rfl)) (lit_ne (by decide +kernel)) q nx ndx
end
end WB

set_option Elab.async false
set_option linter.all false
set_option maxRecDepth 100000
set_option maxHeartbeats 4000000
namespace WB
open PySem PySem.Spec PyProof.Rows L2 WG
open TL (tl)
abbrev st_met : Stmt := topS 59
theorem sc_met : FnScope ["_law_way", "_law_thing", "_law_found", "_law_e"] ["_law_way", "_law_thing"] (defScope st_met) := ⟨rfl, rfl, rfl, by decide +kernel, rfl, by decide +kernel, by decide +kernel⟩
abbrev st_field : Stmt := topS 60
theorem sc_field : FnScope ["_law_way", "_law_thing", "_law_found", "_law_e"] ["_law_way", "_law_thing"] (defScope st_field) := ⟨rfl, rfl, rfl, by decide +kernel, rfl, by decide +kernel, by decide +kernel⟩
theorem field_look {v : V} : List.lookup ("field" : Str) [(("field" : Str), v)] = some v := by simp [List.lookup]
/-- an error class where it is caught: at place i of the ten -/
structure CaughtAt (K : PySem.W.Frag) (Cs : List Addr) (BE : Addr) (i : Nat) (D : Addr) : Prop where
  x : XfC K D
  k : KindsAt K Cs i D
  lt : i < 10
  be : PySem.W.exmOne K (.ref D) (.ref BE) = some true
  ex : ∀ (j : Nat) (C : Addr), Cs[j]? = some C → PySem.W.exmOne K (.ref D) (.ref C) = some (decide (j = i))
/-- which kind it is -/
abbrev Kd := Addr × (Addr × Nat)
def kdOk (K : PySem.W.Frag) (Cs : List Addr) (cls : Value) (d : Option Addr) (t : Kd) : Prop := cls = .ref t.1 ∧ d = some t.2.1 ∧ t.2.2 < 10 ∧ KindsAt K Cs t.2.2 t.1
def kindAt (way : Int) : Nat := if way < 2 then 0 else if way < 4 then 1 else 2
def rAddS : R2 := fun x y H Q => ∃ i j, x = .str i ∧ y = .str j ∧ i.length + j.length ≤ sizeLine ∧ Q (.str (i ++ j)) H
def tbMet (CO CP CC CNO CNP CNC : Addr) : WX → TS := fun W => tDrop (tCallS (spCalled CO CP CC CNO CNP CNC) (WE W) (tCons (tVar 0) (tCons (tVar 1) tNil)))
def tsMet (K : PySem.W.Frag) (Cs : List Addr) : Addr → Value → Option Addr → TS := fun a cls d => tAsg (tCallQ (ι := Kd) a (kdOk K Cs cls d) (fun t => spKinds t.2.1 t.2.2) (tCons (tVar 3) tNil)) (gName 2)
def tsFld (CN : Addr) (word : String) : Addr → Value → Option Addr → TS := fun a cls d => tAsg (tOp rAddS (tC (.str (Str.ofString word))) (tXf a cls d CN "field" (tVar 3))) (gName 2)
section
variable {P : Program} {w : World} {K : PySem.W.Frag} {mg : Str → Option Value} {base : Heap} {CO CP CC BE : Addr} {C0 C1 C2 C3 C4 C5 C6 C7 C8 C9 : Addr}
def spMet (CO CP CC : Addr) : Sp := fun vs H Q _ => ∃ (way : Int) (v : V), vs = [.int way, v] ∧ 0 ≤ way ∧ way < 6 ∧ Bad [CO, CP, CC] H v ∧ (way = 5 → isAb v = false) ∧ ∀ H' l, Same H H' → H l = none → H' l = some (.lst [.str (kword (kindAt way))]) → Q (.ref l) H'
theorem ok_met {f fK fC : Addr} {fd fdK fdC : FuncData} {k : Nat} (F : Fun K "_law_met" "_law_met" st_met f fd) (D_called : Df K mg "_law_called" st_called ["_law_way", "_law_thing"] fC fdC) (G_called : FnOk P w K mg base (L2N.CX P w) k fC fdC ["_law_way", "_law_thing"] (spCalled CO CP CC C0 C1 C2))
    (D_kinds : Df K mg "_law_kinds" st_kinds ["_law_e"] fK fdK) (G_kinds : ∀ t : Kd, t.2.2 < 10 → KindsAt K [C0, C1, C2, C3, C4, C5, C6, C7, C8, C9] t.2.2 t.1 → FnQ P w K mg base k fK fdK ["_law_e"] (ZIs t.1 (some t.2.1)) (spKinds t.2.1 t.2.2))
    (e0 : CaughtAt K [C0, C1, C2, C3, C4, C5, C6, C7, C8, C9] BE 0 C0) (e1 : CaughtAt K [C0, C1, C2, C3, C4, C5, C6, C7, C8, C9] BE 1 C1) (e2 : CaughtAt K [C0, C1, C2, C3, C4, C5, C6, C7, C8, C9] BE 2 C2) (gB : mg "BenchError" = some (.ref BE)) :
    FnOk P w K mg base CX0 (k + 1) f fd ["_law_way", "_law_thing"] (spMet CO CP CC) := by
  refine F.ok sc_met (fun vs H Q E h => ?_) (fun cdv A outer s H vs Q E hr h => ?_)
  · obtain ⟨way, v, rfl, _⟩ := h
    rfl
  · obtain ⟨way, v, rfl, h0, h6, bad, ab, q⟩ := h
    refine ⟨_, PSs.nox (pss_cons (ps_set (i := 2) sc_met.nd rfl (.inl rfl) (pe_lst pa_nil))
      (pss_cons (L2N.ps_try_as (i := 3) (tb := tbMet CO CP CC C0 C1 C2) (ts := tsMet K [C0, C1, C2, C3, C4, C5, C6, C7, C8, C9]) (Wout := fun _ _ _ _ => False) rfl rfl sc_met.nd rfl rfl ⟨rfl, by decide, Or.inl gB⟩ L2N.takes0
          (fun W pn xe tk _ => pss_one (ps_expr (by exact (pe_callS G_called hr (by rfl) D_called.g D_called.F.kp D_called.b (fun σ => L2N.passAt tk σ) (by exact (pa_cons (pv 0) (pa_cons (pv 1) pa_nil)))))))
          (fun a oe cls d pn hz hf => pss_one (ps_set (i := 2) sc_met.nd rfl (Or.inl rfl) (by exact (pe_callQ (ι := Kd) (G := kdOk K [C0, C1, C2, C3, C4, C5, C6, C7, C8, C9] cls d) (Z := fun (t : Kd) => ZIs t.1 (some t.2.1)) (sp := fun (t : Kd) => spKinds t.2.1 t.2.2) (fun t ht => G_kinds t ht.2.2.1 ht.2.2.2) (L2H.roomH_mark hr _) (fun t ht => by obtain ⟨ec, ed, _⟩ := ht; subst ec ed; exact ⟨hz.zc, hf⟩) (hot_suite hz hf) (by rfl) D_kinds.g D_kinds.F.kp D_kinds.b (pa_cons (pv 3) pa_nil))))))
      (pss_one (ps_ret (pv 2))))), ?_⟩
    have ca : CaughtAt K [C0, C1, C2, C3, C4, C5, C6, C7, C8, C9] BE (kindAt way) (errAt C0 C1 C2 way) := by
      unfold kindAt errAt
      by_cases a2 : way < 2
      · rw [if_pos a2, if_pos a2]
        exact e0
      · rw [if_neg a2, if_neg a2]
        by_cases a4 : way < 4
        · rw [if_pos a4, if_pos a4]
          exact e1
        · rw [if_neg a4, if_neg a4]
          exact e2
    refine ⟨Nat.zero_le _, fun l nl => go nl fun H1 s1 e1 => ?_⟩
    refine ⟨.int way, rfl, v, rfl, way, v, rfl, h0, h6, bad.same s1, ab, fun H2 d s2 nd ed => ⟨true, ca.be, fun _ a na => ?_, fun z => Bool.noConfusion z⟩⟩
    refine ⟨.ref a, rfl, (errAt C0 C1 C2 way, d, kindAt way), ⟨rfl, rfl, ca.lt, ca.k⟩, _, rfl, ed, fun H3 l3 s3 n3 e3 => ?_⟩
    exact ⟨_, rfl, q H3 l3 (s1.trans (s2.trans s3)) (none_back (s1.trans s2) n3) e3⟩
def fieldW (way : Int) : Str := if way < 2 then Str.ofString "option " else if way < 4 then Str.ofString "place " else Str.ofString "command "
def spField (CO CP CC : Addr) : Sp := fun vs H Q _ => ∃ (way : Int) (v : V), vs = [.int way, v] ∧ 0 ≤ way ∧ way < 6 ∧ Bad [CO, CP, CC] H v ∧ (way = 5 → isAb v = false) ∧ ∀ H', Same H H' → Q (.str (fieldW way ++ fieldAt way)) H'
theorem fieldAt_len (way : Int) : (fieldAt way).length ≤ 20 := by
  unfold fieldAt
  repeat (first | (split <;> try decide +kernel))
theorem ok_field {f fC : Addr} {fd fdC : FuncData} {k : Nat} (F : Fun K "_law_field" "_law_field" st_field f fd) (D_called : Df K mg "_law_called" st_called ["_law_way", "_law_thing"] fC fdC) (G_called : FnOk P w K mg base (L2N.CX P w) k fC fdC ["_law_way", "_law_thing"] (spCalled CO CP CC C0 C1 C2))
    (e0 : CaughtAt K [C0, C1, C2, C3, C4, C5, C6, C7, C8, C9] BE 0 C0) (e1 : CaughtAt K [C0, C1, C2, C3, C4, C5, C6, C7, C8, C9] BE 1 C1) (e2 : CaughtAt K [C0, C1, C2, C3, C4, C5, C6, C7, C8, C9] BE 2 C2) (g0 : mg "NoOption" = some (.ref C0)) (g1 : mg "NoPlace" = some (.ref C1)) (g2 : mg "NoCommand" = some (.ref C2))
    (nf0 : PySem.W.findIn K (.ref C0) "field" = some none) (nf1 : PySem.W.findIn K (.ref C1) "field" = some none) (nf2 : PySem.W.findIn K (.ref C2) "field" = some none) :
    FnOk P w K mg base CX0 (k + 1) f fd ["_law_way", "_law_thing"] (spField CO CP CC) := by
  refine F.ok sc_field (fun vs H Q E h => ?_) (fun cdv A outer s H vs Q E hr h => ?_)
  · obtain ⟨way, v, rfl, _⟩ := h
    rfl
  · obtain ⟨way, v, rfl, h0, h6, bad, ab, q⟩ := h
    refine ⟨_, PSs.nox (pss_cons (ps_set (i := 2) sc_field.nd rfl (.inl rfl) pe_str)
      (pss_cons (L2N.ps_try_named (tb := tbMet CO CP CC C0 C1 C2) (l := [(.ref C0, 3, tsFld C0 "option "), (.ref C1, 3, tsFld C1 "place "), (.ref C2, 3, tsFld C2 "command ")]) (Wout := fun _ _ _ _ => False) rfl rfl sc_field.nd L2N.takes0
          (fun W pn xe tk _ => pss_one (ps_expr (by exact (pe_callS G_called hr (by rfl) D_called.g D_called.F.kp D_called.b (fun σ => L2N.passAt tk σ) (by exact (pa_cons (pv 0) (pa_cons (pv 1) pa_nil)))))))
          (.cons ⟨rfl, by decide, Or.inl g0⟩ rfl rfl (fun a oe cls d pn hz hf => pss_one (ps_set (i := 2) sc_field.nd rfl (Or.inl rfl) (by exact (pe_op op_add_str pe_str (pe_xf e0.x nf0 hz.zc hf (pv 3)))))) (.cons ⟨rfl, by decide, Or.inl g1⟩ rfl rfl (fun a oe cls d pn hz hf => pss_one (ps_set (i := 2) sc_field.nd rfl (Or.inl rfl) (by exact (pe_op op_add_str pe_str (pe_xf e1.x nf1 hz.zc hf (pv 3)))))) (.cons ⟨rfl, by decide, Or.inl g2⟩ rfl rfl (fun a oe cls d pn hz hf => pss_one (ps_set (i := 2) sc_field.nd rfl (Or.inl rfl) (by exact (pe_op op_add_str pe_str (pe_xf e2.x nf2 hz.zc hf (pv 3)))))) .nil))))
      (pss_one (ps_ret (pv 2))))), ?_⟩
    have fl := fieldAt_len way
    have sz : sizeLine = 16777216 := sizeLine_eq
    have l0 : (Str.ofString "option ").length = 7 := by decide +kernel
    have l1 : (Str.ofString "place ").length = 6 := by decide +kernel
    have l2 : (Str.ofString "command ").length = 8 := by decide +kernel
    refine ⟨.int way, rfl, v, rfl, way, v, rfl, h0, h6, bad, ab, fun H2 d s2 nd ed => ?_⟩
    have q2 := q H2 s2
    unfold fieldW at q2
    unfold errAt
    by_cases a2 : way < 2
    · rw [if_pos a2] at q2 ⊢
      refine ⟨_, e0.ex 0 C0 rfl, fun _ a na => ?_, fun z => absurd z (by decide)⟩
      exact ⟨.ref a, rfl, rfl, rfl, d, _, _, rfl, ed, field_look, _, _, rfl, rfl, by omega, _, rfl, q2⟩
    · rw [if_neg a2] at q2 ⊢
      by_cases a4 : way < 4
      · rw [if_pos a4] at q2 ⊢
        refine ⟨_, e1.ex 0 C0 rfl, fun z => absurd z (by decide), fun _ => ⟨_, e1.ex 1 C1 rfl, fun _ a na => ?_, fun z => absurd z (by decide)⟩⟩
        exact ⟨.ref a, rfl, rfl, rfl, d, _, _, rfl, ed, field_look, _, _, rfl, rfl, by omega, _, rfl, q2⟩
      · rw [if_neg a4] at q2 ⊢
        refine ⟨_, e2.ex 0 C0 rfl, fun z => absurd z (by decide), fun _ => ⟨_, e2.ex 1 C1 rfl, fun z => absurd z (by decide), fun _ => ⟨_, e2.ex 2 C2 rfl, fun _ a na => ?_, fun z => absurd z (by decide)⟩⟩⟩
        exact ⟨.ref a, rfl, rfl, rfl, d, _, _, rfl, ed, field_look, _, _, rfl, rfl, by omega, _, rfl, q2⟩
end
end WB

set_option Elab.async false
set_option linter.all false
set_option maxRecDepth 100000
set_option maxHeartbeats 4000000
namespace WU
open PySem PySem.Spec PyProof.Rows L2 WG WB
open TL (tl)
/-- Unmade, as the written part tells it -/
structure ErrT (K : PySem.W.Frag) (mg : Str → Option Value) (x : Str) (C fI : Addr) (fd : FuncData) : Prop where
  o : OexC K C
  i : PySem.W.findIn K (.ref C) "__init__" = some (some (.ref fI))
  t : PySem.W.typeIn K (.ref fI) = some (.type "function")
  nf : PySem.W.findIn K (.ref C) "why" = some none
  g : mg x = some (.ref C)
  b : Binds K fd ["self", "why"] []
abbrev st_Unmade_init : Stmt := inClass (topS 11) 0
theorem sc_Unmade_init : FnScope ["self", "why"] ["self", "why"] (defScope st_Unmade_init) := ⟨rfl, rfl, rfl, by decide +kernel, rfl, by decide +kernel, by decide +kernel⟩
abbrev st_err := st_Unmade_init
abbrev sc_err := sc_Unmade_init
abbrev ErrD (K : PySem.W.Frag) (f : Addr) (fd : FuncData) : Prop := FunD K "__init__" "Unmade.__init__" (defArgs st_err) (defBody st_err) (defScope st_err) [.str (Str.ofString "")] [] f fd
theorem err_b2 {K : PySem.W.Frag} {f : Addr} {fd : FuncData} (F : ErrD K f fd) : Binds K fd ["self", "why"] [] := by
  obtain ⟨ds, hv, b⟩ := F.binds1 (ps := ["self", "why"]) 2 1 (by simp) rfl (fun T kV doc pm an cdv ct us its h1 h2 => match us, its, h1, h2 with | [_, _], [_], _, _ => ⟨_, rfl, rfl⟩)
  cases hv
  exact b
section
variable {P : Program} {w : World} {K : PySem.W.Frag} {mg : Str → Option Value} {base : Heap}
def spErr (C : Addr) : Sp := fun vs H Q _ => ∃ (a : Addr) (y : V), vs = [.ref a, y] ∧ H a = some (exo a C none) ∧ ∀ dx, H dx = none → dx ≠ a → Q .non (upd (upd H dx (exd dx [(("why" : Str), y)])) a (exo a C (some dx)))
theorem ok_err {C f : Addr} {fd : FuncData} {x : Str} {k : Nat} (F : ErrD K f fd) (T : ErrT K mg x C f fd) : FnOk P w K mg base CX0 (k + 1) f fd ["self", "why"] (spErr C) := by
  refine F.ok sc_err (fun vs H Q E h => ?_) (fun cdv A outer s H vs Q E hr h => ?_)
  · obtain ⟨a, y, rfl, _⟩ := h
    rfl
  · obtain ⟨a, y, rfl, ea, q⟩ := h
    refine ⟨_, pss_one (ps_ost (pv 0) (pv 1)), ?_⟩
    exact ⟨y, rfl, .ref a, rfl, a, C, rfl, T.o, T.nf, .inl ⟨ea, fun dx n ne => q dx n ne⟩⟩
/-- the way out by a raised error -/
theorem err_out {C : Addr} {y : V} {H : Hp} {E : XK} (h : ∀ H' d, Same H H' → H d = none → H' d = some (.xd [(("why" : Str), y)]) → E (.ref C) (some d) H') (a : Addr) (na : H a = none) :
    spErr C [.ref a, y] (upd H a (exo a C none)) (fun v H2 => v = .non ∧ ∃ (d : Addr) (fs : List (Str × V)), H2 a = some (exo a C (some d)) ∧ H2 d = some (exd d fs) ∧ H d = none ∧ E (.ref C) (some d) (upd (del H2 a) d (.xd fs))) (fun _ _ _ => False) := by
  refine ⟨a, y, rfl, upd_same, fun dx ndx ne => ⟨rfl, dx, [(("why" : Str), y)], upd_same, ?_, ?_, ?_⟩⟩
  · rw [upd_ne ne, upd_same]
  · rw [upd_ne ne] at ndx
    exact ndx
  · rw [upd_ne ne] at ndx
    refine h _ dx (fun b o e => ?_) ndx upd_same
    have nb : b ≠ dx := ne_of_none e ndx
    have nba : b ≠ a := ne_of_none e na
    rw [upd_ne nb, del_ne nba, upd_ne nba, upd_ne nb, upd_ne nba]
    exact e
end
theorem why_look {v : V} : List.lookup ("why" : Str) [(("why" : Str), v)] = some v := by simp [List.lookup]
end WU
namespace WB
open PySem PySem.Spec PyProof.Rows L2 WG
open TL (tl)
abbrev st_unmade : Stmt := topS 61
theorem sc_unmade : FnScope ["_law_why", "_law_found", "_law_e"] ["_law_why"] (defScope st_unmade) := ⟨rfl, rfl, rfl, by decide +kernel, rfl, by decide +kernel, by decide +kernel⟩
abbrev st_bare : Stmt := topS 62
theorem sc_bare : FnScope ["_law_found", "_law_e"] [] (defScope st_bare) := ⟨rfl, rfl, rfl, by decide +kernel, rfl, by decide +kernel, by decide +kernel⟩
/-- Unmade where it is caught -/
structure CaughtU (K : PySem.W.Frag) (Cs : List Addr) (BE D : Addr) : Prop where
  x : XfC K D
  k : KindsAt K Cs 9 D
  ex : PySem.W.exmOne K (.ref D) (.ref D) = some true
  be : PySem.W.kitOne K (.ref D) (.ref BE) = some false
def tbUn (CU : Addr) : WX → TS := fun W => fun _ σ H => tMkO CU (WU.spErr CU) [] (tCons (tVar 0) tNil) σ H fun cls d H' => W cls d σ H'
def tbBare (CU : Addr) : WX → TS := fun W => fun _ σ H => tMkO CU (WU.spErr CU) [.str (Str.ofString "")] tNil σ H fun cls d H' => W cls d σ H'
def tsUn (K : PySem.W.Frag) (Cs : List Addr) (CU BE : Addr) : Addr → Value → Option Addr → TS := fun a cls d => tAsg (tLst (tCons (tXf a cls d CU "why" (tVar 2)) (tCons (tCallQ (ι := Kd) a (kdOk K Cs cls d) (fun t => spKinds t.2.1 t.2.2) (tCons (tVar 2) tNil)) (tCons (tCB (rIsD K a cls d) (tCons (tVar 2) (tCons (tC (.ref BE)) tNil))) tNil)))) (gName 1)
def tsBare (CU : Addr) : Addr → Value → Option Addr → TS := fun a cls d => tAsg (tLst (tCons (tXf a cls d CU "why" (tVar 1)) tNil)) (gName 0)
theorem shp_un {z : Str} (hz : PyData.strOk z = true) : SeqAt.shaped (.list [.str z, .list [.str (kword 9)], .bool false]) = true := by
  have h9 : PyData.strOk (kword 9) = true := by decide +kernel
  unfold SeqAt.shaped
  simp [PyData.canLay0, PyData.canLayAll0, PyData.depth, PyData.depthAll, hz, h9]
section
variable {P : Program} {w : World} {K : PySem.W.Frag} {mg : Str → Option Value} {base : Heap} {BE : Addr} {C0 C1 C2 C3 C4 C5 C6 C7 C8 C9 : Addr}
def spUnmade : Sp := fun vs H Q _ => ∃ z : Str, vs = [.str z] ∧ Tx 300 z ∧ ∀ H', Same H H' → Q (.bl true) H'
theorem ok_unmade {f fK fU : Addr} {fd fdK fdU : FuncData} {k : Nat} (F : Fun K "_law_unmade" "_law_unmade" st_unmade f fd) (FU : WU.ErrD K fU fdU) (TU : WU.ErrT K mg "Unmade" C9 fU fdU)
    (D_kinds : Df K mg "_law_kinds" st_kinds ["_law_e"] fK fdK) (G_kinds : ∀ t : Kd, t.2.2 < 10 → KindsAt K [C0, C1, C2, C3, C4, C5, C6, C7, C8, C9] t.2.2 t.1 → FnQ P w K mg base (k + 2) fK fdK ["_law_e"] (ZIs t.1 (some t.2.1)) (spKinds t.2.1 t.2.2))
    (cu : CaughtU K [C0, C1, C2, C3, C4, C5, C6, C7, C8, C9] BE C9) (gB : mg "BenchError" = some (.ref BE)) (m_isinstance : mg "isinstance" = none) :
    FnOk P w K mg base CX0 (k + 3) f fd ["_law_why"] spUnmade := by
  have GU : FnOk P w K mg base CX0 (k + 1) fU fdU ["self", "why"] (WU.spErr C9) := WU.ok_err FU TU
  refine F.ok sc_unmade (fun vs H Q E h => ?_) (fun cdv A outer s H vs Q E hr h => ?_)
  · obtain ⟨z, rfl, _⟩ := h
    rfl
  · obtain ⟨z, rfl, tz, q⟩ := h
    refine ⟨_, PSs.nox (pss_cons (ps_set (i := 1) sc_unmade.nd rfl (.inl rfl) (pe_lst pa_nil))
      (pss_cons (L2N.ps_try_as (i := 2) (tb := tbUn C9) (ts := tsUn K [C0, C1, C2, C3, C4, C5, C6, C7, C8, C9] C9 BE) (Wout := fun _ _ _ _ => False) rfl rfl sc_unmade.nd rfl rfl ⟨rfl, by decide, Or.inl TU.g⟩ L2N.takes0
          (fun W pn xe tk _ => pss_one (L2N.ps_raise rfl tk (pmk_oexN TU.o TU.i TU.t GU hr TU.b .nil pass0 (by rfl) TU.g (pa_cons (pv 0) pa_nil))))
          (fun a oe cls d pn hz hf => pss_one (ps_set (i := 1) sc_unmade.nd rfl (Or.inl rfl) (by exact (pe_lst (pa_cons (pe_xf cu.x TU.nf hz.zc hf (pv 2)) (pa_cons (pe_callQ (ι := Kd) (G := kdOk K [C0, C1, C2, C3, C4, C5, C6, C7, C8, C9] cls d) (Z := fun (t : Kd) => ZIs t.1 (some t.2.1)) (sp := fun (t : Kd) => spKinds t.2.1 t.2.2) (fun t ht => G_kinds t ht.2.2.1 ht.2.2.2) (L2H.roomH_mark hr _) (fun t ht => by obtain ⟨ec, ed, _⟩ := ht; subst ec ed; exact ⟨hz.zc, hf⟩) (hot_suite hz hf) (by rfl) D_kinds.g D_kinds.F.kp D_kinds.b (pa_cons (pv 2) pa_nil)) (pa_cons (pe_callB (call_isD hz.zc hf) (by rfl) m_isinstance (by decide +kernel) (pa_cons (pv 2) (pa_cons (pe_glob (v := .ref BE) rfl gB rfl) pa_nil))) pa_nil))))))))
      (pss_one (ps_ret (pe_cmpR (op_eqD hr.units) (pv 1) (pe_lst (pa_cons (pv 0) (pa_cons (pe_lst (pa_cons pe_str pa_nil)) (pa_cons pe_bl pa_nil)))) (nomark _)))))), ?_⟩
    have small : ∀ {n : Nat}, n ≤ 20 → n ≤ sizeLine := fun {n} hn => by
      have sz : sizeLine = 16777216 := sizeLine_eq
      omega
    refine ⟨Nat.zero_le _, fun l nl => go nl fun H1 s1 e1 => ?_⟩
    refine ⟨.str z, rfl, by show 1 ≤ 1000; decide, fun a na => WU.err_out (E := fun cls d H' => wAs K (.ref C9) 2 (tsUn K [C0, C1, C2, C3, C4, C5, C6, C7, C8, C9] C9 BE) (fun _ _ _ _ => False) _ cls d _ H') (fun H2 d s2 nd ed => ⟨true, cu.ex, fun _ a0 na0 => ?_, fun z => Bool.noConfusion z⟩) a na⟩
    refine ⟨.ref a0, rfl, rfl, rfl, d, _, .str z, rfl, ed, WU.why_look, .ref a0, rfl, (C9, d, 9), ⟨rfl, rfl, (by show 9 < 10; decide), cu.k⟩, _, rfl, ed, fun H3 l3 s3 n3 e3 => ?_⟩
    have ed3 := s3 _ _ ed
    refine ⟨.ref a0, rfl, C9, d, _, .ref BE, .ref BE, false, rfl, rfl, ed3, cu.k.x, rfl, fun u hu => hu, cu.be, small (by show 3 ≤ 20; decide), fun l4 n4 => go n4 fun H4 s4 e4 => ?_⟩
    refine ⟨.ref l4, rfl, .str z, rfl, small (by show 1 ≤ 20; decide), fun l5 n5 => ?_⟩
    have s5 := same_upd (o := HO.lst [V.str (Str.ofString "unmade")]) n5
    have e5 : (upd H4 l5 (HO.lst [V.str (Str.ofString "unmade")])) l5 = _ := upd_same
    revert s5 e5
    generalize upd H4 l5 (HO.lst [V.str (Str.ofString "unmade")]) = H5
    intro s5 e5
    refine ⟨small (by show 3 ≤ 20; decide), fun l6 n6 => ?_⟩
    have s6 := same_upd (o := HO.lst [V.str z, V.ref l5, V.bl false]) n6
    have e6 : (upd H5 l6 (HO.lst [V.str z, V.ref l5, V.bl false])) l6 = _ := upd_same
    revert s6 e6
    generalize upd H5 l6 (HO.lst [V.str z, V.ref l5, V.bl false]) = H6
    intro s6 e6
    have d1 : Dp K H6 (.ref l4) (.list [.str z, .list [.str (kword 9)], .bool false]) := .lst (SqL.of (s6 _ _ (s5 _ _ e4))) (.cons (.str _) (.cons (.lst (SqL.of (s6 _ _ (s5 _ _ (s4 _ _ e3)))) (.cons (.str _) .nil)) (.cons (.bl _) .nil)))
    have d2 : Dp K H6 (.ref l6) (.list [.str z, .list [.str (kword 9)], .bool false]) := .lst (SqL.of e6) (.cons (.str _) (.cons (.lst (SqL.of (s6 _ _ e5)) (.cons (.str _) .nil)) (.cons (.bl _) .nil)))
    refine ⟨_, _, d1, d2, shp_un (strOk_of tz.pl), shp_un (strOk_of tz.pl), ?_⟩
    have ev : PyData.eqv (.list [.str z, .list [.str (kword 9)], .bool false]) (.list [.str z, .list [.str (kword 9)], .bool false]) = true := by simp [PyData.eqv, PyData.eqvAll]
    rw [ev]
    exact q _ (s1.trans (s2.trans (s3.trans (s4.trans (s5.trans s6)))))
def spBare : Sp := fun vs H Q _ => vs = [] ∧ ∀ H', Same H H' → Q (.bl true) H'
theorem ok_bare {CU f fU : Addr} {fd fdU : FuncData} {k : Nat} {ds : List Value} (F : Fun K "_law_bare" "_law_bare" st_bare f fd) (FU : WU.ErrD K fU fdU) (TU : WU.ErrT K mg "Unmade" CU fU fdU) (xU : XfC K CU) (ex : PySem.W.exmOne K (.ref CU) (.ref CU) = some true) :
    FnOk P w K mg base CX0 (k + 3) f fd [] spBare := by
  have GU : FnOk P w K mg base CX0 (k + 1) fU fdU ["self", "why"] (WU.spErr CU) := WU.ok_err FU TU
  obtain ⟨ds0, v0, b0⟩ := FU.binds1 (ps := ["self", "why"]) 1 0 (by simp) rfl (fun T kV doc pm an cdv ct us its h1 h2 => match us, its, h1, h2 with | [_], [_], _, _ => ⟨_, rfl, rfl⟩)
  refine F.ok sc_bare (fun vs H Q E h => ?_) (fun cdv A outer s H vs Q E hr h => ?_)
  · obtain ⟨rfl, _⟩ := h
    rfl
  · obtain ⟨rfl, q⟩ := h
    refine ⟨_, PSs.nox (pss_cons (ps_set (i := 0) sc_bare.nd rfl (.inl rfl) (pe_lst pa_nil))
      (pss_cons (L2N.ps_try_as (i := 1) (tb := tbBare CU) (ts := tsBare CU) (Wout := fun _ _ _ _ => False) rfl rfl sc_bare.nd rfl rfl ⟨rfl, by decide, Or.inl TU.g⟩ L2N.takes0
          (fun W pn xe tk _ => pss_one (L2N.ps_raise rfl tk (pmk_oexN0 TU.o TU.i TU.t GU hr b0 v0 pass0 (by rfl) TU.g)))
          (fun a oe cls d pn hz hf => pss_one (ps_set (i := 0) sc_bare.nd rfl (Or.inl rfl) (by exact (pe_lst (pa_cons (pe_xf xU TU.nf hz.zc hf (pv 1)) pa_nil))))))
      (pss_one (ps_ret (pe_cmpR (op_eqD hr.units) (pv 0) (pe_lst (pa_cons pe_str pa_nil)) (nomark _)))))), ?_⟩
    have small : ∀ {n : Nat}, n ≤ 20 → n ≤ sizeLine := fun {n} hn => by
      have sz : sizeLine = 16777216 := sizeLine_eq
      omega
    refine ⟨Nat.zero_le _, fun l nl => go nl fun H1 s1 e1 => ?_⟩
    refine ⟨by show 0 ≤ 1000; decide, fun a na => WU.err_out (E := fun cls d H' => wAs K (.ref CU) 1 (tsBare CU) (fun _ _ _ _ => False) _ cls d _ H') (fun H2 d s2 nd ed => ⟨true, ex, fun _ a0 na0 => ?_, fun z => Bool.noConfusion z⟩) a na⟩
    refine ⟨.ref a0, rfl, rfl, rfl, d, _, .str (Str.ofString ""), rfl, ed, WU.why_look, small (by show 1 ≤ 20; decide), fun l4 n4 => go n4 fun H4 s4 e4 => ?_⟩
    refine ⟨.ref l4, rfl, small (by show 1 ≤ 20; decide), fun l5 n5 => ?_⟩
    have s5 := same_upd (o := HO.lst [V.str (Str.ofString "")]) n5
    have e5 : (upd H4 l5 (HO.lst [V.str (Str.ofString "")])) l5 = _ := upd_same
    revert s5 e5
    generalize upd H4 l5 (HO.lst [V.str (Str.ofString "")]) = H5
    intro s5 e5
    refine ⟨.list [.str (Str.ofString "")], .list [.str (Str.ofString "")], .lst (SqL.of (s5 _ _ e4)) (.cons (.str _) .nil), .lst (SqL.of e5) (.cons (.str _) .nil), by decide +kernel, by decide +kernel, ?_⟩
    have ev : PyData.eqv (.list [.str (Str.ofString "")]) (.list [.str (Str.ofString "")]) = true := by decide +kernel
    rw [ev]
    exact q _ (s1.trans (s2.trans (s4.trans s5)))
end
end WB

set_option Elab.async false
set_option linter.all false
set_option maxRecDepth 100000
set_option maxHeartbeats 4000000
/-! == of a dict and a text -/
namespace PySem
open PyProof.Rows
section
variable {prog : Program} {w : World} {A : Around} {E : Value → Shared → Prop} {s : Shared} {a : Addr} {b : Str} {u : Tok}
theorem dict_not_str {Q : Value → Shared → Prop} (ty : s.TypeIs (.ref a) "dict") (h : Q .notImplemented s) : wpAny (model prog w) A (call (.builtin "dict.__eq__") [.ref a, .str b u]) Q E s := by
  refine wpAny_call_entry F.slot_dict_eq ty F.entry_dict_eq ?_ (F.args_dict_eq_2 _ _)
  show wpAny _ _ (Builtin.Dict.dictSlotArgs "__eq__" ⟨[.ref a, .str b u], []⟩ >>= _) _ _ s
  refine wpAny_bind ?_
  unfold Builtin.Dict.dictSlotArgs
  refine wpAny_bind (wpAny_notOrdered_dict ty ?_)
  show wpAny _ _ (pure (Value.ref a, Value.str b u)) _ _ s
  refine wpAny_pure ?_
  refine wpAny_bind (wpAny_isInstance (T := "str") (typeIs_str s b u) F.sub_str_dict ?_)
  simp only [Bool.not_false, if_true]
  first
  | exact wpAny_pure ⟨_, rfl, h⟩
  | exact wpAny_bind (wpAny_rule (wpAny_pure ⟨_, rfl, h⟩))
  | (wp_walk; exact ⟨_, rfl, h⟩)
theorem str_not_dict {o : Obj} {es : Array DictEntry} {ep : Nat} {Q : Value → Shared → Prop} (ho : s.heap.get? a = some o) (hd : o.data = .dict es ep) (h : Q .notImplemented s) : wpAny (model prog w) A (call (.builtin "str.__eq__") [.str b u, .ref a]) Q E s := by
  refine wpAny_call_entry F.slot_str_eq (typeIs_str s b u) F.entry_str_eq ?_ (F.args_str_eq_2 _ _)
  obtain ⟨oc, od, odt, osl⟩ := o
  dsimp only at hd
  subst hd
  obtain ⟨hp, g, d, tk, os⟩ := s
  wp_walk using wpAny_loadPart' ho, wpAny_load ho
  exact ⟨_, rfl, h⟩
end
end PySem
namespace WG
open PySem PySem.Spec PyProof.Rows L2
/-- x == "text", x data or a dict -/
def rEqX (K : PySem.W.Frag) : R2 := fun x y H Q => rEqD K x y H Q ∨ ∃ (a : Addr) (kvs : List (Key × V)) (z : Str), x = .ref a ∧ y = .str z ∧ H a = some (.dK kvs) ∧ Q (.bl false) H
theorem op_eqX {X : Cx} (hu : X.A.units + 64 < cLine) : OpR X (compareOp .Eq) (rEqX X.K) := by
  intro pins s σ H x y v u Q I rx ry h
  cases h with
  | inl h => exact op_eqD hu pins s σ H x y v u Q I rx ry h
  | inr h =>
    obtain ⟨a, kvs, z, rfl, rfl, ea, q⟩ := h
    cases rx
    obtain ⟨t, rfl⟩ := ry
    obtain ⟨_, _, vs, _, o, es, ep, ho, hx, hd, hr⟩ := (show ObjOk _ _ H s.heap a (.dK kvs) from I.hok a _ ea)
    have ty : s.TypeIs (.ref a) "dict" := ⟨o, ho, hx.1⟩
    show wpAny (model X.prog X.w) X.A (richCompare .Eq (.ref a) (.str z t)) (EP X pins σ Q) X.xe s
    exact SeqAt.rc_eq_decline_or (k := false) ty (typeIs_str s z t) (by decide) F.sub_str_dict F.slot_dict_eq F.slot_str_eq_refl (fun _ hq => dict_not_str ty hq) (fun _ hq => str_not_dict ho hd hq) (fun _ hq => wpAny_of_eq (rfl : isSame (.ref a) (.str z t) = pure false) hq) (.inr (by omega)) ⟨.bl false, H, I, rfl, q⟩
end WG

set_option Elab.async false
set_option linter.all false
set_option maxRecDepth 100000
set_option maxHeartbeats 4000000
namespace WB
open PySem PySem.Spec PyProof.Rows L2 WG
open TL (tl)
abbrev st_law : Stmt := topS 63
theorem sc_law : FnScope ["_law_script", "_law_fields", "_law_k", "_law_pot_here", "_law_turn", "_law_way", "_law_thing"] ["_law_script"] (defScope st_law) := ⟨rfl, rfl, rfl, by decide +kernel, rfl, by decide +kernel, by decide +kernel⟩
/-! ### the things of which nothing is made -/
def texts17 : List Str := [Str.ofString "-", Str.ofString "a  b", Str.ofString "A ", Str.ofString "no-  ", Str.ofString " "]
inductive Th17 (H : Hp) : V → Prop
  | str {z : Str} (h : z ∈ texts17) : Th17 H (.str z)
  | non : Th17 H .non
  | tru : Th17 H (.bl true)
  | int {i : Int} (h0 : 0 ≤ i) (h1 : i ≤ 10 ^ 64) : Th17 H (.int i)
  | l0 {a : Addr} (e : H a = some (.lst [])) : Th17 H (.ref a)
  | l1 {a : Addr} (e : H a = some (.lst [.str (Str.ofString "a")])) : Th17 H (.ref a)
  | t0 {a : Addr} (e : H a = some (.tup [])) : Th17 H (.ref a)
  | d0 {a : Addr} (e : H a = some (.dK [])) : Th17 H (.ref a)
theorem t17_tx : ∀ z ∈ texts17, z.length ≤ 300 ∧ ∀ c ∈ tl z, c < 256 := by decide +kernel
theorem t17_nm : ∀ z ∈ texts17, isNm (.str z) = false := by decide +kernel
theorem t17_tk : ∀ z ∈ texts17, among (.str z) takesL = false := by decide +kernel
theorem t17_mn : ∀ z ∈ texts17, among (.str z) WP.manies = false := by decide +kernel
theorem t17_ab : ∀ z ∈ texts17, z = Str.ofString "-" ∨ isAb (.str z) = false := by decide +kernel
theorem Th17.same {H H' : Hp} {v : V} (h : Th17 H v) (s : Same H H') : Th17 H' v := by
  cases h with
  | str h => exact .str h
  | non => exact .non
  | tru => exact .tru
  | int h0 h1 => exact .int h0 h1
  | l0 e => exact .l0 (s _ _ e)
  | l1 e => exact .l1 (s _ _ e)
  | t0 e => exact .t0 (s _ _ e)
  | d0 e => exact .d0 (s _ _ e)
theorem Th17.but {H H' : Hp} {v : V} {p : Addr} (h : Th17 H v) (b : But p H H') (hp : Pot H p) : Th17 H' v := by
  obtain ⟨i, j, ep, _⟩ := hp
  have ne : ∀ {a : Addr} {o : HO}, H a = some o → o ≠ .lst [.int i, .int j] → a ≠ p := fun {a o} e n z => by
    rw [z, ep] at e
    exact n (Option.some.inj e).symm
  cases h with
  | str h => exact .str h
  | non => exact .non
  | tru => exact .tru
  | int h0 h1 => exact .int h0 h1
  | l0 e => exact .l0 (b _ _ (ne e (fun z => by cases z)) e)
  | l1 e => exact .l1 (b _ _ (ne e (fun z => by cases z)) e)
  | t0 e => exact .t0 (b _ _ (ne e (fun z => by cases z)) e)
  | d0 e => exact .d0 (b _ _ (ne e (fun z => by cases z)) e)
theorem Th17.bad {Cs : List Addr} {H : Hp} {v : V} (h : Th17 H v) : Bad Cs H v := by
  cases h with
  | str h => exact ⟨.str ⟨(t17_tx _ h).1, (t17_tx _ h).2⟩, .str ⟨(t17_tx _ h).1, (t17_tx _ h).2⟩, t17_nm _ h, t17_tk _ h, t17_mn _ h⟩
  | non => exact ⟨.non, .non, rfl, rfl, rfl⟩
  | tru => exact ⟨.bl _, .bl _, rfl, rfl, rfl⟩
  | int h0 h1 => exact ⟨.int h0 h1, .int _, rfl, rfl, rfl⟩
  | l0 e => exact ⟨.odd e .l0, .lst e (Nat.zero_le _) (fun x hx => by cases hx), rfl, rfl, rfl⟩
  | l1 e =>
    have ta : Tx 20 (Str.ofString "a") := tx_lit "a" (by decide +kernel)
    refine ⟨.odd e (.l1 ta), .lst e (by decide) (fun x hx => ?_), rfl, rfl, rfl⟩
    obtain rfl := List.mem_singleton.mp hx
    exact .str (ta.mono (by decide))
  | t0 e => exact ⟨.odd e .t0, .tup e, rfl, rfl, rfl⟩
  | d0 e => exact ⟨.odd e .d0, .dic e, rfl, rfl, rfl⟩
theorem Th17.ab {H : Hp} {v : V} (h : Th17 H v) (n : v ≠ .str (Str.ofString "-")) : isAb v = false := by
  cases h with
  | str h =>
    rcases t17_ab _ h with z | z
    · exact absurd (congrArg V.str z) n
    · exact z
  | non => rfl
  | tru => rfl
  | int h0 h1 => rfl
  | l0 e => rfl
  | l1 e => rfl
  | t0 e => rfl
  | d0 e => rfl
theorem shp_dash : SeqAt.shaped (.str (Str.ofString "-")) = true := by decide +kernel
theorem Th17.eqx {K : PySem.W.Frag} {H : Hp} {v : V} {Q : VK} (h : Th17 H v) (q : Q (.bl (decide (v = .str (Str.ofString "-")))) H) : rEqX K v (.str (Str.ofString "-")) H Q := by
  have no : ∀ {u : V}, u ≠ .str (Str.ofString "-") → decide (u = .str (Str.ofString "-")) = false := fun n => decide_eq_false n
  cases h with
  | @str z h =>
    refine .inl ⟨.str z, .str (Str.ofString "-"), .str _, .str _, ?_, shp_dash, ?_⟩
    · unfold SeqAt.shaped
      simp [PyData.canLay0, PyData.depth, strOk_of (t17_tx _ h).2]
    · have e : PyData.eqv (.str z) (.str (Str.ofString "-")) = decide (V.str z = .str (Str.ofString "-")) := by
        show (z == Str.ofString "-") = _
        by_cases e : z = Str.ofString "-"
        · subst e
          simp
        · rw [decide_eq_false (fun x => e (V.str.inj x))]
          simpa using e
      rw [e]
      exact q
  | non =>
    rw [no (fun z => by cases z)] at q
    exact .inl ⟨.none, _, .non, .str _, by decide +kernel, shp_dash, by simpa [PyData.eqv] using q⟩
  | tru =>
    rw [no (fun z => by cases z)] at q
    exact .inl ⟨.bool true, _, .bl _, .str _, by decide +kernel, shp_dash, by simpa [PyData.eqv] using q⟩
  | @int i h0 h1 =>
    rw [no (fun z => by cases z)] at q
    refine .inl ⟨.int i, _, .int _, .str _, ?_, shp_dash, by simpa [PyData.eqv] using q⟩
    unfold SeqAt.shaped
    simp [PyData.canLay0, PyData.depth]
  | l0 e =>
    rw [no (fun z => by cases z)] at q
    exact .inl ⟨.list [], _, .lst (SqL.of e) .nil, .str _, by decide +kernel, shp_dash, by simpa [PyData.eqv] using q⟩
  | l1 e =>
    rw [no (fun z => by cases z)] at q
    exact .inl ⟨.list [.str (Str.ofString "a")], _, .lst (SqL.of e) (.cons (.str _) .nil), .str _, by decide +kernel, shp_dash, by simpa [PyData.eqv] using q⟩
  | t0 e =>
    rw [no (fun z => by cases z)] at q
    exact .inl ⟨.tuple [], _, .tup (SqT.of e) .nil, .str _, by decide +kernel, shp_dash, by simpa [PyData.eqv] using q⟩
  | d0 e =>
    rw [no (fun z => by cases z)] at q
    exact .inr ⟨_, [], _, rfl, rfl, e, q⟩
/-! ### what is due -/
def lawFields : List V := [.str (Str.ofString "option long"), .str (Str.ofString "option takes"), .str (Str.ofString "place name"), .str (Str.ofString "place many"), .str (Str.ofString "command name"), .str (Str.ofString "command about")]
theorem six_ways {way : Int} (h0 : 0 ≤ way) (h6 : way < 6) : way = 0 ∨ way = 1 ∨ way = 2 ∨ way = 3 ∨ way = 4 ∨ way = 5 := by omega
theorem field_at {way : Int} (h0 : 0 ≤ way) (h6 : way < 6) : atI lawFields way = some (.str (fieldW way ++ fieldAt way)) := by
  rcases six_ways h0 h6 with rfl | rfl | rfl | rfl | rfl | rfl <;> decide +kernel
theorem kind_at {way : Int} (h0 : 0 ≤ way) (h6 : way < 6) : atI [V.str (Str.ofString "option"), .str (Str.ofString "place"), .str (Str.ofString "command")] (way / 2) = some (.str (kword (kindAt way))) := by
  rcases six_ways h0 h6 with rfl | rfl | rfl | rfl | rfl | rfl <;> decide +kernel
theorem kword_ok : ∀ i, i < 10 → PyData.strOk (kword i) = true := by decide +kernel
theorem kindAt_lt (way : Int) : kindAt way < 10 := by
  unfold kindAt
  split
  · decide
  · split <;> decide
def things (q1 q2 q3 q4 : Addr) : List V := [.str (Str.ofString "-"), .str (Str.ofString "a  b"), .non, .int 7, .bl true, .ref q1, .ref q2, .ref q3, .ref q4, .str (Str.ofString "A "), .str (Str.ofString "no-  "), .int (10 ^ (64 : Int).toNat)]
theorem ts_gen {t : TS} {κ : L2.Ends} {σ : L2.St} {H : Hp} (D : L2.St → Hp → Prop) (e : ∀ κ : L2.Ends, (∀ σ' H', D σ' H' → κ.nx σ' H') → t κ σ H) (c : ∀ σ' H', D σ' H' → κ.nx σ' H') : t κ σ H := e κ c
section
variable {P : Program} {w : World} {K : PySem.W.Frag} {mg : Str → Option Value} {base : Heap}
def spLaw (K : PySem.W.Frag) : Sp := fun vs H Q _ => ∃ (a : Addr) (ns : List Int), vs = [.ref a] ∧ SqL K H a (ns.map V.int) ∧ ns.length ≤ 63 ∧ ∀ H', Q (.bl true) H'
theorem ok_law {CO CP CC f fP fT fM fF fU fB fX : Addr} {fd fdP fdT fdM fdF fdU fdB fdX : FuncData} {k : Nat} (F : Fun K "law" "law" st_law f fd)
    (D_pot : Df K mg "_law_pot" sPot ["_law_script", "_law_k"] fP fdP) (D_take : Df K mg "_law_take" sTake ["_law_pot_here", "_law_room"] fT fdT) (D_met : Df K mg "_law_met" st_met ["_law_way", "_law_thing"] fM fdM) (D_field : Df K mg "_law_field" st_field ["_law_way", "_law_thing"] fF fdF)
    (D_unmade : Df K mg "_law_unmade" st_unmade ["_law_why"] fU fdU) (D_bare : Df K mg "_law_bare" st_bare [] fB fdB) (D_text : Df K mg "_law_text" sText ["_law_pot_here"] fX fdX)
    (G_pot : FnOk P w K mg base CX0 k fP fdP ["_law_script", "_law_k"] (spPot K)) (G_take : FnOk P w K mg base CX0 k fT fdT ["_law_pot_here", "_law_room"] spTake) (G_met : FnOk P w K mg base CX0 k fM fdM ["_law_way", "_law_thing"] (spMet CO CP CC)) (G_field : FnOk P w K mg base CX0 k fF fdF ["_law_way", "_law_thing"] (spField CO CP CC))
    (G_unmade : FnOk P w K mg base CX0 k fU fdU ["_law_why"] spUnmade) (G_bare : FnOk P w K mg base CX0 k fB fdB [] spBare) (G_text : FnOk P w K mg base CX0 k fX fdX ["_law_pot_here"] (spDrawn 60))
    (m_len : mg "len" = none) (m_max : mg "max" = none) (m_min : mg "min" = none) (m_range : mg "range" = none) :
    FnOk P w K mg base CX0 (k + 1) f fd ["_law_script"] (spLaw K) := by
  refine F.ok sc_law (fun vs H Q E h => ?_) (fun cdv A outer s H vs Q E hr h => ?_)
  · obtain ⟨a, ns, rfl, _⟩ := h
    rfl
  · obtain ⟨a, ns, rfl, hS, hlen, q⟩ := h
    refine ⟨_, PSs.nox (pss_cons (ps_set (i := 1) sc_law.nd rfl (.inl rfl) (pe_lst (pa_cons pe_str (pa_cons pe_str (pa_cons pe_str (pa_cons pe_str (pa_cons pe_str (pa_cons pe_str pa_nil))))))))
      (pss_cons (ps_for PassesOwn.never rfl (pi_range1 rfl m_range (pa_cons (pe_callB (call_max2 rfl) (by rfl) m_max (by decide +kernel) (pa_cons pe_int (pa_cons (pe_callB (call_min2 rfl) (by rfl) m_min (by decide +kernel) (pa_cons (pe_callB call_len_seq (by rfl) m_len PySem.boot_len (pa_cons (pv 0) pa_nil)) (pa_cons pe_int pa_nil))) pa_nil))) pa_nil)) (pg_name (i := 2) sc_law.nd rfl (Or.inl rfl)) (pss_cons (ps_set (i := 3) sc_law.nd rfl (.inl rfl) (pe_call G_pot hr (by rfl) D_pot.g D_pot.F.kp D_pot.b .nil pass0 (pa_cons (pv 0) (pa_cons (pv 2) pa_nil))))
      (pss_cons (ps_for PassesOwn.never rfl (pi_range1 rfl m_range (pa_cons pe_int pa_nil)) (pg_name (i := 4) sc_law.nd rfl (Or.inl rfl)) (pss_cons (ps_set (i := 5) sc_law.nd rfl (.inl rfl) (pe_call G_take hr (by rfl) D_take.g D_take.F.kp D_take.b .nil pass0 (pa_cons (pv 3) (pa_cons pe_int pa_nil))))
      (pss_cons (ps_set (i := 6) sc_law.nd rfl (.inl rfl) (pe_ix ix_list (pe_lst (pa_cons pe_str (pa_cons pe_str (pa_cons pe_non (pa_cons pe_int (pa_cons pe_bl (pa_cons (pe_lst pa_nil) (pa_cons (pe_lst (pa_cons pe_str pa_nil)) (pa_cons (pe_tup pa_nil) (pa_cons pe_dnewK (pa_cons pe_str (pa_cons pe_str (pa_cons (pe_op op_pow pe_int pe_int) pa_nil))))))))))))) (pe_call G_take hr (by rfl) D_take.g D_take.F.kp D_take.b .nil pass0 (pa_cons (pv 3) (pa_cons pe_int pa_nil))) (fun _ _ => rfl)))
      (pss_cons (ps_if (PW.pt (pw_and (pt_cmpR op_eq (pv 5) pe_int (nomark _)) (pw_and1 (pt_cmpR (r := rEqX K) (op_eqX hr.units) (pv 6) pe_str (nomark _))))) (pss_one (ps_set (i := 6) sc_law.nd rfl (.inl rfl) pe_str)) pss_nil)
      (pss_cons (ps_if (pt_cmpR (op_neD hr.units) (pe_call G_met hr (by rfl) D_met.g D_met.F.kp D_met.b .nil pass0 (pa_cons (pv 5) (pa_cons (pv 6) pa_nil))) (pe_lst (pa_cons (pe_ix ix_list (pe_lst (pa_cons pe_str (pa_cons pe_str (pa_cons pe_str pa_nil)))) (pe_op op_fdiv (pv 5) pe_int) (fun _ _ => rfl)) pa_nil)) (nomark _)) (pss_one (ps_ret pe_bl)) pss_nil)
      (pss_one (ps_if (pt_cmpR op_ne (pe_call G_field hr (by rfl) D_field.g D_field.F.kp D_field.b .nil pass0 (pa_cons (pv 5) (pa_cons (pv 6) pa_nil))) (pe_ix ix_list (pv 1) (pv 5) (fun _ _ => rfl)) (nomark _)) (pss_one (ps_ret pe_bl)) pss_nil)))))))
      (pss_one (ps_if (PW.pt (pw_or (pt_not (pt_val (pe_call G_unmade hr (by rfl) D_unmade.g D_unmade.F.kp D_unmade.b .nil pass0 (pa_cons (pe_call G_text hr (by rfl) D_text.g D_text.F.kp D_text.b .nil pass0 (pa_cons (pv 3) pa_nil)) pa_nil)))) (pw_or (pt_not (pt_val (pe_call G_unmade hr (by rfl) D_unmade.g D_unmade.F.kp D_unmade.b .nil pass0 (pa_cons pe_str pa_nil)))) (pw_or1 (pt_not (pt_val (pe_call0 G_bare hr (by rfl) D_bare.g D_bare.F.kp D_bare.b .nil pass0))))))) (pss_one (ps_ret pe_bl)) pss_nil)))))
      (pss_one (ps_ret pe_bl)))), ?_⟩
    have small : ∀ {n : Nat}, n ≤ 20 → n ≤ sizeLine := fun {n} hn => by
      have sz : sizeLine = 16777216 := sizeLine_eq
      omega
    refine ⟨small (by show 6 ≤ 20; decide), fun lf nlf => go nlf fun Hf sf ef => ?_⟩
    refine ⟨.ref a, rfl, a, _, rfl, .inl (sf.seq hS), _, 20, rfl, 1, _, rfl, _, rfl, ?_, ?_, for_range (lo := 0) (n := _) (fun i σ H' => Same Hf H' ∧ ∃ x2 x3 x4 x5 x6, σ = [some (.ref a), some (.ref lf), x2, x3, x4, x5, x6])
      ⟨Same.refl _, none, none, none, none, none, rfl⟩ ?_ ?_⟩
    · split <;> split <;> omega
    · split <;> split <;> omega
    · rintro i σ H0 hi ⟨sm, x2, x3, x4, x5, x6, rfl⟩
      have hi63 : i < 63 := by
        revert hi
        split <;> split <;> intro hi <;> omega
      refine ⟨.ref a, rfl, .int (0 + (i : Int)), rfl, a, ns, _, rfl, sm.seq (sf.seq hS), by omega, by omega, fun H1 p s1 np p1 => ?_⟩
      refine ⟨3, rfl, by decide, by decide, for_range (lo := 0) (n := 3) (fun j σ Hc => But p H1 Hc ∧ Pot Hc p ∧ ∃ y4 y5 y6, σ = [some (.ref a), some (.ref lf), some (.int (0 + (i : Int))), some (.ref p), y4, y5, y6]) ⟨But.refl _ _, p1, x4, x5, x6, rfl⟩ ?_ ?_⟩
      · rintro j σ Hc hj ⟨bc, pc, y4, y5, y6, rfl⟩
        refine ⟨.ref p, rfl, p, 6, rfl, pc, by decide, by decide, fun H2 way b2 p2 w0 w6 => ?_⟩
        refine ⟨Nat.zero_le _, fun q1 n1 => ?_⟩
        have s3 := same_upd (o := HO.lst []) n1
        have e3 : (upd H2 q1 (HO.lst [])) q1 = some (HO.lst []) := upd_same
        revert s3 e3
        generalize upd H2 q1 (HO.lst []) = H3
        intro s3 e3
        refine ⟨small (by show 1 ≤ 20; decide), fun q2 n2 => ?_⟩
        have s4 := same_upd (o := HO.lst [V.str (Str.ofString "a")]) n2
        have e4 : (upd H3 q2 (HO.lst [V.str (Str.ofString "a")])) q2 = some (HO.lst [V.str (Str.ofString "a")]) := upd_same
        revert s4 e4
        generalize upd H3 q2 (HO.lst [V.str (Str.ofString "a")]) = H4
        intro s4 e4
        refine ⟨Nat.zero_le _, fun q3 n3 => ?_⟩
        have s5 := same_upd (o := HO.tup []) n3
        have e5 : (upd H4 q3 (HO.tup [])) q3 = some (HO.tup []) := upd_same
        revert s5 e5
        generalize upd H4 q3 (HO.tup []) = H5
        intro s5 e5
        refine fun q4 n4 => ?_
        have s6 := same_upd (o := HO.dK []) n4
        have e6 : (upd H5 q4 (HO.dK [])) q4 = some (HO.dK []) := upd_same
        revert s6 e6
        generalize upd H5 q4 (HO.dK []) = H6
        intro s6 e6
        refine ⟨10, 64, rfl, rfl, ⟨by decide, by decide, by decide⟩, small (by show 12 ≤ 20; decide), fun L nL => ?_⟩
        refine go (R := fun G => tCall spTake [] E0 (tCons (tVar 3) (tCons (tC (.int 12)) tNil)) _ G _) nL fun H7 s7 e7 => ?_
        have s27 : Same H2 H7 := s3.trans (s4.trans (s5.trans (s6.trans s7)))
        refine ⟨.ref p, rfl, p, 12, rfl, p2.same s27, by decide, by decide, fun H8 dx b8 p8 d0 d12 => ?_⟩
        have nLp : L ≠ p := fun z => by
          obtain ⟨i1, i2, ep, _⟩ := p2.same (s3.trans (s4.trans (s5.trans s6)))
          rw [z, ep] at nL
          cases nL
        have e8 := b8 _ _ nLp e7
        obtain ⟨v, hm, hv⟩ := at_any (things q1 q2 q3 q4) dx d0 d12
        refine ⟨L, _, dx, v, rfl, rfl, SqL.of e8, hv, ?_⟩
        have th : Th17 H8 v := by
          have th7 : Th17 H7 v := by
            unfold things at hm
            simp only [List.mem_cons, List.not_mem_nil, or_false] at hm
            rcases hm with rfl | rfl | rfl | rfl | rfl | rfl | rfl | rfl | rfl | rfl | rfl | rfl
            · exact .str (by decide +kernel)
            · exact .str (by decide +kernel)
            · exact .non
            · exact .int (by decide) (by decide)
            · exact .tru
            · exact .l0 (s7 _ _ (s6 _ _ (s5 _ _ (s4 _ _ e3))))
            · exact .l1 (s7 _ _ (s6 _ _ (s5 _ _ e4)))
            · exact .t0 (s7 _ _ (s6 _ _ e5))
            · exact .d0 (s7 _ _ e6)
            · exact .str (by decide +kernel)
            · exact .str (by decide +kernel)
            · exact .int (by decide) (by decide)
          exact th7.but b8 (p2.same s27)
        have B8 : But p H1 H8 := (bc.trans b2).trans ((But.of_same s27).trans b8)
        clear hv hm e8 nLp e7 nL e3 e4 e5 e6
        dsimp only [tSeq, tAsg, gName]
        refine ts_gen (fun σ' H' => H' = H8 ∧ ∃ u, Th17 H8 u ∧ (way = 5 → isAb u = false) ∧ σ' = [some (.ref a), some (.ref lf), some (.int (0 + (i : Int))), some (.ref p), some (.int (0 + (j : Int))), some (.int way), some u]) (fun κ c => ?_) (fun σ' H' hh => ?_)
        · refine ⟨_, rfl, rfl, _, rfl, ite2 (fun e => ?_) (fun e => ?_)⟩
          · refine ⟨v, rfl, th.eqx ⟨_, rfl, ite2 (fun e2 => ?_) (fun e2 => ?_)⟩⟩
            · exact c _ _ ⟨rfl, .str (Str.ofString " "), .str (by decide +kernel), fun _ => by decide +kernel, rfl⟩
            · have nv : v ≠ .str (Str.ofString "-") := fun z => e2 (decide_eq_true z)
              exact c _ _ ⟨rfl, v, th, fun _ => th.ab nv, rfl⟩
          · have nw : way ≠ 5 := fun z => e (decide_eq_true (by rw [z]))
            exact c _ _ ⟨rfl, v, th, fun z => absurd z nw, rfl⟩
        obtain ⟨rfl, u, tu, au, rfl⟩ := hh
        have nlp : lf ≠ p := ne_of_none (sm _ _ ef) np
        have ef8 := B8 _ _ nlp (s1 _ _ (sm _ _ ef))
        refine ⟨.int way, rfl, u, rfl, way, u, rfl, w0, w6, tu.bad, au, fun H9 l9 s9 n9 e9 => ?_⟩
        refine ⟨small (by show 3 ≤ 20; decide), fun q5 n5 => ?_⟩
        have s10 := same_upd (o := HO.lst [V.str (Str.ofString "option"), V.str (Str.ofString "place"), V.str (Str.ofString "command")]) n5
        have e10 : (upd H9 q5 (HO.lst [V.str (Str.ofString "option"), V.str (Str.ofString "place"), V.str (Str.ofString "command")])) q5 = _ := upd_same
        revert s10 e10
        generalize upd H9 q5 (HO.lst [V.str (Str.ofString "option"), V.str (Str.ofString "place"), V.str (Str.ofString "command")]) = H10
        intro s10 e10
        refine ⟨.int way, rfl, way, 2, rfl, rfl, ⟨by decide, by decide⟩, q5, _, way / 2, _, rfl, rfl, SqL.of e10, kind_at w0 w6, small (by show 1 ≤ 20; decide), fun l11 n11 => ?_⟩
        have s11 := same_upd (o := HO.lst [V.str (kword (kindAt way))]) n11
        have e11 : (upd H10 l11 (HO.lst [V.str (kword (kindAt way))])) l11 = _ := upd_same
        revert s11 e11
        generalize upd H10 l11 (HO.lst [V.str (kword (kindAt way))]) = H11
        intro s11 e11
        have kok := kword_ok _ (kindAt_lt way)
        have shp : SeqAt.shaped (.list [.str (kword (kindAt way))]) = true := by
          unfold SeqAt.shaped
          simp [PyData.canLay0, PyData.canLayAll0, PyData.depth, PyData.depthAll, kok]
        refine ⟨.list [.str (kword (kindAt way))], .list [.str (kword (kindAt way))], .lst (SqL.of (s11 _ _ (s10 _ _ e9))) (.cons (.str _) .nil), .lst (SqL.of e11) (.cons (.str _) .nil), shp, shp, false, congrArg V.bl ?_, ?_⟩
        · have ev : PyData.eqv (.list [.str (kword (kindAt way))]) (.list [.str (kword (kindAt way))]) = true := by simp [PyData.eqv, PyData.eqvAll]
          rw [ev]
          rfl
        have S11 : Same H' H11 := s9.trans (s10.trans s11)
        refine ⟨.int way, rfl, u, rfl, way, u, rfl, w0, w6, (tu.same S11).bad, au, fun H12 s12 => ?_⟩
        refine ⟨.ref lf, rfl, .int way, rfl, lf, _, way, _, rfl, rfl, SqL.of (s12 _ _ (S11 _ _ ef8)), field_at w0 w6, rfl, false, congrArg V.bl (by rw [decide_eq_true rfl]; rfl), ?_⟩
        exact ⟨B8.trans (But.of_same (S11.trans s12)), p8.same (S11.trans s12), _, _, _, rfl⟩
      · rintro σ H4 ⟨b4, p4, y4, y5, y6, rfl⟩
        refine ⟨.ref p, rfl, p, rfl, p4, fun H5 y b5 p5 ty => ⟨y, rfl, ty.mono (by decide), fun H6 s6 => ⟨true, rfl, ?_⟩⟩⟩
        simp only [Bool.not_true, Bool.false_eq_true, if_false]
        refine ⟨Str.ofString "", rfl, Tx.lit "" _ (by decide +kernel) (by decide +kernel), fun H7 s7 => ⟨true, rfl, ?_⟩⟩
        simp only [Bool.not_true, Bool.false_eq_true, if_false]
        refine ⟨rfl, fun H8 s8 => ⟨true, rfl, ?_⟩⟩
        simp only [Bool.not_true, Bool.false_eq_true, if_false]
        refine ⟨fun b o e => ?_, _, _, _, _, _, rfl⟩
        have e0 := sm _ _ e
        have nb : b ≠ p := ne_of_none e0 np
        exact s8 _ _ (s7 _ _ (s6 _ _ (b5 _ _ nb (b4 _ _ nb (s1 _ _ e0)))))
    · rintro σ H3 ⟨sm, x2, x3, x4, x5, x6, rfl⟩
      exact q _
end
end WB

set_option Elab.async false
set_option linter.all false
set_option maxRecDepth 100000
set_option maxHeartbeats 4000000
namespace WB
open PySem PySem.Spec PyProof.Rows L2 WG
open TL (tl)
theorem df_mk {K : PySem.W.Frag} {h : Heap} {mg : Str → Option Value} {x : Str} {st : Stmt} {ps : List Str} {f : Addr} {oc : Value} {od an : Option Addr} {osl : Array (Option Value)} {kV doc pm cdv ct : Value} (X : K.In h) (G : h.Ns mainGlobals mg)
    (a : PySem.W.nsIn K mainGlobals x = some (some (.ref f))) (l : K.lookup f = some ⟨oc, od, .func (PySem.W.fnOf x x (defArgs st) (defBody st) (defScope st) .none kV doc pm an cdv ct), osl⟩)
    (c : PySem.W.codeIn K cdv x = true) (k : PySem.W.keepIn K (.ref f) = true)
    (b : ∀ (kV doc pm : Value) (an : Option Addr) (cdv ct : Value) (us : List Value), us.length = ps.length → bindArgs (PySem.W.fnOf x x (defArgs st) (defBody st) (defScope st) .none kV doc pm an cdv ct) ⟨us, []⟩ = pure (ps.zip us)) :
    Df K mg x st ps f (PySem.W.fnOf x x (defArgs st) (defBody st) (defScope st) .none kV doc pm an cdv ct) := by
  have F := fun_mk (st := st) l c k
  exact ⟨F, F.binds b, PySem.W.mg_of X G a⟩
theorem kit_no {K : PySem.W.Frag} {t : Value} {b : Addr} (h1 : PySem.W.hasDictIn K b = true) (h2 : PySem.W.typeIn K (.ref b) = some (.type "type")) (h3 : PySem.W.subIn K t (.ref b) = some false) (h4 : PySem.W.subIn K (.ref b) (.ref b) = some true) : PySem.W.kitOne K t (.ref b) = some false := by
  obtain ⟨cd, hc, _⟩ := PySem.W.any_some h1
  unfold PySem.W.kitOne
  split
  · rename_i e
    rw [beq_iff_eq.mp e, h4] at h3
    cases h3
  · unfold PySem.W.kitCls
    dsimp only
    have e : ((PySem.W.clsIn K b).isSome && PySem.W.typeIn K (.ref b) == some (.type "type")) = true := by rw [hc, h2] <;> rfl
    rw [if_pos e]
    exact h3
theorem kit_sub {K : PySem.W.Frag} {a b : Addr} (h1 : PySem.W.hasDictIn K b = true) (h2 : PySem.W.typeIn K (.ref b) = some (.type "type")) (h3 : PySem.W.subIn K (.ref a) (.ref b) = some true) : PySem.W.kitOne K (.ref a) (.ref b) = some true := by
  obtain ⟨cd, hc, _⟩ := PySem.W.any_some h1
  unfold PySem.W.kitOne
  split
  · rfl
  · unfold PySem.W.kitCls
    dsimp only
    have e : ((PySem.W.clsIn K b).isSome && PySem.W.typeIn K (.ref b) == some (.type "type")) = true := by rw [hc, h2] <;> rfl
    rw [if_pos e]
    exact h3
theorem kit_subT {K : PySem.W.Frag} {a : Addr} {T : String} {b : Bool} (hm : PySem.W.kitMeta T = true) (h : PySem.W.subIn K (.ref a) (.type T) = some b) : PySem.W.kitOne K (.ref a) (.type T) = some b := by
  unfold PySem.W.kitOne
  rw [if_neg (by intro z; cases z)]
  unfold PySem.W.kitCls
  dsimp only
  rw [if_pos hm]
  exact h
theorem kit_self {K : PySem.W.Frag} {a : Addr} : PySem.W.kitOne K (.ref a) (.ref a) = some true := by
  unfold PySem.W.kitOne
  rw [if_pos (beq_self_eq_true _)]
theorem kit_apart {K : PySem.W.Frag} {a b : Addr} (h : PySem.W.kitOne K (.ref a) (.ref b) = some false) : a ≠ b := fun e => by
  rw [e, kit_self] at h
  cases h
theorem kit_dec {K : PySem.W.Frag} {a b : Addr} (h : PySem.W.kitOne K (.ref a) (.ref b) = some false) : PySem.W.kitOne K (.ref a) (.ref b) = some (decide (a = b)) := by
  rw [h, decide_eq_false (kit_apart h)]
theorem kit_dec1 {K : PySem.W.Frag} {a : Addr} : PySem.W.kitOne K (.ref a) (.ref a) = some (decide (a = a)) := by
  rw [kit_self, decide_eq_true rfl]
theorem all_T {Q : String → Prop} (h0 : Q "NoneType") (h1 : Q "bool") (h2 : Q "int") (h3 : Q "str") (h4 : Q "list") (h5 : Q "tuple") (h6 : Q "dict") : ∀ T ∈ allT, Q T := by
  intro T hT
  unfold allT at hT
  simp only [List.mem_cons, List.not_mem_nil, or_false] at hT
  rcases hT with rfl | rfl | rfl | rfl | rfl | rfl | rfl
  · exact h0
  · exact h1
  · exact h2
  · exact h3
  · exact h4
  · exact h5
  · exact h6
theorem all_3 {Q : Addr → Prop} {a b c : Addr} (h0 : Q a) (h1 : Q b) (h2 : Q c) : ∀ x ∈ [a, b, c], Q x := by
  intro x hx
  simp only [List.mem_cons, List.not_mem_nil, or_false] at hx
  rcases hx with rfl | rfl | rfl
  · exact h0
  · exact h1
  · exact h2
def pick {α : Type} (l : List α) (i : Nat) : List α := (l[i]?).toList
theorem pick_vals {vs : List V} {us : List Value} (h : Vals vs us) (i : Nat) : Vals (pick vs i) (pick us i) := by
  unfold pick
  have hl := h.length
  by_cases hi : i < vs.length
  · have hi2 : i < us.length := by omega
    obtain ⟨u, hu, r⟩ := h.get (List.getElem?_eq_getElem hi)
    rw [List.getElem?_eq_getElem hi, hu]
    exact .cons r .nil
  · rw [List.getElem?_eq_none (by omega), List.getElem?_eq_none (by omega)]
    exact .nil
def putO {α : Type} (us its ws : List α) : List α := us ++ (pick its 0 ++ (pick ws 0 ++ (pick its 2 ++ (pick its 3 ++ (pick its 4 ++ (pick its 5 ++ pick its 6))))))
def putP {α : Type} (us its ws : List α) : List α := us ++ (pick ws 0 ++ (pick its 1 ++ (pick its 2 ++ pick its 3)))
def putC {α : Type} (us its ws : List α) : List α := us ++ (pick its 0 ++ (pick its 1 ++ (pick its 2 ++ (pick its 3 ++ pick ws 0))))
theorem ten {Q : Nat → Addr → Prop} {c0 c1 c2 c3 c4 c5 c6 c7 c8 c9 : Addr} (h0 : Q 0 c0) (h1 : Q 1 c1) (h2 : Q 2 c2) (h3 : Q 3 c3) (h4 : Q 4 c4) (h5 : Q 5 c5) (h6 : Q 6 c6) (h7 : Q 7 c7) (h8 : Q 8 c8) (h9 : Q 9 c9) : ∀ (j : Nat) (C : Addr), [c0, c1, c2, c3, c4, c5, c6, c7, c8, c9][j]? = some C → Q j C
  | 0, C, h => by cases h; exact h0
  | 1, C, h => by cases h; exact h1
  | 2, C, h => by cases h; exact h2
  | 3, C, h => by cases h; exact h3
  | 4, C, h => by cases h; exact h4
  | 5, C, h => by cases h; exact h5
  | 6, C, h => by cases h; exact h6
  | 7, C, h => by cases h; exact h7
  | 8, C, h => by cases h; exact h8
  | 9, C, h => by cases h; exact h9
  | j + 10, C, h => by cases h
section
variable {K : PySem.W.Frag} {f : Addr} {fd : FuncData}
abbrev InitO (K : PySem.W.Frag) (f : Addr) (fd : FuncData) : Prop := FunD K "__init__" "Option.__init__" (defArgs st_init) (defBody st_init) (defScope st_init) dvO [] f fd
theorem initO_b1 (F : InitO K f fd) : ∃ ds, Vals dvO ds ∧ Binds K fd optPs ds :=
  F.binds1 (ps := optPs) 2 0 (by simp) rfl (fun T kV doc pm an cdv ct us its h1 h2 => match us, its, h1, h2 with | [_, _], [_, _, _, _, _, _, _], _, _ => ⟨_, rfl, rfl⟩)
theorem initO_k (F : InitO K f fd) : ∃ its : List Value, KBn K fd optPs 2 ["takes"] (fun us ws => putO us its ws) (fun vs zs => putO vs dvO zs) :=
  F.kbindsD (ps := optPs) 2 ["takes"] (fun us its ws => putO us its ws) (by simp) (fun h1 h2 h3 => h1.append ((pick_vals h2 0).append ((pick_vals h3 0).append ((pick_vals h2 2).append ((pick_vals h2 3).append ((pick_vals h2 4).append ((pick_vals h2 5).append (pick_vals h2 6))))))))
    (fun T kV doc pm an cdv ct us its ws h1 h2 h3 => match us, its, ws, h1, h2, h3 with | [_, _], [_, _, _, _, _, _, _], [_], _, _, _ => ⟨_, rfl, rfl⟩)
abbrev InitP (K : PySem.W.Frag) (f : Addr) (fd : FuncData) : Prop := FunD K "__init__" "Place.__init__" (defArgs WP.st_init) (defBody WP.st_init) (defScope WP.st_init) dvP [] f fd
theorem initP_b1 (F : InitP K f fd) : ∃ ds, Vals dvP ds ∧ Binds K fd plcPs ds :=
  F.binds1 (ps := plcPs) 2 0 (by simp) rfl (fun T kV doc pm an cdv ct us its h1 h2 => match us, its, h1, h2 with | [_, _], [_, _, _, _], _, _ => ⟨_, rfl, rfl⟩)
theorem initP_k (F : InitP K f fd) : ∃ its : List Value, KBn K fd plcPs 2 ["many"] (fun us ws => putP us its ws) (fun vs zs => putP vs dvP zs) :=
  F.kbindsD (ps := plcPs) 2 ["many"] (fun us its ws => putP us its ws) (by simp) (fun h1 h2 h3 => h1.append ((pick_vals h3 0).append ((pick_vals h2 1).append ((pick_vals h2 2).append (pick_vals h2 3)))))
    (fun T kV doc pm an cdv ct us its ws h1 h2 h3 => match us, its, ws, h1, h2, h3 with | [_, _], [_, _, _, _], [_], _, _, _ => ⟨_, rfl, rfl⟩)
abbrev InitC (K : PySem.W.Frag) (f : Addr) (fd : FuncData) : Prop := FunD K "__init__" "Command.__init__" (defArgs st_Command_init) (defBody st_Command_init) (defScope st_Command_init) dvC [] f fd
theorem initC_b1 (F : InitC K f fd) : ∃ ds, Vals dvC ds ∧ Binds K fd cmdPs ds :=
  F.binds1 (ps := cmdPs) 2 0 (by simp) rfl (fun T kV doc pm an cdv ct us its h1 h2 => match us, its, h1, h2 with | [_, _], [_, _, _, _, _], _, _ => ⟨_, rfl, rfl⟩)
theorem initC_k (F : InitC K f fd) : ∃ its : List Value, KBn K fd cmdPs 2 ["about"] (fun us ws => putC us its ws) (fun vs zs => putC vs dvC zs) :=
  F.kbindsD (ps := cmdPs) 2 ["about"] (fun us its ws => putC us its ws) (by simp) (fun h1 h2 h3 => h1.append ((pick_vals h2 0).append ((pick_vals h2 1).append ((pick_vals h2 2).append ((pick_vals h2 3).append (pick_vals h3 0))))))
    (fun T kV doc pm an cdv ct us its ws h1 h2 h3 => match us, its, ws, h1, h2, h3 with | [_, _], [_, _, _, _, _], [_], _, _, _ => ⟨_, rfl, rfl⟩)
end
theorem all_mk {l : PySem.W.OpenLaw} {w : World} {K : PySem.W.Frag} {h : Heap} {mg : Str → Option Value} {fa : Addr} (X : K.In h) (G : h.Ns mainGlobals mg) (hfa : mg "law" = some (.ref fa))
    {fWithin : Addr} {odWithin anWithin : Option Addr} {slWithin : Array (Option Value)} {ocWithin kVWithin dcWithin pmWithin cdWithin ctWithin : Value} {fIsName : Addr} {odIsName anIsName : Option Addr} {slIsName : Array (Option Value)} {ocIsName kVIsName dcIsName pmIsName cdIsName ctIsName : Value} {fIsAbout : Addr} {odIsAbout anIsAbout : Option Addr} {slIsAbout : Array (Option Value)} {ocIsAbout kVIsAbout dcIsAbout pmIsAbout cdIsAbout ctIsAbout : Value} {fIsAmong : Addr} {odIsAmong anIsAmong : Option Addr} {slIsAmong : Array (Option Value)} {ocIsAmong kVIsAmong dcIsAmong pmIsAmong cdIsAmong ctIsAmong : Value} {fIsDefault : Addr} {odIsDefault anIsDefault : Option Addr} {slIsDefault : Array (Option Value)} {ocIsDefault kVIsDefault dcIsDefault pmIsDefault cdIsDefault ctIsDefault : Value} {fIsShort : Addr} {odIsShort anIsShort : Option Addr} {slIsShort : Array (Option Value)} {ocIsShort kVIsShort dcIsShort pmIsShort cdIsShort ctIsShort : Value} {fIsTruth : Addr} {odIsTruth anIsTruth : Option Addr} {slIsTruth : Array (Option Value)} {ocIsTruth kVIsTruth dcIsTruth pmIsTruth cdIsTruth ctIsTruth : Value} {fLWithin : Addr} {odLWithin anLWithin : Option Addr} {slLWithin : Array (Option Value)} {ocLWithin kVLWithin dcLWithin pmLWithin cdLWithin ctLWithin : Value} {fAreO : Addr} {odAreO anAreO : Option Addr} {slAreO : Array (Option Value)} {ocAreO kVAreO dcAreO pmAreO cdAreO ctAreO : Value} {fAreP : Addr} {odAreP anAreP : Option Addr} {slAreP : Array (Option Value)} {ocAreP kVAreP dcAreP pmAreP cdAreP ctAreP : Value} {fIsG : Addr} {odIsG anIsG : Option Addr} {slIsG : Array (Option Value)} {ocIsG kVIsG dcIsG pmIsG cdIsG ctIsG : Value} {fAreG : Addr} {odAreG anAreG : Option Addr} {slAreG : Array (Option Value)} {ocAreG kVAreG dcAreG pmAreG cdAreG ctAreG : Value} {fAreC : Addr} {odAreC anAreC : Option Addr} {slAreC : Array (Option Value)} {ocAreC kVAreC dcAreC pmAreC cdAreC ctAreC : Value} {fEmpty : Addr} {odEmpty anEmpty : Option Addr} {slEmpty : Array (Option Value)} {ocEmpty kVEmpty dcEmpty pmEmpty cdEmpty ctEmpty : Value} {fCopied : Addr} {odCopied anCopied : Option Addr} {slCopied : Array (Option Value)} {ocCopied kVCopied dcCopied pmCopied cdCopied ctCopied : Value} {fCell : Addr} {odCell anCell : Option Addr} {slCell : Array (Option Value)} {ocCell kVCell dcCell pmCell cdCell ctCell : Value} {fPot : Addr} {odPot anPot : Option Addr} {slPot : Array (Option Value)} {ocPot kVPot dcPot pmPot cdPot ctPot : Value} {fTake : Addr} {odTake anTake : Option Addr} {slTake : Array (Option Value)} {ocTake kVTake dcTake pmTake cdTake ctTake : Value} {fSigns : Addr} {odSigns anSigns : Option Addr} {slSigns : Array (Option Value)} {ocSigns kVSigns dcSigns pmSigns cdSigns ctSigns : Value} {fText : Addr} {odText anText : Option Addr} {slText : Array (Option Value)} {ocText kVText dcText pmText cdText ctText : Value} {fKinds : Addr} {odKinds anKinds : Option Addr} {slKinds : Array (Option Value)} {ocKinds kVKinds dcKinds pmKinds cdKinds ctKinds : Value} {fCalled : Addr} {odCalled anCalled : Option Addr} {slCalled : Array (Option Value)} {ocCalled kVCalled dcCalled pmCalled cdCalled ctCalled : Value} {fMet : Addr} {odMet anMet : Option Addr} {slMet : Array (Option Value)} {ocMet kVMet dcMet pmMet cdMet ctMet : Value} {fField : Addr} {odField anField : Option Addr} {slField : Array (Option Value)} {ocField kVField dcField pmField cdField ctField : Value} {fUnmd : Addr} {odUnmd anUnmd : Option Addr} {slUnmd : Array (Option Value)} {ocUnmd kVUnmd dcUnmd pmUnmd cdUnmd ctUnmd : Value} {fBare : Addr} {odBare anBare : Option Addr} {slBare : Array (Option Value)} {ocBare kVBare dcBare pmBare cdBare ctBare : Value} {BE : Addr} {CNO : Addr} {nmO qO : Str} {NNO : Addr} {bsO : List Value} {snO : List Str} {subO : List Value} {abO : Bool} {colO : Option Bool} {ddO : Option Addr} {m0O m1O m2O m3O m5O : Option Value} {fEO : Addr} {odEO anEO : Option Addr} {slEO : Array (Option Value)} {ocEO kVEO dcEO pmEO cdEO ctEO : Value} {CO TO : Addr} {odTO : Option Addr} {ocTO : Value} {tO1 tO2 tO3 tO4 : Tok} {nTO : Nat} {slTO : Array (Option Value)} {fIO : Addr} {odIO anIO : Option Addr} {slIO : Array (Option Value)} {ocIO kVIO dcIO pmIO cdIO ctIO : Value} {CNP : Addr} {nmP qP : Str} {NNP : Addr} {bsP : List Value} {snP : List Str} {subP : List Value} {abP : Bool} {colP : Option Bool} {ddP : Option Addr} {m0P m1P m2P m3P m5P : Option Value} {fEP : Addr} {odEP anEP : Option Addr} {slEP : Array (Option Value)} {ocEP kVEP dcEP pmEP cdEP ctEP : Value} {CP TP : Addr} {odTP : Option Addr} {ocTP : Value} {tP1 tP2 tP3 : Tok} {nTP : Nat} {slTP : Array (Option Value)} {fIP : Addr} {odIP anIP : Option Addr} {slIP : Array (Option Value)} {ocIP kVIP dcIP pmIP cdIP ctIP : Value} {CNC : Addr} {nmC qC : Str} {NNC : Addr} {bsC : List Value} {snC : List Str} {subC : List Value} {abC : Bool} {colC : Option Bool} {ddC : Option Addr} {m0C m1C m2C m3C m5C : Option Value} {fEC : Addr} {odEC anEC : Option Addr} {slEC : Array (Option Value)} {ocEC kVEC dcEC pmEC cdEC ctEC : Value} {CC TC : Addr} {odTC : Option Addr} {ocTC : Value} {tC1 : Tok} {nTC : Nat} {slTC : Array (Option Value)} {fIC : Addr} {odIC anIC : Option Addr} {slIC : Array (Option Value)} {ocIC kVIC dcIC pmIC cdIC ctIC : Value} {TD : Addr} {odTD : Option Addr} {ocTD : Value} {tTD : Tok} {nTD : Nat} {slTD : Array (Option Value)} {CNU : Addr} {nmU qU : Str} {NNU : Addr} {bsU : List Value} {snU : List Str} {subU : List Value} {abU : Bool} {colU : Option Bool} {ddU : Option Addr} {m0U m1U m2U m3U m5U : Option Value} {fEU : Addr} {odEU anEU : Option Addr} {slEU : Array (Option Value)} {ocEU kVEU dcEU pmEU cdEU ctEU : Value} {CN3 : Addr} {CN4 : Addr} {CN5 : Addr} {CN6 : Addr} {CN7 : Addr} {CN8 : Addr} {u1 u2 u3 u4 u5 : Tok} {w1 w2 w3 w4 w5 w6 : Tok} {aT aU aW aM : Addr} {odA odB odC odM : Option Addr} {s1 s2 s3 s4 s5 s6 s7 s8 s9 r1 r2 r3 r4 : Tok} {nA nB nC nM : Nat} {slA slB slC slM : Array (Option Value)} {fLaw : Addr} {odLaw anLaw : Option Addr} {slLaw : Array (Option Value)} {ocLaw kVLaw dcLaw pmLaw cdLaw ctLaw : Value}
    (aWithin : PySem.W.nsIn K mainGlobals "is_text_within" = some (some (.ref fWithin)))
    (lWithin : K.lookup fWithin = some ⟨ocWithin, odWithin, .func (PySem.W.fnOf "is_text_within" "is_text_within" (defArgs st_is_text_within) (defBody st_is_text_within) (defScope st_is_text_within) .none kVWithin dcWithin pmWithin anWithin cdWithin ctWithin), slWithin⟩)
    (cWithin : PySem.W.codeIn K cdWithin "is_text_within" = true)
    (kWithin : PySem.W.keepIn K (.ref fWithin) = true)
    (aIsName : PySem.W.nsIn K mainGlobals "is_name" = some (some (.ref fIsName)))
    (lIsName : K.lookup fIsName = some ⟨ocIsName, odIsName, .func (PySem.W.fnOf "is_name" "is_name" (defArgs st_is_name) (defBody st_is_name) (defScope st_is_name) .none kVIsName dcIsName pmIsName anIsName cdIsName ctIsName), slIsName⟩)
    (cIsName : PySem.W.codeIn K cdIsName "is_name" = true)
    (kIsName : PySem.W.keepIn K (.ref fIsName) = true)
    (aIsAbout : PySem.W.nsIn K mainGlobals "is_about" = some (some (.ref fIsAbout)))
    (lIsAbout : K.lookup fIsAbout = some ⟨ocIsAbout, odIsAbout, .func (PySem.W.fnOf "is_about" "is_about" (defArgs st_is_about) (defBody st_is_about) (defScope st_is_about) .none kVIsAbout dcIsAbout pmIsAbout anIsAbout cdIsAbout ctIsAbout), slIsAbout⟩)
    (cIsAbout : PySem.W.codeIn K cdIsAbout "is_about" = true)
    (kIsAbout : PySem.W.keepIn K (.ref fIsAbout) = true)
    (aIsAmong : PySem.W.nsIn K mainGlobals "is_among" = some (some (.ref fIsAmong)))
    (lIsAmong : K.lookup fIsAmong = some ⟨ocIsAmong, odIsAmong, .func (PySem.W.fnOf "is_among" "is_among" (defArgs st_is_among) (defBody st_is_among) (defScope st_is_among) .none kVIsAmong dcIsAmong pmIsAmong anIsAmong cdIsAmong ctIsAmong), slIsAmong⟩)
    (cIsAmong : PySem.W.codeIn K cdIsAmong "is_among" = true)
    (kIsAmong : PySem.W.keepIn K (.ref fIsAmong) = true)
    (aIsDefault : PySem.W.nsIn K mainGlobals "is_default" = some (some (.ref fIsDefault)))
    (lIsDefault : K.lookup fIsDefault = some ⟨ocIsDefault, odIsDefault, .func (PySem.W.fnOf "is_default" "is_default" (defArgs st_is_default) (defBody st_is_default) (defScope st_is_default) .none kVIsDefault dcIsDefault pmIsDefault anIsDefault cdIsDefault ctIsDefault), slIsDefault⟩)
    (cIsDefault : PySem.W.codeIn K cdIsDefault "is_default" = true)
    (kIsDefault : PySem.W.keepIn K (.ref fIsDefault) = true)
    (aIsShort : PySem.W.nsIn K mainGlobals "is_short_or_empty" = some (some (.ref fIsShort)))
    (lIsShort : K.lookup fIsShort = some ⟨ocIsShort, odIsShort, .func (PySem.W.fnOf "is_short_or_empty" "is_short_or_empty" (defArgs st_is_short_or_empty) (defBody st_is_short_or_empty) (defScope st_is_short_or_empty) .none kVIsShort dcIsShort pmIsShort anIsShort cdIsShort ctIsShort), slIsShort⟩)
    (cIsShort : PySem.W.codeIn K cdIsShort "is_short_or_empty" = true)
    (kIsShort : PySem.W.keepIn K (.ref fIsShort) = true)
    (aIsTruth : PySem.W.nsIn K mainGlobals "is_truth" = some (some (.ref fIsTruth)))
    (lIsTruth : K.lookup fIsTruth = some ⟨ocIsTruth, odIsTruth, .func (PySem.W.fnOf "is_truth" "is_truth" (defArgs st_is_truth) (defBody st_is_truth) (defScope st_is_truth) .none kVIsTruth dcIsTruth pmIsTruth anIsTruth cdIsTruth ctIsTruth), slIsTruth⟩)
    (cIsTruth : PySem.W.codeIn K cdIsTruth "is_truth" = true)
    (kIsTruth : PySem.W.keepIn K (.ref fIsTruth) = true)
    (aLWithin : PySem.W.nsIn K mainGlobals "is_list_within" = some (some (.ref fLWithin)))
    (lLWithin : K.lookup fLWithin = some ⟨ocLWithin, odLWithin, .func (PySem.W.fnOf "is_list_within" "is_list_within" (defArgs st_is_list_within) (defBody st_is_list_within) (defScope st_is_list_within) .none kVLWithin dcLWithin pmLWithin anLWithin cdLWithin ctLWithin), slLWithin⟩)
    (cLWithin : PySem.W.codeIn K cdLWithin "is_list_within" = true)
    (kLWithin : PySem.W.keepIn K (.ref fLWithin) = true)
    (aAreO : PySem.W.nsIn K mainGlobals "are_options" = some (some (.ref fAreO)))
    (lAreO : K.lookup fAreO = some ⟨ocAreO, odAreO, .func (PySem.W.fnOf "are_options" "are_options" (defArgs st_are_options) (defBody st_are_options) (defScope st_are_options) .none kVAreO dcAreO pmAreO anAreO cdAreO ctAreO), slAreO⟩)
    (cAreO : PySem.W.codeIn K cdAreO "are_options" = true)
    (kAreO : PySem.W.keepIn K (.ref fAreO) = true)
    (aAreP : PySem.W.nsIn K mainGlobals "are_places" = some (some (.ref fAreP)))
    (lAreP : K.lookup fAreP = some ⟨ocAreP, odAreP, .func (PySem.W.fnOf "are_places" "are_places" (defArgs st_are_places) (defBody st_are_places) (defScope st_are_places) .none kVAreP dcAreP pmAreP anAreP cdAreP ctAreP), slAreP⟩)
    (cAreP : PySem.W.codeIn K cdAreP "are_places" = true)
    (kAreP : PySem.W.keepIn K (.ref fAreP) = true)
    (aIsG : PySem.W.nsIn K mainGlobals "is_group" = some (some (.ref fIsG)))
    (lIsG : K.lookup fIsG = some ⟨ocIsG, odIsG, .func (PySem.W.fnOf "is_group" "is_group" (defArgs st_is_group) (defBody st_is_group) (defScope st_is_group) .none kVIsG dcIsG pmIsG anIsG cdIsG ctIsG), slIsG⟩)
    (cIsG : PySem.W.codeIn K cdIsG "is_group" = true)
    (kIsG : PySem.W.keepIn K (.ref fIsG) = true)
    (aAreG : PySem.W.nsIn K mainGlobals "are_groups" = some (some (.ref fAreG)))
    (lAreG : K.lookup fAreG = some ⟨ocAreG, odAreG, .func (PySem.W.fnOf "are_groups" "are_groups" (defArgs st_are_groups) (defBody st_are_groups) (defScope st_are_groups) .none kVAreG dcAreG pmAreG anAreG cdAreG ctAreG), slAreG⟩)
    (cAreG : PySem.W.codeIn K cdAreG "are_groups" = true)
    (kAreG : PySem.W.keepIn K (.ref fAreG) = true)
    (aAreC : PySem.W.nsIn K mainGlobals "are_commands" = some (some (.ref fAreC)))
    (lAreC : K.lookup fAreC = some ⟨ocAreC, odAreC, .func (PySem.W.fnOf "are_commands" "are_commands" (defArgs st_are_commands) (defBody st_are_commands) (defScope st_are_commands) .none kVAreC dcAreC pmAreC anAreC cdAreC ctAreC), slAreC⟩)
    (cAreC : PySem.W.codeIn K cdAreC "are_commands" = true)
    (kAreC : PySem.W.keepIn K (.ref fAreC) = true)
    (aEmpty : PySem.W.nsIn K mainGlobals "empty_for_none" = some (some (.ref fEmpty)))
    (lEmpty : K.lookup fEmpty = some ⟨ocEmpty, odEmpty, .func (PySem.W.fnOf "empty_for_none" "empty_for_none" (defArgs st_empty_for_none) (defBody st_empty_for_none) (defScope st_empty_for_none) .none kVEmpty dcEmpty pmEmpty anEmpty cdEmpty ctEmpty), slEmpty⟩)
    (cEmpty : PySem.W.codeIn K cdEmpty "empty_for_none" = true)
    (kEmpty : PySem.W.keepIn K (.ref fEmpty) = true)
    (aCopied : PySem.W.nsIn K mainGlobals "copied_groups" = some (some (.ref fCopied)))
    (lCopied : K.lookup fCopied = some ⟨ocCopied, odCopied, .func (PySem.W.fnOf "copied_groups" "copied_groups" (defArgs st_copied_groups) (defBody st_copied_groups) (defScope st_copied_groups) .none kVCopied dcCopied pmCopied anCopied cdCopied ctCopied), slCopied⟩)
    (cCopied : PySem.W.codeIn K cdCopied "copied_groups" = true)
    (kCopied : PySem.W.keepIn K (.ref fCopied) = true)
    (aCell : PySem.W.nsIn K mainGlobals "_law_cell" = some (some (.ref fCell)))
    (lCell : K.lookup fCell = some ⟨ocCell, odCell, .func (PySem.W.fnOf "_law_cell" "_law_cell" (defArgs sCell) (defBody sCell) (defScope sCell) .none kVCell dcCell pmCell anCell cdCell ctCell), slCell⟩)
    (cCell : PySem.W.codeIn K cdCell "_law_cell" = true)
    (kCell : PySem.W.keepIn K (.ref fCell) = true)
    (aPot : PySem.W.nsIn K mainGlobals "_law_pot" = some (some (.ref fPot)))
    (lPot : K.lookup fPot = some ⟨ocPot, odPot, .func (PySem.W.fnOf "_law_pot" "_law_pot" (defArgs sPot) (defBody sPot) (defScope sPot) .none kVPot dcPot pmPot anPot cdPot ctPot), slPot⟩)
    (cPot : PySem.W.codeIn K cdPot "_law_pot" = true)
    (kPot : PySem.W.keepIn K (.ref fPot) = true)
    (aTake : PySem.W.nsIn K mainGlobals "_law_take" = some (some (.ref fTake)))
    (lTake : K.lookup fTake = some ⟨ocTake, odTake, .func (PySem.W.fnOf "_law_take" "_law_take" (defArgs sTake) (defBody sTake) (defScope sTake) .none kVTake dcTake pmTake anTake cdTake ctTake), slTake⟩)
    (cTake : PySem.W.codeIn K cdTake "_law_take" = true)
    (kTake : PySem.W.keepIn K (.ref fTake) = true)
    (aSigns : PySem.W.nsIn K mainGlobals "_law_signs" = some (some (.ref fSigns)))
    (lSigns : K.lookup fSigns = some ⟨ocSigns, odSigns, .func (PySem.W.fnOf "_law_signs" "_law_signs" (defArgs sSigns) (defBody sSigns) (defScope sSigns) .none kVSigns dcSigns pmSigns anSigns cdSigns ctSigns), slSigns⟩)
    (cSigns : PySem.W.codeIn K cdSigns "_law_signs" = true)
    (kSigns : PySem.W.keepIn K (.ref fSigns) = true)
    (aText : PySem.W.nsIn K mainGlobals "_law_text" = some (some (.ref fText)))
    (lText : K.lookup fText = some ⟨ocText, odText, .func (PySem.W.fnOf "_law_text" "_law_text" (defArgs sText) (defBody sText) (defScope sText) .none kVText dcText pmText anText cdText ctText), slText⟩)
    (cText : PySem.W.codeIn K cdText "_law_text" = true)
    (kText : PySem.W.keepIn K (.ref fText) = true)
    (aKinds : PySem.W.nsIn K mainGlobals "_law_kinds" = some (some (.ref fKinds)))
    (lKinds : K.lookup fKinds = some ⟨ocKinds, odKinds, .func (PySem.W.fnOf "_law_kinds" "_law_kinds" (defArgs st_kinds) (defBody st_kinds) (defScope st_kinds) .none kVKinds dcKinds pmKinds anKinds cdKinds ctKinds), slKinds⟩)
    (cKinds : PySem.W.codeIn K cdKinds "_law_kinds" = true)
    (kKinds : PySem.W.keepIn K (.ref fKinds) = true)
    (aCalled : PySem.W.nsIn K mainGlobals "_law_called" = some (some (.ref fCalled)))
    (lCalled : K.lookup fCalled = some ⟨ocCalled, odCalled, .func (PySem.W.fnOf "_law_called" "_law_called" (defArgs st_called) (defBody st_called) (defScope st_called) .none kVCalled dcCalled pmCalled anCalled cdCalled ctCalled), slCalled⟩)
    (cCalled : PySem.W.codeIn K cdCalled "_law_called" = true)
    (kCalled : PySem.W.keepIn K (.ref fCalled) = true)
    (aMet : PySem.W.nsIn K mainGlobals "_law_met" = some (some (.ref fMet)))
    (lMet : K.lookup fMet = some ⟨ocMet, odMet, .func (PySem.W.fnOf "_law_met" "_law_met" (defArgs st_met) (defBody st_met) (defScope st_met) .none kVMet dcMet pmMet anMet cdMet ctMet), slMet⟩)
    (cMet : PySem.W.codeIn K cdMet "_law_met" = true)
    (kMet : PySem.W.keepIn K (.ref fMet) = true)
    (aField : PySem.W.nsIn K mainGlobals "_law_field" = some (some (.ref fField)))
    (lField : K.lookup fField = some ⟨ocField, odField, .func (PySem.W.fnOf "_law_field" "_law_field" (defArgs st_field) (defBody st_field) (defScope st_field) .none kVField dcField pmField anField cdField ctField), slField⟩)
    (cField : PySem.W.codeIn K cdField "_law_field" = true)
    (kField : PySem.W.keepIn K (.ref fField) = true)
    (aUnmd : PySem.W.nsIn K mainGlobals "_law_unmade" = some (some (.ref fUnmd)))
    (lUnmd : K.lookup fUnmd = some ⟨ocUnmd, odUnmd, .func (PySem.W.fnOf "_law_unmade" "_law_unmade" (defArgs st_unmade) (defBody st_unmade) (defScope st_unmade) .none kVUnmd dcUnmd pmUnmd anUnmd cdUnmd ctUnmd), slUnmd⟩)
    (cUnmd : PySem.W.codeIn K cdUnmd "_law_unmade" = true)
    (kUnmd : PySem.W.keepIn K (.ref fUnmd) = true)
    (aBare : PySem.W.nsIn K mainGlobals "_law_bare" = some (some (.ref fBare)))
    (lBare : K.lookup fBare = some ⟨ocBare, odBare, .func (PySem.W.fnOf "_law_bare" "_law_bare" (defArgs st_bare) (defBody st_bare) (defScope st_bare) .none kVBare dcBare pmBare anBare cdBare ctBare), slBare⟩)
    (cBare : PySem.W.codeIn K cdBare "_law_bare" = true)
    (kBare : PySem.W.keepIn K (.ref fBare) = true)
    (aB : PySem.W.nsIn K mainGlobals "BenchError" = some (some (.ref BE)))
    (tB : PySem.W.typeIn K (.ref BE) = some (.type "type"))
    (hdB : PySem.W.hasDictIn K BE = true)
    (eB : PySem.W.subIn K (.ref BE) (.type "BaseException") = some true)
    (ssB : PySem.W.subIn K (.ref BE) (.ref BE) = some true)
    (spN : PySem.W.specialIn K (.builtin "object.__class__") "__get__" = some (some (.builtin "getset_descriptor.__get__")))
    (tkN : PySem.W.takesIn K (.builtin "object.__class__") = some true)
    (aNO : PySem.W.nsIn K mainGlobals "NoOption" = some (some (.ref CNO)))
    (xNO : K.lookup CNO = some (excClassObj nmO qO CNO NNO bsO [.ref BE, .type "ValueError", .type "Exception", .type "BaseException", .type "object"] true snO subO abO colO ddO m0O m1O m2O m3O m5O "ValueError.__new__"))
    (aEO : PySem.W.findIn K (.ref CNO) "__init__" = some (some (.ref fEO)))
    (lEO : K.lookup fEO = some ⟨ocEO, odEO, .func (PySem.W.fnOf "__init__" "NoOption.__init__" (defArgs st_err) (defBody st_err) (defScope st_err) .none kVEO dcEO pmEO anEO cdEO ctEO), slEO⟩)
    (cEO : PySem.W.codeIn K cdEO "NoOption.__init__" = true)
    (kEO : PySem.W.keepIn K (.ref fEO) = true)
    (tEO : PySem.W.typeIn K (.ref fEO) = some (.type "function"))
    (saNO : PySem.W.findIn K (.ref CNO) "__setattr__" = some (some (.builtin "object.__setattr__")))
    (gaNO : PySem.W.findIn K (.ref CNO) "__getattribute__" = some (some (.builtin "BaseException.__getattribute__")))
    (ggNO : PySem.W.findIn K (.ref CNO) "__getattr__" = some none)
    (hcNO : PySem.W.findIn K (.ref CNO) "__class__" = some (some (.builtin "object.__class__")))
    (nfNO : PySem.W.findIn K (.ref CNO) "field" = some none)
    (kNO : PySem.W.keepIn K (.ref CNO) = true)
    (moNO : PySem.W.mroIn K CNO (.type "object") = some true)
    (sVO : PySem.W.subIn K (.ref CNO) (.type "ValueError") = some true)
    (sBO : PySem.W.subIn K (.ref CNO) (.ref BE) = some true)
    (aCO : PySem.W.nsIn K mainGlobals "Option" = some (some (.ref CO)))
    (aIO : PySem.W.findIn K (.ref CO) "__init__" = some (some (.ref fIO)))
    (lIO : K.lookup fIO = some ⟨ocIO, odIO, .func (PySem.W.fnOf "__init__" "Option.__init__" (defArgs st_init) (defBody st_init) (defScope st_init) (.ref TO) kVIO dcIO pmIO anIO cdIO ctIO), slIO⟩)
    (cIO : PySem.W.codeIn K cdIO "Option.__init__" = true)
    (kIO : PySem.W.keepIn K (.ref fIO) = true)
    (iIO : PySem.W.isFn K (.ref fIO) = true)
    (lTO : K.lookup TO = some ⟨ocTO, odTO, .seq [.str (Str.ofString "") tO1, .str (Str.ofString "flag") tO2, .str (Str.ofString "word") tO3, .none, .bool false, .bool false, .str (Str.ofString "") tO4].toArray nTO, slTO⟩)
    (nhO : PySem.W.findIn K (.ref CO) "held" = some none)
    (pgO : PySem.W.plainGet K CO Str.empty = true)
    (hdO : PySem.W.hasDictIn K CO = true)
    (poO : PySem.W.plainOver K CO = true)
    (saO : PySem.W.findIn K (.ref CO) "__setattr__" = some (some (.builtin "object.__setattr__")))
    (mkO : PySem.W.makesIn K CO = true)
    (kCO : PySem.W.keepIn K (.ref CO) = true)
    (tyO : PySem.W.typeIn K (.ref CO) = some (.type "type"))
    (ssO : PySem.W.subIn K (.ref CO) (.ref CO) = some true)
    (moO : PySem.W.mroIn K CO (.type "object") = some true)
    (caO : PySem.W.findIn K (.ref CO) "__class__" = some (some (.builtin "object.__class__")))
    (sbOstr : PySem.W.subIn K (.ref CO) (.type "str") = some false)
    (sbOlist : PySem.W.subIn K (.ref CO) (.type "list") = some false)
    (nrONoneType : PySem.W.subIn K (.type "NoneType") (.ref CO) = some false)
    (nrObool : PySem.W.subIn K (.type "bool") (.ref CO) = some false)
    (nrOint : PySem.W.subIn K (.type "int") (.ref CO) = some false)
    (nrOstr : PySem.W.subIn K (.type "str") (.ref CO) = some false)
    (nrOlist : PySem.W.subIn K (.type "list") (.ref CO) = some false)
    (nrOtuple : PySem.W.subIn K (.type "tuple") (.ref CO) = some false)
    (nrOdict : PySem.W.subIn K (.type "dict") (.ref CO) = some false)
    (aNP : PySem.W.nsIn K mainGlobals "NoPlace" = some (some (.ref CNP)))
    (xNP : K.lookup CNP = some (excClassObj nmP qP CNP NNP bsP [.ref BE, .type "ValueError", .type "Exception", .type "BaseException", .type "object"] true snP subP abP colP ddP m0P m1P m2P m3P m5P "ValueError.__new__"))
    (aEP : PySem.W.findIn K (.ref CNP) "__init__" = some (some (.ref fEP)))
    (lEP : K.lookup fEP = some ⟨ocEP, odEP, .func (PySem.W.fnOf "__init__" "NoPlace.__init__" (defArgs WP.st_err) (defBody WP.st_err) (defScope WP.st_err) .none kVEP dcEP pmEP anEP cdEP ctEP), slEP⟩)
    (cEP : PySem.W.codeIn K cdEP "NoPlace.__init__" = true)
    (kEP : PySem.W.keepIn K (.ref fEP) = true)
    (tEP : PySem.W.typeIn K (.ref fEP) = some (.type "function"))
    (saNP : PySem.W.findIn K (.ref CNP) "__setattr__" = some (some (.builtin "object.__setattr__")))
    (gaNP : PySem.W.findIn K (.ref CNP) "__getattribute__" = some (some (.builtin "BaseException.__getattribute__")))
    (ggNP : PySem.W.findIn K (.ref CNP) "__getattr__" = some none)
    (hcNP : PySem.W.findIn K (.ref CNP) "__class__" = some (some (.builtin "object.__class__")))
    (nfNP : PySem.W.findIn K (.ref CNP) "field" = some none)
    (kNP : PySem.W.keepIn K (.ref CNP) = true)
    (moNP : PySem.W.mroIn K CNP (.type "object") = some true)
    (sVP : PySem.W.subIn K (.ref CNP) (.type "ValueError") = some true)
    (sBP : PySem.W.subIn K (.ref CNP) (.ref BE) = some true)
    (aCP : PySem.W.nsIn K mainGlobals "Place" = some (some (.ref CP)))
    (aIP : PySem.W.findIn K (.ref CP) "__init__" = some (some (.ref fIP)))
    (lIP : K.lookup fIP = some ⟨ocIP, odIP, .func (PySem.W.fnOf "__init__" "Place.__init__" (defArgs WP.st_init) (defBody WP.st_init) (defScope WP.st_init) (.ref TP) kVIP dcIP pmIP anIP cdIP ctIP), slIP⟩)
    (cIP : PySem.W.codeIn K cdIP "Place.__init__" = true)
    (kIP : PySem.W.keepIn K (.ref fIP) = true)
    (iIP : PySem.W.isFn K (.ref fIP) = true)
    (lTP : K.lookup TP = some ⟨ocTP, odTP, .seq [.str (Str.ofString "one") tP1, .str (Str.ofString "word") tP2, .none, .str (Str.ofString "") tP3].toArray nTP, slTP⟩)
    (nhP : PySem.W.findIn K (.ref CP) "held" = some none)
    (pgP : PySem.W.plainGet K CP Str.empty = true)
    (hdP : PySem.W.hasDictIn K CP = true)
    (poP : PySem.W.plainOver K CP = true)
    (saP : PySem.W.findIn K (.ref CP) "__setattr__" = some (some (.builtin "object.__setattr__")))
    (mkP : PySem.W.makesIn K CP = true)
    (kCP : PySem.W.keepIn K (.ref CP) = true)
    (tyP : PySem.W.typeIn K (.ref CP) = some (.type "type"))
    (ssP : PySem.W.subIn K (.ref CP) (.ref CP) = some true)
    (moP : PySem.W.mroIn K CP (.type "object") = some true)
    (caP : PySem.W.findIn K (.ref CP) "__class__" = some (some (.builtin "object.__class__")))
    (sbPstr : PySem.W.subIn K (.ref CP) (.type "str") = some false)
    (sbPlist : PySem.W.subIn K (.ref CP) (.type "list") = some false)
    (nrPNoneType : PySem.W.subIn K (.type "NoneType") (.ref CP) = some false)
    (nrPbool : PySem.W.subIn K (.type "bool") (.ref CP) = some false)
    (nrPint : PySem.W.subIn K (.type "int") (.ref CP) = some false)
    (nrPstr : PySem.W.subIn K (.type "str") (.ref CP) = some false)
    (nrPlist : PySem.W.subIn K (.type "list") (.ref CP) = some false)
    (nrPtuple : PySem.W.subIn K (.type "tuple") (.ref CP) = some false)
    (nrPdict : PySem.W.subIn K (.type "dict") (.ref CP) = some false)
    (aNC : PySem.W.nsIn K mainGlobals "NoCommand" = some (some (.ref CNC)))
    (xNC : K.lookup CNC = some (excClassObj nmC qC CNC NNC bsC [.ref BE, .type "ValueError", .type "Exception", .type "BaseException", .type "object"] true snC subC abC colC ddC m0C m1C m2C m3C m5C "ValueError.__new__"))
    (aEC : PySem.W.findIn K (.ref CNC) "__init__" = some (some (.ref fEC)))
    (lEC : K.lookup fEC = some ⟨ocEC, odEC, .func (PySem.W.fnOf "__init__" "NoCommand.__init__" (defArgs st_errC) (defBody st_errC) (defScope st_errC) .none kVEC dcEC pmEC anEC cdEC ctEC), slEC⟩)
    (cEC : PySem.W.codeIn K cdEC "NoCommand.__init__" = true)
    (kEC : PySem.W.keepIn K (.ref fEC) = true)
    (tEC : PySem.W.typeIn K (.ref fEC) = some (.type "function"))
    (saNC : PySem.W.findIn K (.ref CNC) "__setattr__" = some (some (.builtin "object.__setattr__")))
    (gaNC : PySem.W.findIn K (.ref CNC) "__getattribute__" = some (some (.builtin "BaseException.__getattribute__")))
    (ggNC : PySem.W.findIn K (.ref CNC) "__getattr__" = some none)
    (hcNC : PySem.W.findIn K (.ref CNC) "__class__" = some (some (.builtin "object.__class__")))
    (nfNC : PySem.W.findIn K (.ref CNC) "field" = some none)
    (kNC : PySem.W.keepIn K (.ref CNC) = true)
    (moNC : PySem.W.mroIn K CNC (.type "object") = some true)
    (sVC : PySem.W.subIn K (.ref CNC) (.type "ValueError") = some true)
    (sBC : PySem.W.subIn K (.ref CNC) (.ref BE) = some true)
    (aCC : PySem.W.nsIn K mainGlobals "Command" = some (some (.ref CC)))
    (aIC : PySem.W.findIn K (.ref CC) "__init__" = some (some (.ref fIC)))
    (lIC : K.lookup fIC = some ⟨ocIC, odIC, .func (PySem.W.fnOf "__init__" "Command.__init__" (defArgs st_Command_init) (defBody st_Command_init) (defScope st_Command_init) (.ref TC) kVIC dcIC pmIC anIC cdIC ctIC), slIC⟩)
    (cIC : PySem.W.codeIn K cdIC "Command.__init__" = true)
    (kIC : PySem.W.keepIn K (.ref fIC) = true)
    (iIC : PySem.W.isFn K (.ref fIC) = true)
    (lTC : K.lookup TC = some ⟨ocTC, odTC, .seq [.none, .none, .none, .none, .str (Str.ofString "") tC1].toArray nTC, slTC⟩)
    (no0 : PySem.W.findIn K (.ref CC) "own_name" = some none)
    (no1 : PySem.W.findIn K (.ref CC) "own_options" = some none)
    (no2 : PySem.W.findIn K (.ref CC) "own_places" = some none)
    (no3 : PySem.W.findIn K (.ref CC) "own_groups" = some none)
    (no4 : PySem.W.findIn K (.ref CC) "own_commands" = some none)
    (no5 : PySem.W.findIn K (.ref CC) "own_about" = some none)
    (pgC : PySem.W.plainGet K CC Str.empty = true)
    (hdC : PySem.W.hasDictIn K CC = true)
    (poC : PySem.W.plainOver K CC = true)
    (saC : PySem.W.findIn K (.ref CC) "__setattr__" = some (some (.builtin "object.__setattr__")))
    (mkC : PySem.W.makesIn K CC = true)
    (kCC : PySem.W.keepIn K (.ref CC) = true)
    (tyC : PySem.W.typeIn K (.ref CC) = some (.type "type"))
    (ssC : PySem.W.subIn K (.ref CC) (.ref CC) = some true)
    (moC : PySem.W.mroIn K CC (.type "object") = some true)
    (caC : PySem.W.findIn K (.ref CC) "__class__" = some (some (.builtin "object.__class__")))
    (sbCstr : PySem.W.subIn K (.ref CC) (.type "str") = some false)
    (sbClist : PySem.W.subIn K (.ref CC) (.type "list") = some false)
    (nrCNoneType : PySem.W.subIn K (.type "NoneType") (.ref CC) = some false)
    (nrCbool : PySem.W.subIn K (.type "bool") (.ref CC) = some false)
    (nrCint : PySem.W.subIn K (.type "int") (.ref CC) = some false)
    (nrCstr : PySem.W.subIn K (.type "str") (.ref CC) = some false)
    (nrClist : PySem.W.subIn K (.type "list") (.ref CC) = some false)
    (nrCtuple : PySem.W.subIn K (.type "tuple") (.ref CC) = some false)
    (nrCdict : PySem.W.subIn K (.type "dict") (.ref CC) = some false)
    (aNU : PySem.W.nsIn K mainGlobals "Unmade" = some (some (.ref CNU)))
    (xNU : K.lookup CNU = some (excClassObj nmU qU CNU NNU bsU [.type "ValueError", .type "Exception", .type "BaseException", .type "object"] true snU subU abU colU ddU m0U m1U m2U m3U m5U "ValueError.__new__"))
    (aEU : PySem.W.findIn K (.ref CNU) "__init__" = some (some (.ref fEU)))
    (lEU : K.lookup fEU = some ⟨ocEU, odEU, .func (PySem.W.fnOf "__init__" "Unmade.__init__" (defArgs WU.st_err) (defBody WU.st_err) (defScope WU.st_err) (.ref TD) kVEU dcEU pmEU anEU cdEU ctEU), slEU⟩)
    (cEU : PySem.W.codeIn K cdEU "Unmade.__init__" = true)
    (kEU : PySem.W.keepIn K (.ref fEU) = true)
    (tEU : PySem.W.typeIn K (.ref fEU) = some (.type "function"))
    (saNU : PySem.W.findIn K (.ref CNU) "__setattr__" = some (some (.builtin "object.__setattr__")))
    (gaNU : PySem.W.findIn K (.ref CNU) "__getattribute__" = some (some (.builtin "BaseException.__getattribute__")))
    (ggNU : PySem.W.findIn K (.ref CNU) "__getattr__" = some none)
    (hcNU : PySem.W.findIn K (.ref CNU) "__class__" = some (some (.builtin "object.__class__")))
    (nfNU : PySem.W.findIn K (.ref CNU) "why" = some none)
    (kNU : PySem.W.keepIn K (.ref CNU) = true)
    (moNU : PySem.W.mroIn K CNU (.type "object") = some true)
    (sVU : PySem.W.subIn K (.ref CNU) (.type "ValueError") = some true)
    (sBU : PySem.W.subIn K (.ref CNU) (.ref BE) = some false)
    (lTD : K.lookup TD = some ⟨ocTD, odTD, .seq [.str (Str.ofString "") tTD].toArray nTD, slTD⟩)
    (tNO : PySem.W.typeIn K (.ref CNO) = some (.type "type"))
    (hdNO : PySem.W.hasDictIn K CNO = true)
    (eNO : PySem.W.subIn K (.ref CNO) (.type "BaseException") = some true)
    (sNO : PySem.W.subIn K (.ref CNO) (.ref CNO) = some true)
    (tNP : PySem.W.typeIn K (.ref CNP) = some (.type "type"))
    (hdNP : PySem.W.hasDictIn K CNP = true)
    (eNP : PySem.W.subIn K (.ref CNP) (.type "BaseException") = some true)
    (sNP : PySem.W.subIn K (.ref CNP) (.ref CNP) = some true)
    (tNC : PySem.W.typeIn K (.ref CNC) = some (.type "type"))
    (hdNC : PySem.W.hasDictIn K CNC = true)
    (eNC : PySem.W.subIn K (.ref CNC) (.type "BaseException") = some true)
    (sNC : PySem.W.subIn K (.ref CNC) (.ref CNC) = some true)
    (aN3 : PySem.W.nsIn K mainGlobals "Clash" = some (some (.ref CN3)))
    (tN3 : PySem.W.typeIn K (.ref CN3) = some (.type "type"))
    (hdN3 : PySem.W.hasDictIn K CN3 = true)
    (eN3 : PySem.W.subIn K (.ref CN3) (.type "BaseException") = some true)
    (sN3 : PySem.W.subIn K (.ref CN3) (.ref CN3) = some true)
    (aN4 : PySem.W.nsIn K mainGlobals "NoRow" = some (some (.ref CN4)))
    (tN4 : PySem.W.typeIn K (.ref CN4) = some (.type "type"))
    (hdN4 : PySem.W.hasDictIn K CN4 = true)
    (eN4 : PySem.W.subIn K (.ref CN4) (.type "BaseException") = some true)
    (sN4 : PySem.W.subIn K (.ref CN4) (.ref CN4) = some true)
    (aN5 : PySem.W.nsIn K mainGlobals "NoName" = some (some (.ref CN5)))
    (tN5 : PySem.W.typeIn K (.ref CN5) = some (.type "type"))
    (hdN5 : PySem.W.hasDictIn K CN5 = true)
    (eN5 : PySem.W.subIn K (.ref CN5) (.type "BaseException") = some true)
    (sN5 : PySem.W.subIn K (.ref CN5) (.ref CN5) = some true)
    (aN6 : PySem.W.nsIn K mainGlobals "NoMaker" = some (some (.ref CN6)))
    (tN6 : PySem.W.typeIn K (.ref CN6) = some (.type "type"))
    (hdN6 : PySem.W.hasDictIn K CN6 = true)
    (eN6 : PySem.W.subIn K (.ref CN6) (.type "BaseException") = some true)
    (sN6 : PySem.W.subIn K (.ref CN6) (.ref CN6) = some true)
    (aN7 : PySem.W.nsIn K mainGlobals "BadDefault" = some (some (.ref CN7)))
    (tN7 : PySem.W.typeIn K (.ref CN7) = some (.type "type"))
    (hdN7 : PySem.W.hasDictIn K CN7 = true)
    (eN7 : PySem.W.subIn K (.ref CN7) (.type "BaseException") = some true)
    (sN7 : PySem.W.subIn K (.ref CN7) (.ref CN7) = some true)
    (aN8 : PySem.W.nsIn K mainGlobals "Fault" = some (some (.ref CN8)))
    (tN8 : PySem.W.typeIn K (.ref CN8) = some (.type "type"))
    (hdN8 : PySem.W.hasDictIn K CN8 = true)
    (eN8 : PySem.W.subIn K (.ref CN8) (.type "BaseException") = some true)
    (sN8 : PySem.W.subIn K (.ref CN8) (.ref CN8) = some true)
    (tNU : PySem.W.typeIn K (.ref CNU) = some (.type "type"))
    (hdNU : PySem.W.hasDictIn K CNU = true)
    (eNU : PySem.W.subIn K (.ref CNU) (.type "BaseException") = some true)
    (sNU : PySem.W.subIn K (.ref CNU) (.ref CNU) = some true)
    (sDOP : PySem.W.subIn K (.ref CNO) (.ref CNP) = some false)
    (sDOC : PySem.W.subIn K (.ref CNO) (.ref CNC) = some false)
    (sDO3 : PySem.W.subIn K (.ref CNO) (.ref CN3) = some false)
    (sDO4 : PySem.W.subIn K (.ref CNO) (.ref CN4) = some false)
    (sDO5 : PySem.W.subIn K (.ref CNO) (.ref CN5) = some false)
    (sDO6 : PySem.W.subIn K (.ref CNO) (.ref CN6) = some false)
    (sDO7 : PySem.W.subIn K (.ref CNO) (.ref CN7) = some false)
    (sDO8 : PySem.W.subIn K (.ref CNO) (.ref CN8) = some false)
    (sDOU : PySem.W.subIn K (.ref CNO) (.ref CNU) = some false)
    (sDPO : PySem.W.subIn K (.ref CNP) (.ref CNO) = some false)
    (sDPC : PySem.W.subIn K (.ref CNP) (.ref CNC) = some false)
    (sDP3 : PySem.W.subIn K (.ref CNP) (.ref CN3) = some false)
    (sDP4 : PySem.W.subIn K (.ref CNP) (.ref CN4) = some false)
    (sDP5 : PySem.W.subIn K (.ref CNP) (.ref CN5) = some false)
    (sDP6 : PySem.W.subIn K (.ref CNP) (.ref CN6) = some false)
    (sDP7 : PySem.W.subIn K (.ref CNP) (.ref CN7) = some false)
    (sDP8 : PySem.W.subIn K (.ref CNP) (.ref CN8) = some false)
    (sDPU : PySem.W.subIn K (.ref CNP) (.ref CNU) = some false)
    (sDCO : PySem.W.subIn K (.ref CNC) (.ref CNO) = some false)
    (sDCP : PySem.W.subIn K (.ref CNC) (.ref CNP) = some false)
    (sDC3 : PySem.W.subIn K (.ref CNC) (.ref CN3) = some false)
    (sDC4 : PySem.W.subIn K (.ref CNC) (.ref CN4) = some false)
    (sDC5 : PySem.W.subIn K (.ref CNC) (.ref CN5) = some false)
    (sDC6 : PySem.W.subIn K (.ref CNC) (.ref CN6) = some false)
    (sDC7 : PySem.W.subIn K (.ref CNC) (.ref CN7) = some false)
    (sDC8 : PySem.W.subIn K (.ref CNC) (.ref CN8) = some false)
    (sDCU : PySem.W.subIn K (.ref CNC) (.ref CNU) = some false)
    (sDUO : PySem.W.subIn K (.ref CNU) (.ref CNO) = some false)
    (sDUP : PySem.W.subIn K (.ref CNU) (.ref CNP) = some false)
    (sDUC : PySem.W.subIn K (.ref CNU) (.ref CNC) = some false)
    (sDU3 : PySem.W.subIn K (.ref CNU) (.ref CN3) = some false)
    (sDU4 : PySem.W.subIn K (.ref CNU) (.ref CN4) = some false)
    (sDU5 : PySem.W.subIn K (.ref CNU) (.ref CN5) = some false)
    (sDU6 : PySem.W.subIn K (.ref CNU) (.ref CN6) = some false)
    (sDU7 : PySem.W.subIn K (.ref CNU) (.ref CN7) = some false)
    (sDU8 : PySem.W.subIn K (.ref CNU) (.ref CN8) = some false)
    (sOP : PySem.W.subIn K (.ref CO) (.ref CP) = some false)
    (sOC : PySem.W.subIn K (.ref CO) (.ref CC) = some false)
    (sPO : PySem.W.subIn K (.ref CP) (.ref CO) = some false)
    (sPC : PySem.W.subIn K (.ref CP) (.ref CC) = some false)
    (sCO : PySem.W.subIn K (.ref CC) (.ref CO) = some false)
    (sCP : PySem.W.subIn K (.ref CC) (.ref CP) = some false)
    (v1 : PySem.W.nsIn K mainGlobals "MOST_NAME_SIGNS" = some (some (.int 10 u1)))
    (v2 : PySem.W.nsIn K mainGlobals "NAME_SIGNS" = some (some (.str nameSet u2)))
    (v3 : PySem.W.nsIn K mainGlobals "MOST_ABOUT_SIGNS" = some (some (.int 200 u3)))
    (v4 : PySem.W.nsIn K mainGlobals "MOST_DEFAULT_SIGNS" = some (some (.int 60 u4)))
    (v5 : PySem.W.nsIn K mainGlobals "LETTERS" = some (some (.str letters u5)))
    (v6 : PySem.W.nsIn K mainGlobals "TAKES" = some (some (.ref aT)))
    (v7 : PySem.W.nsIn K mainGlobals "UNVALUED" = some (some (.ref aU)))
    (v8 : PySem.W.nsIn K mainGlobals "WITH_DEFAULT" = some (some (.ref aW)))
    (v9 : PySem.W.nsIn K mainGlobals "MANIES" = some (some (.ref aM)))
    (x1 : PySem.W.nsIn K mainGlobals "MOST_OPTIONS" = some (some (.int 12 w1)))
    (x2 : PySem.W.nsIn K mainGlobals "MOST_PLACES" = some (some (.int 6 w2)))
    (x3 : PySem.W.nsIn K mainGlobals "MOST_GROUPS" = some (some (.int 4 w3)))
    (x4 : PySem.W.nsIn K mainGlobals "FEWEST_IN_GROUP" = some (some (.int 2 w4)))
    (x5 : PySem.W.nsIn K mainGlobals "MOST_IN_GROUP" = some (some (.int 6 w5)))
    (x6 : PySem.W.nsIn K mainGlobals "MOST_COMMANDS" = some (some (.int 8 w6)))
    (l6 : K.lookup aT = some ⟨.type "tuple", odA, .seq [.str (Str.ofString "flag") s1, .str (Str.ofString "count") s2, .str (Str.ofString "one") s3, .str (Str.ofString "last") s4, .str (Str.ofString "each") s5].toArray nA, slA⟩)
    (l7 : K.lookup aU = some ⟨.type "tuple", odB, .seq [.str (Str.ofString "flag") s6, .str (Str.ofString "count") s7].toArray nB, slB⟩)
    (l8 : K.lookup aW = some ⟨.type "tuple", odC, .seq [.str (Str.ofString "one") s8, .str (Str.ofString "last") s9].toArray nC, slC⟩)
    (l9 : K.lookup aM = some ⟨.type "tuple", odM, .seq [.str (Str.ofString "one") r1, .str (Str.ofString "maybe") r2, .str (Str.ofString "some") r3, .str (Str.ofString "any") r4].toArray nM, slM⟩)
    (z_len : PySem.W.nsIn K mainGlobals "len" = some none)
    (z_max : PySem.W.nsIn K mainGlobals "max" = some none)
    (z_min : PySem.W.nsIn K mainGlobals "min" = some none)
    (z_abs : PySem.W.nsIn K mainGlobals "abs" = some none)
    (z_range : PySem.W.nsIn K mainGlobals "range" = some none)
    (z_list : PySem.W.nsIn K mainGlobals "list" = some none)
    (z_str : PySem.W.nsIn K mainGlobals "str" = some none)
    (z_isinstance : PySem.W.nsIn K mainGlobals "isinstance" = some none)
    (z_all : PySem.W.nsIn K mainGlobals "all" = some none)
    (z_bool : PySem.W.nsIn K mainGlobals "bool" = some none)
    (z_zip : PySem.W.nsIn K mainGlobals "zip" = some none)
    (z_int : PySem.W.nsIn K mainGlobals "int" = some none)
    (z_ValueError : PySem.W.nsIn K mainGlobals "ValueError" = some none)
    (aLaw : PySem.W.nsIn K mainGlobals "law" = some (some (.ref fLaw)))
    (lLaw : K.lookup fLaw = some ⟨ocLaw, odLaw, .func (PySem.W.fnOf "law" "law" (defArgs st_law) (defBody st_law) (defScope st_law) .none kVLaw dcLaw pmLaw anLaw cdLaw ctLaw), slLaw⟩)
    (cLaw : PySem.W.codeIn K cdLaw "law" = true)
    (kLaw : PySem.W.keepIn K (.ref fLaw) = true) :
    ∃ fd : FuncData, (∀ (s : Shared) (v : Value), BindsTo s fd ⟨[v], []⟩ [("_law_script", v)]) ∧ ∀ base : Heap, K.In base → base.Ns mainGlobals mg → FnOk l.prog w K mg base CX0 8 fa fd ["_law_script"] (spLaw K) := by
  have e := hfa.symm.trans (PySem.W.mg_of X G aLaw)
  cases e
  have g0 : ∀ {x : Str}, PySem.W.nsIn K mainGlobals x = some none → mg x = none := fun {x} z => PySem.W.mg_none_of X G z
  have DWithin := df_mk (st := st_is_text_within) (ps := ["value", "most"]) X G aWithin lWithin cWithin kWithin fun _ _ _ _ _ _ us hl => match us, hl with | [_, _], _ => rfl
  have DIsName := df_mk (st := st_is_name) (ps := ["value"]) X G aIsName lIsName cIsName kIsName fun _ _ _ _ _ _ us hl => match us, hl with | [_], _ => rfl
  have DIsAbout := df_mk (st := st_is_about) (ps := ["value"]) X G aIsAbout lIsAbout cIsAbout kIsAbout fun _ _ _ _ _ _ us hl => match us, hl with | [_], _ => rfl
  have DIsAmong := df_mk (st := st_is_among) (ps := ["value", "texts"]) X G aIsAmong lIsAmong cIsAmong kIsAmong fun _ _ _ _ _ _ us hl => match us, hl with | [_, _], _ => rfl
  have DIsDefault := df_mk (st := st_is_default) (ps := ["value", "allowed"]) X G aIsDefault lIsDefault cIsDefault kIsDefault fun _ _ _ _ _ _ us hl => match us, hl with | [_, _], _ => rfl
  have DIsShort := df_mk (st := st_is_short_or_empty) (ps := ["value"]) X G aIsShort lIsShort cIsShort kIsShort fun _ _ _ _ _ _ us hl => match us, hl with | [_], _ => rfl
  have DIsTruth := df_mk (st := st_is_truth) (ps := ["value", "allowed"]) X G aIsTruth lIsTruth cIsTruth kIsTruth fun _ _ _ _ _ _ us hl => match us, hl with | [_, _], _ => rfl
  have DLWithin := df_mk (st := st_is_list_within) (ps := ["value", "most"]) X G aLWithin lLWithin cLWithin kLWithin fun _ _ _ _ _ _ us hl => match us, hl with | [_, _], _ => rfl
  have DAreO := df_mk (st := st_are_options) (ps := ["value"]) X G aAreO lAreO cAreO kAreO fun _ _ _ _ _ _ us hl => match us, hl with | [_], _ => rfl
  have DAreP := df_mk (st := st_are_places) (ps := ["value"]) X G aAreP lAreP cAreP kAreP fun _ _ _ _ _ _ us hl => match us, hl with | [_], _ => rfl
  have DIsG := df_mk (st := st_is_group) (ps := ["value"]) X G aIsG lIsG cIsG kIsG fun _ _ _ _ _ _ us hl => match us, hl with | [_], _ => rfl
  have DAreG := df_mk (st := st_are_groups) (ps := ["value"]) X G aAreG lAreG cAreG kAreG fun _ _ _ _ _ _ us hl => match us, hl with | [_], _ => rfl
  have DAreC := df_mk (st := st_are_commands) (ps := ["value"]) X G aAreC lAreC cAreC kAreC fun _ _ _ _ _ _ us hl => match us, hl with | [_], _ => rfl
  have DEmpty := df_mk (st := st_empty_for_none) (ps := ["value"]) X G aEmpty lEmpty cEmpty kEmpty fun _ _ _ _ _ _ us hl => match us, hl with | [_], _ => rfl
  have DCopied := df_mk (st := st_copied_groups) (ps := ["groups"]) X G aCopied lCopied cCopied kCopied fun _ _ _ _ _ _ us hl => match us, hl with | [_], _ => rfl
  have DCell := df_mk (st := sCell) (ps := ["_law_script", "_law_k"]) X G aCell lCell cCell kCell fun _ _ _ _ _ _ us hl => match us, hl with | [_, _], _ => rfl
  have DPot := df_mk (st := sPot) (ps := ["_law_script", "_law_k"]) X G aPot lPot cPot kPot fun _ _ _ _ _ _ us hl => match us, hl with | [_, _], _ => rfl
  have DTake := df_mk (st := sTake) (ps := ["_law_pot_here", "_law_room"]) X G aTake lTake cTake kTake fun _ _ _ _ _ _ us hl => match us, hl with | [_, _], _ => rfl
  have DSigns := df_mk (st := sSigns) (ps := ["_law_pot_here", "_law_most"]) X G aSigns lSigns cSigns kSigns fun _ _ _ _ _ _ us hl => match us, hl with | [_, _], _ => rfl
  have DText := df_mk (st := sText) (ps := ["_law_pot_here"]) X G aText lText cText kText fun _ _ _ _ _ _ us hl => match us, hl with | [_], _ => rfl
  have DKinds := df_mk (st := st_kinds) (ps := ["_law_e"]) X G aKinds lKinds cKinds kKinds fun _ _ _ _ _ _ us hl => match us, hl with | [_], _ => rfl
  have DCalled := df_mk (st := st_called) (ps := ["_law_way", "_law_thing"]) X G aCalled lCalled cCalled kCalled fun _ _ _ _ _ _ us hl => match us, hl with | [_, _], _ => rfl
  have DMet := df_mk (st := st_met) (ps := ["_law_way", "_law_thing"]) X G aMet lMet cMet kMet fun _ _ _ _ _ _ us hl => match us, hl with | [_, _], _ => rfl
  have DField := df_mk (st := st_field) (ps := ["_law_way", "_law_thing"]) X G aField lField cField kField fun _ _ _ _ _ _ us hl => match us, hl with | [_, _], _ => rfl
  have DUnmd := df_mk (st := st_unmade) (ps := ["_law_why"]) X G aUnmd lUnmd cUnmd kUnmd fun _ _ _ _ _ _ us hl => match us, hl with | [_], _ => rfl
  have DBare := df_mk (st := st_bare) (ps := []) X G aBare lBare cBare kBare fun _ _ _ _ _ _ us hl => match us, hl with | [], _ => rfl
  have FLaw := fun_mk (st := st_law) lLaw cLaw kLaw
  have FEO := fun_mk (st := st_err) lEO cEO kEO
  have bEO := FEO.binds (ps := ["self", "field"]) fun _ _ _ _ _ _ us hl => match us, hl with | [_, _], _ => rfl
  have TEO : ErrT K mg "NoOption" CNO fEO _ := ⟨⟨⟨nmO, qO, NNO, bsO, _, snO, subO, abO, colO, ddO, m0O, m1O, m2O, m3O, m5O, xNO, rfl⟩, saNO, eNO, tNO, kNO⟩, aEO, tEO, nfNO, PySem.W.mg_of X G aNO, bEO⟩
  have FIO : InitO K fIO _ := ⟨⟨_, _, _, _, _, _, _, _, _, _, rfl, lIO, cIO, .inr ⟨by simp, TO, _, _, _, rfl, lTO, rfl, .cons ⟨_, rfl⟩ (.cons ⟨_, rfl⟩ (.cons ⟨_, rfl⟩ (.cons rfl (.cons rfl (.cons rfl (.cons ⟨_, rfl⟩ .nil))))))⟩, .inl rfl⟩, kIO⟩
  have CLO : Cls K CO := ⟨pgO, hdO, poO, saO⟩
  have ICO : IsiC K CO := ⟨caO, spN, tkN, moO⟩
  obtain ⟨d1O, hv1O, b1O⟩ := initO_b1 FIO
  have TTO : ClsT K CO := ⟨CLO, nhO⟩
  have nrO : ∀ T ∈ allT, PySem.W.kitOne K (.type T) (.ref CO) = some false := fun T hT => kit_no hdO tyO (all_T (Q := fun T => PySem.W.subIn K (.type T) (.ref CO) = some false) nrONoneType nrObool nrOint nrOstr nrOlist nrOtuple nrOdict T hT) ssO
  have FEP := fun_mk (st := WP.st_err) lEP cEP kEP
  have bEP := FEP.binds (ps := ["self", "field"]) fun _ _ _ _ _ _ us hl => match us, hl with | [_, _], _ => rfl
  have TEP : WP.ErrT K mg "NoPlace" CNP fEP _ := ⟨⟨⟨nmP, qP, NNP, bsP, _, snP, subP, abP, colP, ddP, m0P, m1P, m2P, m3P, m5P, xNP, rfl⟩, saNP, eNP, tNP, kNP⟩, aEP, tEP, nfNP, PySem.W.mg_of X G aNP, bEP⟩
  have FIP : InitP K fIP _ := ⟨⟨_, _, _, _, _, _, _, _, _, _, rfl, lIP, cIP, .inr ⟨by simp, TP, _, _, _, rfl, lTP, rfl, .cons ⟨_, rfl⟩ (.cons ⟨_, rfl⟩ (.cons rfl (.cons ⟨_, rfl⟩ .nil)))⟩, .inl rfl⟩, kIP⟩
  have CLP : Cls K CP := ⟨pgP, hdP, poP, saP⟩
  have ICP : IsiC K CP := ⟨caP, spN, tkN, moP⟩
  obtain ⟨d1P, hv1P, b1P⟩ := initP_b1 FIP
  have TTP : ClsT K CP := ⟨CLP, nhP⟩
  have nrP : ∀ T ∈ allT, PySem.W.kitOne K (.type T) (.ref CP) = some false := fun T hT => kit_no hdP tyP (all_T (Q := fun T => PySem.W.subIn K (.type T) (.ref CP) = some false) nrPNoneType nrPbool nrPint nrPstr nrPlist nrPtuple nrPdict T hT) ssP
  have FEC := fun_mk (st := st_errC) lEC cEC kEC
  have bEC := FEC.binds (ps := ["self", "field"]) fun _ _ _ _ _ _ us hl => match us, hl with | [_, _], _ => rfl
  have TEC : ErrT K mg "NoCommand" CNC fEC _ := ⟨⟨⟨nmC, qC, NNC, bsC, _, snC, subC, abC, colC, ddC, m0C, m1C, m2C, m3C, m5C, xNC, rfl⟩, saNC, eNC, tNC, kNC⟩, aEC, tEC, nfNC, PySem.W.mg_of X G aNC, bEC⟩
  have FIC : InitC K fIC _ := ⟨⟨_, _, _, _, _, _, _, _, _, _, rfl, lIC, cIC, .inr ⟨by simp, TC, _, _, _, rfl, lTC, rfl, .cons rfl (.cons rfl (.cons rfl (.cons rfl (.cons ⟨_, rfl⟩ .nil))))⟩, .inl rfl⟩, kIC⟩
  have CLC : Cls K CC := ⟨pgC, hdC, poC, saC⟩
  have ICC : IsiC K CC := ⟨caC, spN, tkN, moC⟩
  obtain ⟨d1C, hv1C, b1C⟩ := initC_b1 FIC
  have nrC : ∀ T ∈ allT, PySem.W.kitOne K (.type T) (.ref CC) = some false := fun T hT => kit_no hdC tyC (all_T (Q := fun T => PySem.W.subIn K (.type T) (.ref CC) = some false) nrCNoneType nrCbool nrCint nrCstr nrClist nrCtuple nrCdict T hT) ssC
  have FEU : WU.ErrD K fEU _ := ⟨⟨_, _, _, _, _, _, _, _, _, _, rfl, lEU, cEU, .inr ⟨by simp, TD, _, _, _, rfl, lTD, rfl, .cons ⟨_, rfl⟩ .nil⟩, .inl rfl⟩, kEU⟩
  have TEU : WU.ErrT K mg "Unmade" CNU fEU _ := ⟨⟨⟨nmU, qU, NNU, bsU, _, snU, subU, abU, colU, ddU, m0U, m1U, m2U, m3U, m5U, xNU, rfl⟩, saNU, eNU, tNU, kNU⟩, aEU, tEU, nfNU, PySem.W.mg_of X G aNU, WU.err_b2 FEU⟩
  have hT : ∀ H : Hp, SqT K H aT (takesL.map V.str) := fun H => .inr ⟨_, _, _, l6, rfl, rfl, by simp [sizeLine_eq], .cons ⟨_, rfl⟩ (.cons ⟨_, rfl⟩ (.cons ⟨_, rfl⟩ (.cons ⟨_, rfl⟩ (.cons ⟨_, rfl⟩ .nil))))⟩
  have hU : ∀ H : Hp, SqT K H aU (plainL.map V.str) := fun H => .inr ⟨_, _, _, l7, rfl, rfl, by simp [sizeLine_eq], .cons ⟨_, rfl⟩ (.cons ⟨_, rfl⟩ .nil)⟩
  have hW : ∀ H : Hp, SqT K H aW (singleL.map V.str) := fun H => .inr ⟨_, _, _, l8, rfl, rfl, by simp [sizeLine_eq], .cons ⟨_, rfl⟩ (.cons ⟨_, rfl⟩ .nil)⟩
  have hM : ∀ H : Hp, SqT K H aM (WP.manies.map V.str) := fun H => .inr ⟨_, _, _, l9, rfl, rfl, by simp [sizeLine_eq], .cons ⟨_, rfl⟩ (.cons ⟨_, rfl⟩ (.cons ⟨_, rfl⟩ (.cons ⟨_, rfl⟩ .nil)))⟩
  have gO := PySem.W.mg_of X G aCO
  have gP := PySem.W.mg_of X G aCP
  have gC := PySem.W.mg_of X G aCC
  have kOP := kit_no hdP tyP sOP ssP
  have kPO := kit_no hdO tyO sPO ssO
  have kOC := kit_no hdC tyC sOC ssC
  have kCO' := kit_no hdO tyO sCO ssO
  have kPC := kit_no hdC tyC sPC ssC
  have kCP' := kit_no hdP tyP sCP ssP
  have c3 : Cl3 K [CO, CP, CC] := ⟨all_3 CLO CLP CLC, all_3 ICO ICP ICC, fun T hT => all_3 (nrO T hT) (nrP T hT) (nrC T hT), all_3 (all_3 kit_dec1 (kit_dec kOP) (kit_dec kOC)) (all_3 (kit_dec kPO) kit_dec1 (kit_dec kPC)) (all_3 (kit_dec kCO') (kit_dec kCP') kit_dec1), all_3 (kit_subT (by decide +kernel) sbOstr) (kit_subT (by decide +kernel) sbPstr) (kit_subT (by decide +kernel) sbCstr), all_3 (kit_subT (by decide +kernel) sbOlist) (kit_subT (by decide +kernel) sbPlist) (kit_subT (by decide +kernel) sbClist)⟩
  have TC : ClsC K CC := ⟨CLC, no0, no1, no2, no3, no4, no5⟩
  obtain ⟨itO, kbO⟩ := initO_k FIO
  obtain ⟨itP, kbP⟩ := initP_k FIP
  obtain ⟨itC, kbC⟩ := initC_k FIC
  have XFO : XfC K CNO := ⟨gaNO, ggNO, eNO, hdNO⟩
  have XCO : ExcC K CNO := ⟨gaNO, ggNO, eNO, hdNO, hcNO, spN, tkN, moNO⟩
  have KAO : KindsAt K [CNO, CNP, CNC, CN3, CN4, CN5, CN6, CN7, CN8, CNU] 0 CNO := ⟨XCO, ten (Q := fun j C => PySem.W.kitOne K (.ref CNO) (.ref C) = some (decide (j = 0))) kit_self (kit_no hdNP tNP sDOP sNP) (kit_no hdNC tNC sDOC sNC) (kit_no hdN3 tN3 sDO3 sN3) (kit_no hdN4 tN4 sDO4 sN4) (kit_no hdN5 tN5 sDO5 sN5) (kit_no hdN6 tN6 sDO6 sN6) (kit_no hdN7 tN7 sDO7 sN7) (kit_no hdN8 tN8 sDO8 sN8) (kit_no hdNU tNU sDOU sNU), kit_subT (by decide +kernel) sVO⟩
  have CAO : CaughtAt K [CNO, CNP, CNC, CN3, CN4, CN5, CN6, CN7, CN8, CNU] BE 0 CNO := ⟨XFO, KAO, by decide, PySem.W.exm_ref eB hdB tB sBO, ten (Q := fun j C => PySem.W.exmOne K (.ref CNO) (.ref C) = some (decide (j = 0))) (PySem.W.exm_ref eNO hdNO tNO sNO) (PySem.W.exm_ref eNP hdNP tNP sDOP) (PySem.W.exm_ref eNC hdNC tNC sDOC) (PySem.W.exm_ref eN3 hdN3 tN3 sDO3) (PySem.W.exm_ref eN4 hdN4 tN4 sDO4) (PySem.W.exm_ref eN5 hdN5 tN5 sDO5) (PySem.W.exm_ref eN6 hdN6 tN6 sDO6) (PySem.W.exm_ref eN7 hdN7 tN7 sDO7) (PySem.W.exm_ref eN8 hdN8 tN8 sDO8) (PySem.W.exm_ref eNU hdNU tNU sDOU)⟩
  have XFP : XfC K CNP := ⟨gaNP, ggNP, eNP, hdNP⟩
  have XCP : ExcC K CNP := ⟨gaNP, ggNP, eNP, hdNP, hcNP, spN, tkN, moNP⟩
  have KAP : KindsAt K [CNO, CNP, CNC, CN3, CN4, CN5, CN6, CN7, CN8, CNU] 1 CNP := ⟨XCP, ten (Q := fun j C => PySem.W.kitOne K (.ref CNP) (.ref C) = some (decide (j = 1))) (kit_no hdNO tNO sDPO sNO) kit_self (kit_no hdNC tNC sDPC sNC) (kit_no hdN3 tN3 sDP3 sN3) (kit_no hdN4 tN4 sDP4 sN4) (kit_no hdN5 tN5 sDP5 sN5) (kit_no hdN6 tN6 sDP6 sN6) (kit_no hdN7 tN7 sDP7 sN7) (kit_no hdN8 tN8 sDP8 sN8) (kit_no hdNU tNU sDPU sNU), kit_subT (by decide +kernel) sVP⟩
  have CAP : CaughtAt K [CNO, CNP, CNC, CN3, CN4, CN5, CN6, CN7, CN8, CNU] BE 1 CNP := ⟨XFP, KAP, by decide, PySem.W.exm_ref eB hdB tB sBP, ten (Q := fun j C => PySem.W.exmOne K (.ref CNP) (.ref C) = some (decide (j = 1))) (PySem.W.exm_ref eNO hdNO tNO sDPO) (PySem.W.exm_ref eNP hdNP tNP sNP) (PySem.W.exm_ref eNC hdNC tNC sDPC) (PySem.W.exm_ref eN3 hdN3 tN3 sDP3) (PySem.W.exm_ref eN4 hdN4 tN4 sDP4) (PySem.W.exm_ref eN5 hdN5 tN5 sDP5) (PySem.W.exm_ref eN6 hdN6 tN6 sDP6) (PySem.W.exm_ref eN7 hdN7 tN7 sDP7) (PySem.W.exm_ref eN8 hdN8 tN8 sDP8) (PySem.W.exm_ref eNU hdNU tNU sDPU)⟩
  have XFC : XfC K CNC := ⟨gaNC, ggNC, eNC, hdNC⟩
  have XCC : ExcC K CNC := ⟨gaNC, ggNC, eNC, hdNC, hcNC, spN, tkN, moNC⟩
  have KAC : KindsAt K [CNO, CNP, CNC, CN3, CN4, CN5, CN6, CN7, CN8, CNU] 2 CNC := ⟨XCC, ten (Q := fun j C => PySem.W.kitOne K (.ref CNC) (.ref C) = some (decide (j = 2))) (kit_no hdNO tNO sDCO sNO) (kit_no hdNP tNP sDCP sNP) kit_self (kit_no hdN3 tN3 sDC3 sN3) (kit_no hdN4 tN4 sDC4 sN4) (kit_no hdN5 tN5 sDC5 sN5) (kit_no hdN6 tN6 sDC6 sN6) (kit_no hdN7 tN7 sDC7 sN7) (kit_no hdN8 tN8 sDC8 sN8) (kit_no hdNU tNU sDCU sNU), kit_subT (by decide +kernel) sVC⟩
  have CAC : CaughtAt K [CNO, CNP, CNC, CN3, CN4, CN5, CN6, CN7, CN8, CNU] BE 2 CNC := ⟨XFC, KAC, by decide, PySem.W.exm_ref eB hdB tB sBC, ten (Q := fun j C => PySem.W.exmOne K (.ref CNC) (.ref C) = some (decide (j = 2))) (PySem.W.exm_ref eNO hdNO tNO sDCO) (PySem.W.exm_ref eNP hdNP tNP sDCP) (PySem.W.exm_ref eNC hdNC tNC sNC) (PySem.W.exm_ref eN3 hdN3 tN3 sDC3) (PySem.W.exm_ref eN4 hdN4 tN4 sDC4) (PySem.W.exm_ref eN5 hdN5 tN5 sDC5) (PySem.W.exm_ref eN6 hdN6 tN6 sDC6) (PySem.W.exm_ref eN7 hdN7 tN7 sDC7) (PySem.W.exm_ref eN8 hdN8 tN8 sDC8) (PySem.W.exm_ref eNU hdNU tNU sDCU)⟩
  have XFU : XfC K CNU := ⟨gaNU, ggNU, eNU, hdNU⟩
  have XCU : ExcC K CNU := ⟨gaNU, ggNU, eNU, hdNU, hcNU, spN, tkN, moNU⟩
  have KAU : KindsAt K [CNO, CNP, CNC, CN3, CN4, CN5, CN6, CN7, CN8, CNU] 9 CNU := ⟨XCU, ten (Q := fun j C => PySem.W.kitOne K (.ref CNU) (.ref C) = some (decide (j = 9))) (kit_no hdNO tNO sDUO sNO) (kit_no hdNP tNP sDUP sNP) (kit_no hdNC tNC sDUC sNC) (kit_no hdN3 tN3 sDU3 sN3) (kit_no hdN4 tN4 sDU4 sN4) (kit_no hdN5 tN5 sDU5 sN5) (kit_no hdN6 tN6 sDU6 sN6) (kit_no hdN7 tN7 sDU7 sN7) (kit_no hdN8 tN8 sDU8 sN8) kit_self, kit_subT (by decide +kernel) sVU⟩
  have CAU : CaughtU K [CNO, CNP, CNC, CN3, CN4, CN5, CN6, CN7, CN8, CNU] BE CNU := ⟨XFU, KAU, PySem.W.exm_ref eNU hdNU tNU sNU, kit_no hdB tB sBU ssB⟩
  refine ⟨PySem.W.fnOf "law" "law" (defArgs st_law) (defBody st_law) (defScope st_law) .none kVLaw dcLaw pmLaw anLaw cdLaw ctLaw, fun s v => ?_, fun base _ _ => ?_⟩
  · exact .of_eq rfl
  · have GIO : FnOk l.prog w K mg base (L2N.CX l.prog w) 3 fIO _ optPs (spInit CO CNO) := ok_init (k := 0) FIO FEO TEO TTO DWithin DIsName DIsAbout DIsAmong DIsDefault DIsShort DIsTruth (g0 z_len) (g0 z_str) (g0 z_bool) (g0 z_isinstance) (g0 z_all) (PySem.W.mg_of X G v1) (PySem.W.mg_of X G v2) (PySem.W.mg_of X G v3) (PySem.W.mg_of X G v4) (PySem.W.mg_of X G v5) (PySem.W.mg_of X G v6) hT (PySem.W.mg_of X G v7) hU (PySem.W.mg_of X G v8) hW
    have GIP : FnOk l.prog w K mg base (L2N.CX l.prog w) 3 fIP _ plcPs (WP.spInit CP CNP) := WP.ok_init (k := 0) FIP FEP TEP ⟨TTP.cl, TTP.nh⟩ DWithin DIsName DIsAbout DIsAmong DIsDefault (g0 z_len) (g0 z_str) (g0 z_isinstance) (g0 z_all) (PySem.W.mg_of X G v1) (PySem.W.mg_of X G v2) (PySem.W.mg_of X G v3) (PySem.W.mg_of X G v4) (PySem.W.mg_of X G v9) hM
    have GIC : FnOk l.prog w K mg base (L2N.CX l.prog w) 4 fIC _ cmdPs (spCInit CO CP CC CNC) := ok_cinit (k := 0) FIC c3 FEC TEC TC DWithin DIsName DIsAbout DLWithin DAreO DAreP DIsG DAreG DAreC DEmpty DCopied gO gP gC (g0 z_len) (g0 z_list) (g0 z_str) (g0 z_isinstance) (g0 z_all) (PySem.W.mg_of X G v1) (PySem.W.mg_of X G v2) (PySem.W.mg_of X G v3) (PySem.W.mg_of X G x1) (PySem.W.mg_of X G x2) (PySem.W.mg_of X G x3) (PySem.W.mg_of X G x4) (PySem.W.mg_of X G x5) (PySem.W.mg_of X G x6)
    have M : Mk17 l.prog w K mg base (3 + 1) CO CP CC CNO CNP CNC fIO fIP fIC _ _ _ d1O d1P d1C _ _ _ _ _ _ := ⟨⟨mkO, aIO, iIO, kCO⟩, GIO.mono (by decide), gO, b1O, hv1O, kbO, fun _ _ _ => rfl, ⟨mkP, aIP, iIP, kCP⟩, GIP.mono (by decide), gP, b1P, hv1P, kbP, fun _ _ _ => rfl, ⟨mkC, aIC, iIC, kCC⟩, GIC, gC, b1C, hv1C, kbC, fun _ _ _ => rfl⟩
    have GCalled : FnOk l.prog w K mg base (L2N.CX l.prog w) 6 fCalled _ ["_law_way", "_law_thing"] (spCalled CO CP CC CNO CNP CNC) := ok_called (k := 4) DCalled.F M
    have GKinds : ∀ t : Kd, t.2.2 < 10 → KindsAt K [CNO, CNP, CNC, CN3, CN4, CN5, CN6, CN7, CN8, CNU] t.2.2 t.1 → FnQ l.prog w K mg base 6 fKinds _ ["_law_e"] (ZIs t.1 (some t.2.1)) (spKinds t.2.1 t.2.2) := fun t ht kt => ok_kinds (k := 5) DKinds.F ht kt (PySem.W.mg_of X G aNO) (PySem.W.mg_of X G aNP) (PySem.W.mg_of X G aNC) (PySem.W.mg_of X G aN3) (PySem.W.mg_of X G aN4) (PySem.W.mg_of X G aN5) (PySem.W.mg_of X G aN6) (PySem.W.mg_of X G aN7) (PySem.W.mg_of X G aN8) (PySem.W.mg_of X G aNU) (g0 z_isinstance) (g0 z_zip) (g0 z_int) (g0 z_ValueError)
    have GMet : FnOk l.prog w K mg base CX0 7 fMet _ ["_law_way", "_law_thing"] (spMet CO CP CC) := ok_met (k := 6) DMet.F DCalled GCalled DKinds GKinds CAO CAP CAC (PySem.W.mg_of X G aB)
    have GField : FnOk l.prog w K mg base CX0 7 fField _ ["_law_way", "_law_thing"] (spField CO CP CC) := ok_field (k := 6) DField.F DCalled GCalled CAO CAP CAC (PySem.W.mg_of X G aNO) (PySem.W.mg_of X G aNP) (PySem.W.mg_of X G aNC) nfNO nfNP nfNC
    have GUnmd : FnOk l.prog w K mg base CX0 7 fUnmd _ ["_law_why"] spUnmade := ok_unmade (k := 4) DUnmd.F FEU TEU DKinds GKinds CAU (PySem.W.mg_of X G aB) (g0 z_isinstance)
    have GBare : FnOk l.prog w K mg base CX0 7 fBare _ [] spBare := ok_bare (k := 4) (ds := []) DBare.F FEU TEU XFU (PySem.W.exm_ref eNU hdNU tNU sNU)
    have GPot : FnOk l.prog w K mg base CX0 7 fPot _ ["_law_script", "_law_k"] (spPot K) := ok_pot (k := 5) DPot.F DCell (g0 z_len) (g0 z_max) (g0 z_abs)
    have GTake := ok_take (P := l.prog) (w := w) (mg := mg) (base := base) (k := 6) DTake.F
    have GText := ok_text (P := l.prog) (w := w) (mg := mg) (base := base) (k := 4) DText.F DTake DSigns (g0 z_len) (g0 z_range)
    exact ok_law (k := 7) FLaw DPot DTake DMet DField DUnmd DBare DText GPot GTake GMet GField GUnmd GBare GText (g0 z_len) (g0 z_max) (g0 z_min) (g0 z_range)
end WB

open PySem PySem.W PyProof.Rows
set_option maxRecDepth 100000
set_option Elab.async false
set_option maxHeartbeats 0 in
theorem PySem.Challenge.cw_wordbench_k17_refusals_apart_holds : PySem.Challenge.rw_wordbench_k17_refusals_apart.Holds := by
  w_on; o_law; k_head; (case hw => w_witness2)
  k_fill
  refine L2.walk_of (l := PySem.Challenge.rw_wordbench_k17_refusals_apart) (n := 63) (k := 8) (x := "_law_script") (CX := fun _ => L2.CX0) (sp := fun w => WB.spLaw _) rfl (by decide) rfl ⟨rfl, by decide, by decide⟩ (fun w h Y => PySem.W.kIn_of Y) ?F (fun _ _ a ns hl _ hS => ⟨a, ns, rfl, hS, hl, fun _ => rfl⟩) (fun _ _ _ _ _ h => h)
  case F =>
    intro w mg fa h KX G hmg
    refine' WB.all_mk KX G hmg ?aWithin ?lWithin ?cWithin ?kWithin ?aIsName ?lIsName ?cIsName ?kIsName ?aIsAbout ?lIsAbout ?cIsAbout ?kIsAbout ?aIsAmong ?lIsAmong ?cIsAmong ?kIsAmong ?aIsDefault ?lIsDefault ?cIsDefault ?kIsDefault ?aIsShort ?lIsShort ?cIsShort ?kIsShort ?aIsTruth ?lIsTruth ?cIsTruth ?kIsTruth ?aLWithin ?lLWithin ?cLWithin ?kLWithin ?aAreO ?lAreO ?cAreO ?kAreO ?aAreP ?lAreP ?cAreP ?kAreP ?aIsG ?lIsG ?cIsG ?kIsG ?aAreG ?lAreG ?cAreG ?kAreG ?aAreC ?lAreC ?cAreC ?kAreC ?aEmpty ?lEmpty ?cEmpty ?kEmpty ?aCopied ?lCopied ?cCopied ?kCopied ?aCell ?lCell ?cCell ?kCell ?aPot ?lPot ?cPot ?kPot ?aTake ?lTake ?cTake ?kTake ?aSigns ?lSigns ?cSigns ?kSigns ?aText ?lText ?cText ?kText ?aKinds ?lKinds ?cKinds ?kKinds ?aCalled ?lCalled ?cCalled ?kCalled ?aMet ?lMet ?cMet ?kMet ?aField ?lField ?cField ?kField ?aUnmd ?lUnmd ?cUnmd ?kUnmd ?aBare ?lBare ?cBare ?kBare ?aB ?tB ?hdB ?eB ?ssB ?spN ?tkN ?aNO ?xNO ?aEO ?lEO ?cEO ?kEO ?tEO ?saNO ?gaNO ?ggNO ?hcNO ?nfNO ?kNO ?moNO ?sVO ?sBO ?aCO ?aIO ?lIO ?cIO ?kIO ?iIO ?lTO ?nhO ?pgO ?hdO ?poO ?saO ?mkO ?kCO ?tyO ?ssO ?moO ?caO ?sbOstr ?sbOlist ?nrONoneType ?nrObool ?nrOint ?nrOstr ?nrOlist ?nrOtuple ?nrOdict ?aNP ?xNP ?aEP ?lEP ?cEP ?kEP ?tEP ?saNP ?gaNP ?ggNP ?hcNP ?nfNP ?kNP ?moNP ?sVP ?sBP ?aCP ?aIP ?lIP ?cIP ?kIP ?iIP ?lTP ?nhP ?pgP ?hdP ?poP ?saP ?mkP ?kCP ?tyP ?ssP ?moP ?caP ?sbPstr ?sbPlist ?nrPNoneType ?nrPbool ?nrPint ?nrPstr ?nrPlist ?nrPtuple ?nrPdict ?aNC ?xNC ?aEC ?lEC ?cEC ?kEC ?tEC ?saNC ?gaNC ?ggNC ?hcNC ?nfNC ?kNC ?moNC ?sVC ?sBC ?aCC ?aIC ?lIC ?cIC ?kIC ?iIC ?lTC ?no0 ?no1 ?no2 ?no3 ?no4 ?no5 ?pgC ?hdC ?poC ?saC ?mkC ?kCC ?tyC ?ssC ?moC ?caC ?sbCstr ?sbClist ?nrCNoneType ?nrCbool ?nrCint ?nrCstr ?nrClist ?nrCtuple ?nrCdict ?aNU ?xNU ?aEU ?lEU ?cEU ?kEU ?tEU ?saNU ?gaNU ?ggNU ?hcNU ?nfNU ?kNU ?moNU ?sVU ?sBU ?lTD ?tNO ?hdNO ?eNO ?sNO ?tNP ?hdNP ?eNP ?sNP ?tNC ?hdNC ?eNC ?sNC ?aN3 ?tN3 ?hdN3 ?eN3 ?sN3 ?aN4 ?tN4 ?hdN4 ?eN4 ?sN4 ?aN5 ?tN5 ?hdN5 ?eN5 ?sN5 ?aN6 ?tN6 ?hdN6 ?eN6 ?sN6 ?aN7 ?tN7 ?hdN7 ?eN7 ?sN7 ?aN8 ?tN8 ?hdN8 ?eN8 ?sN8 ?tNU ?hdNU ?eNU ?sNU ?sDOP ?sDOC ?sDO3 ?sDO4 ?sDO5 ?sDO6 ?sDO7 ?sDO8 ?sDOU ?sDPO ?sDPC ?sDP3 ?sDP4 ?sDP5 ?sDP6 ?sDP7 ?sDP8 ?sDPU ?sDCO ?sDCP ?sDC3 ?sDC4 ?sDC5 ?sDC6 ?sDC7 ?sDC8 ?sDCU ?sDUO ?sDUP ?sDUC ?sDU3 ?sDU4 ?sDU5 ?sDU6 ?sDU7 ?sDU8 ?sOP ?sOC ?sPO ?sPC ?sCO ?sCP ?v1 ?v2 ?v3 ?v4 ?v5 ?v6 ?v7 ?v8 ?v9 ?x1 ?x2 ?x3 ?x4 ?x5 ?x6 ?l6 ?l7 ?l8 ?l9 ?z_len ?z_max ?z_min ?z_abs ?z_range ?z_list ?z_str ?z_isinstance ?z_all ?z_bool ?z_zip ?z_int ?z_ValueError ?aLaw ?lLaw ?cLaw ?kLaw
    (case aWithin => k_is)
    (case lWithin => k_is)
    (case cWithin => k_is)
    (case kWithin => k_is)
    (case aIsName => k_is)
    (case lIsName => k_is)
    (case cIsName => k_is)
    (case kIsName => k_is)
    (case aIsAbout => k_is)
    (case lIsAbout => k_is)
    (case cIsAbout => k_is)
    (case kIsAbout => k_is)
    (case aIsAmong => k_is)
    (case lIsAmong => k_is)
    (case cIsAmong => k_is)
    (case kIsAmong => k_is)
    (case aIsDefault => k_is)
    (case lIsDefault => k_is)
    (case cIsDefault => k_is)
    (case kIsDefault => k_is)
    (case aIsShort => k_is)
    (case lIsShort => k_is)
    (case cIsShort => k_is)
    (case kIsShort => k_is)
    (case aIsTruth => k_is)
    (case lIsTruth => k_is)
    (case cIsTruth => k_is)
    (case kIsTruth => k_is)
    (case aLWithin => k_is)
    (case lLWithin => k_is)
    (case cLWithin => k_is)
    (case kLWithin => k_is)
    (case aAreO => k_is)
    (case lAreO => k_is)
    (case cAreO => k_is)
    (case kAreO => k_is)
    (case aAreP => k_is)
    (case lAreP => k_is)
    (case cAreP => k_is)
    (case kAreP => k_is)
    (case aIsG => k_is)
    (case lIsG => k_is)
    (case cIsG => k_is)
    (case kIsG => k_is)
    (case aAreG => k_is)
    (case lAreG => k_is)
    (case cAreG => k_is)
    (case kAreG => k_is)
    (case aAreC => k_is)
    (case lAreC => k_is)
    (case cAreC => k_is)
    (case kAreC => k_is)
    (case aEmpty => k_is)
    (case lEmpty => k_is)
    (case cEmpty => k_is)
    (case kEmpty => k_is)
    (case aCopied => k_is)
    (case lCopied => k_is)
    (case cCopied => k_is)
    (case kCopied => k_is)
    (case aCell => k_is)
    (case lCell => k_is)
    (case cCell => k_is)
    (case kCell => k_is)
    (case aPot => k_is)
    (case lPot => k_is)
    (case cPot => k_is)
    (case kPot => k_is)
    (case aTake => k_is)
    (case lTake => k_is)
    (case cTake => k_is)
    (case kTake => k_is)
    (case aSigns => k_is)
    (case lSigns => k_is)
    (case cSigns => k_is)
    (case kSigns => k_is)
    (case aText => k_is)
    (case lText => k_is)
    (case cText => k_is)
    (case kText => k_is)
    (case aKinds => k_is)
    (case lKinds => k_is)
    (case cKinds => k_is)
    (case kKinds => k_is)
    (case aCalled => k_is)
    (case lCalled => k_is)
    (case cCalled => k_is)
    (case kCalled => k_is)
    (case aMet => k_is)
    (case lMet => k_is)
    (case cMet => k_is)
    (case kMet => k_is)
    (case aField => k_is)
    (case lField => k_is)
    (case cField => k_is)
    (case kField => k_is)
    (case aUnmd => k_is)
    (case lUnmd => k_is)
    (case cUnmd => k_is)
    (case kUnmd => k_is)
    (case aBare => k_is)
    (case lBare => k_is)
    (case cBare => k_is)
    (case kBare => k_is)
    (case aB => k_is)
    (case tB => k_is)
    (case hdB => k_is)
    (case eB => k_is)
    (case ssB => k_is)
    (case spN => k_is)
    (case tkN => k_is)
    (case aNO => k_is)
    (case xNO => k_is)
    (case aEO => k_is)
    (case lEO => k_is)
    (case cEO => k_is)
    (case kEO => k_is)
    (case tEO => k_is)
    (case saNO => k_is)
    (case gaNO => k_is)
    (case ggNO => k_is)
    (case hcNO => k_is)
    (case nfNO => k_is)
    (case kNO => k_is)
    (case moNO => k_is)
    (case sVO => k_is)
    (case sBO => k_is)
    (case aCO => k_is)
    (case aIO => k_is)
    (case lIO => k_is)
    (case cIO => k_is)
    (case kIO => k_is)
    (case iIO => k_is)
    (case lTO => k_is)
    (case nhO => k_is)
    (case pgO => k_is)
    (case hdO => k_is)
    (case poO => k_is)
    (case saO => k_is)
    (case mkO => k_is)
    (case kCO => k_is)
    (case tyO => k_is)
    (case ssO => k_is)
    (case moO => k_is)
    (case caO => k_is)
    (case sbOstr => k_is)
    (case sbOlist => k_is)
    (case nrONoneType => k_is)
    (case nrObool => k_is)
    (case nrOint => k_is)
    (case nrOstr => k_is)
    (case nrOlist => k_is)
    (case nrOtuple => k_is)
    (case nrOdict => k_is)
    (case aNP => k_is)
    (case xNP => k_is)
    (case aEP => k_is)
    (case lEP => k_is)
    (case cEP => k_is)
    (case kEP => k_is)
    (case tEP => k_is)
    (case saNP => k_is)
    (case gaNP => k_is)
    (case ggNP => k_is)
    (case hcNP => k_is)
    (case nfNP => k_is)
    (case kNP => k_is)
    (case moNP => k_is)
    (case sVP => k_is)
    (case sBP => k_is)
    (case aCP => k_is)
    (case aIP => k_is)
    (case lIP => k_is)
    (case cIP => k_is)
    (case kIP => k_is)
    (case iIP => k_is)
    (case lTP => k_is)
    (case nhP => k_is)
    (case pgP => k_is)
    (case hdP => k_is)
    (case poP => k_is)
    (case saP => k_is)
    (case mkP => k_is)
    (case kCP => k_is)
    (case tyP => k_is)
    (case ssP => k_is)
    (case moP => k_is)
    (case caP => k_is)
    (case sbPstr => k_is)
    (case sbPlist => k_is)
    (case nrPNoneType => k_is)
    (case nrPbool => k_is)
    (case nrPint => k_is)
    (case nrPstr => k_is)
    (case nrPlist => k_is)
    (case nrPtuple => k_is)
    (case nrPdict => k_is)
    (case aNC => k_is)
    (case xNC => k_is)
    (case aEC => k_is)
    (case lEC => k_is)
    (case cEC => k_is)
    (case kEC => k_is)
    (case tEC => k_is)
    (case saNC => k_is)
    (case gaNC => k_is)
    (case ggNC => k_is)
    (case hcNC => k_is)
    (case nfNC => k_is)
    (case kNC => k_is)
    (case moNC => k_is)
    (case sVC => k_is)
    (case sBC => k_is)
    (case aCC => k_is)
    (case aIC => k_is)
    (case lIC => k_is)
    (case cIC => k_is)
    (case kIC => k_is)
    (case iIC => k_is)
    (case lTC => k_is)
    (case no0 => k_is)
    (case no1 => k_is)
    (case no2 => k_is)
    (case no3 => k_is)
    (case no4 => k_is)
    (case no5 => k_is)
    (case pgC => k_is)
    (case hdC => k_is)
    (case poC => k_is)
    (case saC => k_is)
    (case mkC => k_is)
    (case kCC => k_is)
    (case tyC => k_is)
    (case ssC => k_is)
    (case moC => k_is)
    (case caC => k_is)
    (case sbCstr => k_is)
    (case sbClist => k_is)
    (case nrCNoneType => k_is)
    (case nrCbool => k_is)
    (case nrCint => k_is)
    (case nrCstr => k_is)
    (case nrClist => k_is)
    (case nrCtuple => k_is)
    (case nrCdict => k_is)
    (case aNU => k_is)
    (case xNU => k_is)
    (case aEU => k_is)
    (case lEU => k_is)
    (case cEU => k_is)
    (case kEU => k_is)
    (case tEU => k_is)
    (case saNU => k_is)
    (case gaNU => k_is)
    (case ggNU => k_is)
    (case hcNU => k_is)
    (case nfNU => k_is)
    (case kNU => k_is)
    (case moNU => k_is)
    (case sVU => k_is)
    (case sBU => k_is)
    (case lTD => k_is)
    (case tNO => k_is)
    (case hdNO => k_is)
    (case eNO => k_is)
    (case sNO => k_is)
    (case tNP => k_is)
    (case hdNP => k_is)
    (case eNP => k_is)
    (case sNP => k_is)
    (case tNC => k_is)
    (case hdNC => k_is)
    (case eNC => k_is)
    (case sNC => k_is)
    (case aN3 => k_is)
    (case tN3 => k_is)
    (case hdN3 => k_is)
    (case eN3 => k_is)
    (case sN3 => k_is)
    (case aN4 => k_is)
    (case tN4 => k_is)
    (case hdN4 => k_is)
    (case eN4 => k_is)
    (case sN4 => k_is)
    (case aN5 => k_is)
    (case tN5 => k_is)
    (case hdN5 => k_is)
    (case eN5 => k_is)
    (case sN5 => k_is)
    (case aN6 => k_is)
    (case tN6 => k_is)
    (case hdN6 => k_is)
    (case eN6 => k_is)
    (case sN6 => k_is)
    (case aN7 => k_is)
    (case tN7 => k_is)
    (case hdN7 => k_is)
    (case eN7 => k_is)
    (case sN7 => k_is)
    (case aN8 => k_is)
    (case tN8 => k_is)
    (case hdN8 => k_is)
    (case eN8 => k_is)
    (case sN8 => k_is)
    (case tNU => k_is)
    (case hdNU => k_is)
    (case eNU => k_is)
    (case sNU => k_is)
    (case sDOP => k_is)
    (case sDOC => k_is)
    (case sDO3 => k_is)
    (case sDO4 => k_is)
    (case sDO5 => k_is)
    (case sDO6 => k_is)
    (case sDO7 => k_is)
    (case sDO8 => k_is)
    (case sDOU => k_is)
    (case sDPO => k_is)
    (case sDPC => k_is)
    (case sDP3 => k_is)
    (case sDP4 => k_is)
    (case sDP5 => k_is)
    (case sDP6 => k_is)
    (case sDP7 => k_is)
    (case sDP8 => k_is)
    (case sDPU => k_is)
    (case sDCO => k_is)
    (case sDCP => k_is)
    (case sDC3 => k_is)
    (case sDC4 => k_is)
    (case sDC5 => k_is)
    (case sDC6 => k_is)
    (case sDC7 => k_is)
    (case sDC8 => k_is)
    (case sDCU => k_is)
    (case sDUO => k_is)
    (case sDUP => k_is)
    (case sDUC => k_is)
    (case sDU3 => k_is)
    (case sDU4 => k_is)
    (case sDU5 => k_is)
    (case sDU6 => k_is)
    (case sDU7 => k_is)
    (case sDU8 => k_is)
    (case sOP => k_is)
    (case sOC => k_is)
    (case sPO => k_is)
    (case sPC => k_is)
    (case sCO => k_is)
    (case sCP => k_is)
    (case v1 => k_is)
    (case v2 => k_is)
    (case v3 => k_is)
    (case v4 => k_is)
    (case v5 => k_is)
    (case v6 => k_is)
    (case v7 => k_is)
    (case v8 => k_is)
    (case v9 => k_is)
    (case x1 => k_is)
    (case x2 => k_is)
    (case x3 => k_is)
    (case x4 => k_is)
    (case x5 => k_is)
    (case x6 => k_is)
    (case l6 => k_is)
    (case l7 => k_is)
    (case l8 => k_is)
    (case l9 => k_is)
    (case z_len => k_is)
    (case z_max => k_is)
    (case z_min => k_is)
    (case z_abs => k_is)
    (case z_range => k_is)
    (case z_list => k_is)
    (case z_str => k_is)
    (case z_isinstance => k_is)
    (case z_all => k_is)
    (case z_bool => k_is)
    (case z_zip => k_is)
    (case z_int => k_is)
    (case z_ValueError => k_is)
    (case aLaw => k_is)
    (case lLaw => k_is)
    (case cLaw => k_is)
    (case kLaw => k_is)
