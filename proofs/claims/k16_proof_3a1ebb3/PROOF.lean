import PyProof.Rows.All
import Wide.All
import OpenK.AllK
import Wide.FinOn
import KE.KIsAll
import PyProof.ReprRoads
import PyProof.StrBlock2
import HandS.ForMost
import HandS.IsInst
import HandS.Exc
import HandS.ExcInit
import HandS.ExcField
import HandS.ExcIs
import HandS.TryOnly
import HandS.WordsExc
import HandS.Defaults
import HandS.MakeKw
import HandS.MakeKwOnly
import PySem.Challenge.RW_wordbench_k16_alike_and_shown
import HandS.Walk
import HandS.OwnEq
import HandS.SlotsOwn
import PyProof.InstNe
import PyProof.EqKinds
import HandS.FStr
import PyProof.ReprNest
import PyProof.StrHeap
set_option Elab.async false
set_option linter.all false
set_option maxRecDepth 100000
set_option maxHeartbeats 4000000
namespace WG
open PySem PySem.Spec PyProof.Rows L2
/-! ### a def's promise where no repr is under way -/
structure GOk (P : Program) (w : World) (K : PySem.W.Frag) (mg : Str → Option Value) (base : Heap) (CX : CXT) (k : Nat) (f : Addr) (fd : FuncData) (ps : List Str) (sp : Sp) : Prop where
  len : ∀ vs H Q E, sp vs H Q E → vs.length = ps.length
  run : ∀ (A : Around) (outer : List Env) (s : Shared) (H : Hp) (args : Args) (us : List Value) (vs : List V) (Q : VK) (E : XK), A.guards = some [] → Room k A → Env0 P w K mg base A outer s H →
    BindsTo s fd args (ps.zip us) → Vals vs us → sp vs H Q E → codeAny (model P w) A (.call (.ref f) args) (CR CX outer P w H s Q E) s
theorem GOk.of {P : Program} {w : World} {K : PySem.W.Frag} {mg : Str → Option Value} {base : Heap} {CX : CXT} {k : Nat} {f : Addr} {fd : FuncData} {ps : List Str} {sp : Sp} (F : FnOk P w K mg base CX k f fd ps sp) : GOk P w K mg base CX k f fd ps sp :=
  ⟨F.len, fun A o s H args us vs Q E _ => F.run A o s H args us vs Q E⟩
section
variable {CX : CXT} {P : Program} {w : World} {K : PySem.W.Frag} {mg : Str → Option Value} {base : Heap} {k : Nat} {f : Addr} {N ps : List Str} {sp : Sp}
theorem gfn_of {name qual : Str} {params : Arguments} {body : List Stmt} {scope : Scope} {dV kV doc pm cdv ct oc : Value} {an od : Option Addr} {osl : Array (Option Value)}
    (lk : K.lookup f = some ⟨oc, od, .func (PySem.W.fnOf name qual params body scope dV kV doc pm an cdv ct), osl⟩) (hcd : PySem.W.codeIn K cdv qual = true) (S : FnScope N ps scope) (len : ∀ vs H Q E, sp vs H Q E → vs.length = ps.length)
    (hbody : ∀ (A : Around) (outer : List Env) (s : Shared) (H : Hp) (vs : List V) (Q : VK) (E : XK), A.guards = some [] → Room k (A.deeper (envOfC qual scope s.heap.objs.size f cdv)) → sp vs H Q E →
      ∃ t, PSs (cxOf CX P w K mg base N qual scope f cdv A outer s H E) body t ∧ t { nx := fun _ H' => Q .non H', rt := Q } (L2.start N vs) H) :
    GOk P w K mg base CX (k + 1) f (PySem.W.fnOf name qual params body scope dV kV doc pm an cdv ct) ps sp := by
  refine ⟨len, fun A outer s H args us vs Q E hgd room env bnd rel want => ?_⟩
  have hlen := len _ _ _ _ want
  have kin : K.In s.heap := env.mod.kin.keeps fun b o q => (env.bs b o q).1
  have nolim : s.heap.NoLimit := env.mod.nolimit.keeps fun b o q => (env.bs b o q).1
  have kinds : ∀ y ∈ ps.zip us, scope.names.lookup y.1 = some .local ∨ (scope.names.lookup y.1 = some .cell ∧ ((cellsFrom (s.heap.objs.size + 1) scope.names []).lookup y.1).isSome = true) := by
    intro y hy
    obtain ⟨n, v⟩ := y
    cases S.par n (List.of_mem_zip hy).1 with
    | inl z => exact .inl z
    | inr z => exact .inr ⟨z, PySem.W.cellsFrom_some _ _ _ (.inl z)⟩
  refine codeAny_call_function room.depth (kin _ _ lk) rfl S.co S.gen rfl (PySem.W.codeRec_of kin hcd) (bnd _ _ _ _ ?_)
  refine wpAny_newFunctionEnv_cells S.kind kinds fun e2 he2 s1 hx => ?_
  subst he2
  refine ⟨nolim.keeps hx.toInCall.keep, codeAny_func ?_⟩
  obtain ⟨t, tb, tq⟩ := hbody A outer s H vs Q E hgd (room.deeper _) want
  have I : Inv (cxOf CX P w K mg base N qual scope f cdv A outer s H E) [] (L2.start N vs) H s1 := inv_start S room.hd env hlen rel hx
  refine wpAny_mono (tb.run [] s1 (L2.start N vs) H _ I tq) (fun fl s' hs => ?_) fun e s' hs => hs
  cases fl with
  | ret u =>
    obtain ⟨v, _, H', J, rv, q⟩ := hs
    exact ⟨v, H', J.os, J.bare, J.base, J.hok, rv, q⟩
  | next =>
    obtain ⟨_, H', J, q⟩ := hs
    exact ⟨V.non, H', J.os, J.bare, J.base, J.hok, rfl, q⟩
  | brk =>
    obtain ⟨_, _, _, q⟩ := hs
    exact False.elim q
  | cont =>
    obtain ⟨_, _, _, q⟩ := hs
    exact False.elim q
theorem gfun_ok {x qual : Str} {st : Stmt} {fd : FuncData} (F : Fun K x qual st f fd) (S : FnScope N ps (defScope st)) (len : ∀ vs H Q E, sp vs H Q E → vs.length = ps.length)
    (hbody : ∀ (cdv : Value) (A : Around) (outer : List Env) (s : Shared) (H : Hp) (vs : List V) (Q : VK) (E : XK), A.guards = some [] → Room k (A.deeper (envOfC qual (defScope st) s.heap.objs.size f cdv)) → sp vs H Q E →
      ∃ t, PSs (cxOf CX P w K mg base N qual (defScope st) f cdv A outer s H E) (defBody st) t ∧ t { nx := fun _ H' => Q .non H', rt := Q } (L2.start N vs) H) : GOk P w K mg base CX (k + 1) f fd ps sp := by
  obtain ⟨oc, od, kV, doc, pm, an, cdv, ct, osl, rfl, lk, hcd⟩ := F.ex
  exact gfn_of lk hcd S len fun A outer s H vs Q E hg hr hsp => hbody cdv A outer s H vs Q E hg hr hsp
end
section
variable {X : Cx} {CX : CXT} {k : Nat} {f : Addr} {fd : FuncData} {ps : List Str} {sp : Sp} {E : XK} {x : Str} {p pos : Pos} {e : Expr} {es : List Expr} {t : TA}
theorem pe_callG (F : GOk X.prog X.w X.K X.mg X.base CX k f fd ps sp) (hgd : X.A.guards = some []) (hr : Room k X.A) (hg : Gl X x) (hm : X.mg x = some (.ref f)) (hk : PySem.W.keepIn X.K (.ref f) = true) (hb : Binds X.K fd ps []) (hx : Passes CX X E)
    (ha : PA X (e :: es) t) (hdb : (x == ("__debug__" : Str)) = false := by decide) (he : starEach (e :: es) X.env = (false, eval e X.env) :: starEach es X.env := by rfl) (hpl : (backTo pos (starEach es X.env)).any (·.1) = false := by rfl) :
    PE X (.Call (.Name x p) (e :: es) [] pos) (tCall sp [] E t) := by
  constructor
  intro pins s σ H Q I h
  refine wpAny_Call_Name_kw (ld_glob I hg hm ?_ hdb)
  refine PySem.W.callWith_K (h₀ := X.base) I.ok.mod.kin hk (thn (ha.run pos pins s σ H _ I h) fun us s1 ⟨vs, H1, I1, r, q⟩ => ⟨I1.kIn, ?_⟩) he hpl
  have q : sp vs H1 Q E := by
    have z : sp (vs ++ []) H1 Q E := q
    rw [List.append_nil] at z
    exact z
  have hl : (us ++ []).length = ps.length := by
    rw [List.append_nil, ← r.length]
    exact F.len _ _ _ _ q
  have b := hb s1 us I1.kIn hl
  rw [List.append_nil] at b
  refine wpAny_call (codeAny_mono (F.run X.A X.stack s1 H1 ⟨us, []⟩ us vs Q E hgd hr I1.env0 b r q) fun rr s' hq => ?_)
  cases rr with
  | error er => exact hx pins σ H1 s1 er s' I1 hq
  | ok fl =>
    cases fl with
    | ret u => exact I1.after hq
    | next => exact hq.elim
    | brk => exact hq.elim
    | cont => exact hq.elim
end
/-! ### the law's end over such a promise -/
theorem glaw_call {P : Program} {w : World} {K : PySem.W.Frag} {mg mb : Str → Option Value} {CX : CXT} {k : Nat} {fa a : Addr} {fd : FuncData} {x : Str} {sp : Sp} {t : Shared} {vs : List Value} {ns : List Int}
    (kin : K.In t.heap) (nsm : t.heap.Ns mainGlobals mg) (nsb : t.heap.Ns builtinsNs mb) (hbb : ∀ x : Str, x ≠ "__name__" → mb x = bootBuiltins x) (nolim : t.heap.NoLimit) (nogen : t.gens = #[])
    (obj : t.heap.get? a = some { cls := .type "list", data := .seq vs.toArray }) (hints : IntsAre vs ns) (hl : ns.length ≤ sizeLine) (room : Room k callerA)
    (F : ∀ base : Heap, K.In base → base.Ns mainGlobals mg → GOk P w K mg base CX k fa fd [x] sp) (bnd : ∀ (s : Shared) (u : Value), BindsTo s fd ⟨[u], []⟩ [(x, u)])
    (want : ∀ H : Hp, Only H → SqL K H a (ns.map V.int) → sp [.ref a] H (fun v _ => v = .bl true) fun _ _ _ => False)
    (noX : ∀ H e s', CX [] H t (fun _ _ _ => False) e s' → False) :
    codeAny (model P w) callerA (.call (.ref fa) ⟨[.ref a], []⟩) (fun r s' => r = .ok (.ret (.bool true)) ∧ OldK t.heap s'.heap ∧ s'.os = t.os ∧ AllBare s'.gens) t := by
  have rv := vals_ints hints
  have hlv := hints.length
  have main : ∀ H : Hp, Only H → SqL K H a (ns.map V.int) → HOk P w H t.heap → (∀ b, H b ≠ none → b = a) → (H a ≠ none → K.lookup a = none) →
      codeAny (model P w) callerA (.call (.ref fa) ⟨[.ref a], []⟩) (fun r s' => r = .ok (.ret (.bool true)) ∧ OldK t.heap s'.heap ∧ s'.os = t.os ∧ AllBare s'.gens) t := by
    intro H only hS ok onlyA hK
    have noD : ∀ {b : Addr} {o : Obj} {es : Array DictEntry} {ep : Nat}, t.heap.get? b = some o → o.data = .dict es ep → H b = none := by
      intro b o es ep e d
      cases q : H b with
      | none => rfl
      | some u =>
        have z := onlyA b (by rw [q]; exact Option.some_ne_none u)
        subst z
        rw [obj] at e
        cases e
        cases d
    have nsH : ∀ {b : Addr} {m : Str → Option Value}, t.heap.Ns b m → (hidT t.heap H).Ns b m := by
      rintro b m ⟨o, es, ep, e, d, r⟩
      exact ⟨o, es, ep, hidT_get e (noD e d), d, r⟩
    have kinH : K.In (hidT t.heap H) := by
      intro b o e
      refine hidT_get (kin b o e) ?_
      cases q : H b with
      | none => rfl
      | some u =>
        have z := onlyA b (by rw [q]; exact Option.some_ne_none u)
        subst z
        rw [hK (by rw [q]; exact Option.some_ne_none u)] at e
        cases e
    have md : Mod K mg (hidT t.heap H) := by
      refine ⟨kinH, nsH nsm, ⟨mb, nsH nsb, hbb⟩, ?_⟩
      obtain ⟨mc, h1, h2⟩ := nolim
      exact ⟨mc, nsH h1, h2⟩
    have env : Env0 P w K mg (hidT t.heap H) callerA [] t H :=
      ⟨rfl, md, fun b o e => of_hidT e, Nat.le_of_eq (hidT_size _ _), trivial, fun b hb => (List.not_mem_nil (show b ∈ ([] : List Addr) from hb)).elim, ok, .of_eq nogen⟩
    refine codeAny_mono ((F _ kinH (nsH nsm)).run callerA [] t H ⟨[.ref a], []⟩ [.ref a] [.ref a] _ _ rfl room env (bnd t (.ref a)) (.cons rfl .nil) (want H only hS)) fun r s' h => ?_
    cases r with
    | error e => exact (noX H e s' h).elim
    | ok fl =>
      cases fl with
      | next => exact h.elim
      | brk => exact h.elim
      | cont => exact h.elim
      | ret u =>
        obtain ⟨v, H', os, bare, un, ok', r', q⟩ := h
        have q' : v = .bl true := q
        subst q'
        cases r'
        refine ⟨rfl, OldK.of_keep fun b o e => ?_, os, bare⟩
        cases q : H b with
        | none => exact un.keep b o e q (fun z => (List.not_mem_nil (show b ∈ ([] : List Addr) from z)).elim) List.not_mem_nil
        | some u =>
          rcases only b with z | ⟨ob, xs, z⟩
          · rw [q] at z
            cases z
          · obtain ⟨e1, _⟩ := ok b _ z
            obtain ⟨e2, _⟩ := ok' b _ (un.frzs b ob _ z)
            rw [e] at e1
            cases e1
            exact e2
  cases hk : K.lookup a with
  | some o =>
    have e := kin a o hk
    rw [obj] at e
    cases e
    refine main (fun _ => none) (fun _ => .inl rfl) (.inr ⟨_, vs.toArray, _, hk, rfl, rfl, rfl, ?_, by simpa using rv⟩) (fun b u z => by cases (show (none : Option HO) = some u from z)) (fun b z => absurd rfl z) fun z => absurd rfl z
    rw [List.size_toArray, hlv]
    exact hl
  | none =>
    refine main (fun b => if b = a then some (.frz { cls := .type "list", data := .seq vs.toArray } (.lst (ns.map V.int))) else none) (fun b => ?_) (.inl (.inr ⟨_, if_pos rfl⟩)) (fun b u z => ?_) (fun b z => ?_) fun _ => hk
    · by_cases hb : b = a
      · exact .inr ⟨_, _, if_pos hb⟩
      · exact .inl (if_neg hb)
    · by_cases hb : b = a
      · have z' := (if_pos hb).symm.trans z
        cases z'
        subst hb
        exact ⟨obj, by rw [List.length_map]; exact hl, vs, _, rv, obj⟩
      · have z' := (if_neg hb).symm.trans z
        cases z'
    · by_cases hb : b = a
      · exact hb
      · exact absurd (if_neg hb) z
theorem gwalk_of {l : PySem.W.OpenLaw} {n k : Nat} {q : Program} {loose : List Str} {XP : (Str → Option Value) → Heap → Prop} {YP : World → Heap → Prop} {d : DefRec} {K : Params → PySem.W.Frag} {CX : World → CXT} {sp : World → Sp} {x : Str}
    (hn : l.most = some n) (hn2 : n ≤ sizeLine) (hdf : d.params.defaults = []) (hr : Room k callerA) (hY : ∀ (w : World) (h : Heap), YP w h → (K w.params).In h)
    (F : ∀ (w : World) (mg : Str → Option Value) (fa : Addr) (h : Heap), (K w.params).In h → h.Ns mainGlobals mg → mg d.name = some (.ref fa) →
      ∃ fd : FuncData, (∀ (s : Shared) (u : Value), BindsTo s fd ⟨[u], []⟩ [(x, u)]) ∧ ∀ base : Heap, (K w.params).In base → base.Ns mainGlobals mg → GOk l.prog w (K w.params) mg base (CX w) k fa fd [x] (sp w))
    (hsp : ∀ (w : World) (H : Hp) (a : Addr) (ns : List Int), ns.length ≤ n → Only H → SqL (K w.params) H a (ns.map V.int) → sp w [.ref a] H (fun v _ => v = .bl true) fun _ _ _ => False)
    (hCX : ∀ (w : World) (H : Hp) (s : Shared) (e : Value) (s' : Shared), CX w [] H s (fun _ _ _ => False) e s' → False) : PySem.W.WalkO q loose XP YP l.row.toRowW d [] (fun f vs => PySem.call f vs) := by
  refine Att.attach_call hn hdf fun w s0 s1 mg mb fa o pm cd doc a vs ns G Y ho hd hcd hmg hobj hints hlen hg => ?_
  obtain ⟨fd, hb, hF⟩ := F w mg fa _ (hY w _ Y) G.T.g hmg
  exact glaw_call (hY w _ Y) G.T.g G.T.b G.T.builtins G.T.nolimit hg hobj hints (Nat.le_trans hlen hn2) hr hF hb (fun H hO hS => hsp w H a ns hlen hO hS) fun H e s' => hCX w H s1 e s'
/-! ### text * int -/
theorem fold_toList : ∀ (l : List (Array Nat)) (acc : Array Nat), (l.foldl (· ++ ·) acc).toList = acc.toList ++ (l.map Array.toList).flatten
  | [], acc => by simp
  | x :: l, acc => by
    rw [List.foldl_cons, fold_toList l]
    simp
theorem mul_tl (z : Str) (n : Nat) : (Txt.mul z (n : Int)).cps.toList = (List.replicate n z.cps.toList).flatten := by
  unfold Txt.mul
  by_cases h1 : (n : Int) < 1
  · have e : n = 0 := by omega
    subst e
    rw [if_pos h1]
    rfl
  · rw [if_neg h1]
    by_cases h2 : ((n : Int) == 1 || z.length == 0) = true
    · rw [if_pos h2]
      rcases Bool.or_eq_true_iff.mp h2 with e | e
      · have e1 : n = 1 := by
          have := eq_of_beq e
          omega
        subst e1
        simp
      · have e1 : z.cps.toList = [] := List.length_eq_zero_iff.mp (by
          have := eq_of_beq e
          simpa [Str.length] using this)
        rw [e1]
        simp
    · rw [if_neg h2]
      show ((List.replicate (n : Int).toNat z.cps).foldl (· ++ ·) #[]).toList = _
      rw [fold_toList, Int.toNat_natCast, List.map_replicate]
      rfl
theorem op_mul_str {X : Cx} : OpR X (binaryOp .Mult) (fun x y H Q => ∃ (z : Str) (n : Nat), x = .str z ∧ y = .int (n : Int) ∧ n ≤ 1000 ∧ z.length ≤ 1000 ∧ ∀ y : Str, y.length = z.length * n → (∀ c ∈ y.cps.toList, c ∈ z.cps.toList) → Q (.str y) H) := by
  intro pins s σ H x y v u Q I rx ry h
  obtain ⟨z, n, rfl, rfl, hn, hz, q⟩ := h
  obtain ⟨tx, rfl⟩ := rx
  obtain ⟨ty, rfl⟩ := ry
  have pw : z.length * n ≤ 1000000 := Nat.le_trans (Nat.mul_le_mul hz hn) (by decide)
  refine PySem.SB.mul ⟨?_, fun h1 h2 => ?_, fun h1 h2 => ?_⟩ fun t' k => ⟨.str _, H, I.tok k, ⟨t', rfl⟩, q _ ?_ ?_⟩
  · rw [decide_eq_false (by omega), decide_eq_false (by omega)]
    rfl
  · have e : (1000 : Int) ≤ (2 ^ 63 - 1) / (n : Int) := by
      have h3 : (0 : Int) < n := by omega
      exact (Int.le_ediv_iff_mul_le h3).mpr (by omega)
    omega
  · rw [Int.toNat_natCast]
    exact decide_eq_false (by show ¬ sizeLine < _; have : sizeLine = 16777216 := sizeLine_eq; omega)
  · rw [TL.len_tl, TL.len_tl z]
    show (Txt.mul z (n : Int)).cps.toList.length = _
    rw [mul_tl]
    simp [Nat.mul_comm]
  · intro c hc
    rw [mul_tl] at hc
    obtain ⟨l, hl, hcl⟩ := List.mem_flatten.mp hc
    rw [(List.mem_replicate.mp hl).2] at hcl
    exact hcl
/-! ### repr of a list -/
/-- a value and the data that it is: as in Dp, and dicts of none or one text with an int -/
inductive Itm (K : PySem.W.Frag) (H : Hp) : V → PyData → Prop
  | dp {v : V} {d : PyData} (h : Dp K H v d) (nd : d.hasDict = false) : Itm K H v d
  | d0 {a : Addr} (h : H a = some (.dK [])) : Itm K H (.ref a) (.dict [])
  | d1 {a : Addr} {x : Str} {i : Int} (h : H a = some (.dK [(Sum.inr x, .int i)])) : Itm K H (.ref a) (.dict [(.str x, .int i)])
inductive ItmAll (K : PySem.W.Frag) (H : Hp) : List V → List PyData → Prop
  | nil : ItmAll K H [] []
  | cons {v : V} {vs : List V} {d : PyData} {ds : List PyData} : Itm K H v d → ItmAll K H vs ds → ItmAll K H (v :: vs) (d :: ds)
section
variable {X : Cx} {pins : List (Addr × Obj)} {σ : L2.St} {H : Hp} {s : Shared}
theorem Itm.reads (I : Inv X pins σ H s) {v : V} {u : Value} {d : PyData} (h : Itm X.K H v d) (r : RelV v u) : ∃ as, Reads s.heap u d as ∧ (d.hasDict = true → sysModules ∉ as) := by
  cases h with
  | dp h nd =>
    obtain ⟨as, q⟩ := Dp.reads I d v u h r
    exact ⟨as, q, fun z => by rw [nd] at z; cases z⟩
  | @d0 a h =>
    cases r
    obtain ⟨_, ns, vs, kv, o, es, ep, ho, hx, hd, hk, hp, _⟩ := I.hok _ _ h
    cases kv
    generalize hl : es.toList = l at hp
    cases hp
    refine ⟨_, Reads.dict (kvs := []) (as := []) (bs := []) ho hx.1 hd (by rw [hl]; exact .nil) (by rw [hl]; exact .nil), fun _ => ?_⟩
    intro hm
    rcases List.mem_cons.mp hm with e | e
    · rw [← e] at ns
      exact absurd ns (by decide)
    · cases e
  | @d1 a x i h =>
    cases r
    obtain ⟨_, ns, vs, kv, o, es, ep, ho, hx, hd, hk, hp, _⟩ := I.hok _ _ h
    cases kv with
    | cons h1 h2 =>
      cases h2
      obtain ⟨e1, t, e2⟩ := h1
      rename_i b nd2
      obtain ⟨b1, b2⟩ := b
      dsimp only at e1 e2
      subst e1 e2
      generalize hl : es.toList = l at hp
      cases hp with
      | cons k1 k2 k3 =>
        cases k3
        rename_i en
        obtain ⟨hh, ky, vl⟩ := en
        dsimp only at k1 k2
        subst k2
        have k1' : keyIs (Sum.inr x) ky = true := k1
        rcases keyIs_shape k1' with ⟨j, t', z, _⟩ | ⟨y, t', z, rfl⟩
        · cases z
        · cases z
          refine ⟨_, Reads.dict (kvs := [(.str x, .int i)]) ho hx.1 hd (by rw [hl]; exact .cons (.str x t') .nil) (by rw [hl]; exact .cons (.int i t) .nil), fun _ => ?_⟩
          intro hm
          rcases List.mem_cons.mp hm with e | e
          · rw [← e] at ns
            exact absurd ns (by decide)
          · cases e
theorem ItmAll.all (I : Inv X pins σ H s) : ∀ {vs : List V} {ds : List PyData} {us : List Value}, ItmAll X.K H vs ds → Vals vs us → PyData.showableAll ds = true → (∀ t ∈ PyData.shownAll ds, t.length ≤ sizeLine) →
    (∃ as, ReadsAll s.heap us ds as) ∧ ∃ bs, ReadAtMost s.heap (PyData.depthAll ds) bs ∧ ReprAllK X.prog X.w bs s.heap (PyData.depthAll ds) us (PyData.shownAll ds)
  | _, _, _, .nil, .nil, _, _ => ⟨⟨_, .nil⟩, [], (fun _ h => nomatch h), by simp only [PyData.shownAll]; exact .nil⟩
  | _, _, _, .cons (d := d) (ds := ds) h1 h2, .cons r1 r2, hs, hz => by
    have hs' : d.showable = true ∧ PyData.showableAll ds = true := by simpa [PyData.showableAll] using hs
    obtain ⟨as, q, nq⟩ := h1.reads I r1
    obtain ⟨⟨as2, q2⟩, bs2, b2, k2⟩ := ItmAll.all I h2 r2 hs'.2 (fun t ht => hz t (by simp only [PyData.shownAll]; exact List.mem_cons_of_mem _ ht))
    obtain ⟨bs1, b1, k1⟩ := ReprK.of_reads (prog := X.prog) (w := X.w) q hs'.1 nq (hz _ (by simp only [PyData.shownAll]; exact List.mem_cons_self ..))
    refine ⟨⟨_, .cons q q2⟩, bs1 ++ bs2, ?_, ?_⟩
    · have e1 : d.depth ≤ PyData.depthAll (d :: ds) := by simp only [PyData.depthAll]; omega
      have e2 : PyData.depthAll ds ≤ PyData.depthAll (d :: ds) := by simp only [PyData.depthAll]; omega
      exact (b1.mono e1).append (b2.mono e2)
    · have e1 : d.depth ≤ PyData.depthAll (d :: ds) := by simp only [PyData.depthAll]; omega
      have e2 : PyData.depthAll ds ≤ PyData.depthAll (d :: ds) := by simp only [PyData.depthAll]; omega
      simp only [PyData.shownAll]
      exact .cons ((k1.more fun b hb => List.mem_append_left _ hb).level_le e1) (k2.more_le (fun b hb => List.mem_append_right _ hb) e2)
/-- repr(l) -/
def rRepr (K : PySem.W.Frag) : List V → Hp → VK → Prop := fun xs H Q => ∃ (a : Addr) (vs : List V) (ds : List PyData), xs = [.ref a] ∧ SqL K H a vs ∧ vs ≠ [] ∧ ItmAll K H vs ds ∧ PyData.showableAll ds = true ∧ PyData.depthAll ds ≤ 8 ∧
  (listText (PyData.shownAll ds)).length ≤ sizeLine ∧ Q (.str (listText (PyData.shownAll ds))) H
end
theorem call_repr_l {X : Cx} (hg : X.A.guards = some []) (hu : X.A.units + 16 < cLine) : CallR X (.builtin "repr") (rRepr X.K) := by
  intro pins s σ H xs us Q I r h
  obtain ⟨a, vs, ds, rfl, hS, hne, hI, hs, hdp, hz, q⟩ := h
  cases r with
  | cons ra rr =>
    cases rr
    cases ra
    obtain ⟨its, rv, ⟨o, n, ho, hc, hdx, hd⟩, _⟩ := I.list hS
    obtain ⟨⟨as, hr⟩, bs, hb, hk⟩ := ItmAll.all I hI rv hs (fun t ht => Nat.le_trans (listText_mem_le ht) hz)
    cases its with
    | nil =>
      cases rv
      exact absurd rfl hne
    | cons x l =>
      have rd : Reads s.heap (.ref a) (.list ds) _ := Reads.list ho hc hd hr
      have hna : a ∉ bs := not_mem_of_deeper rd (by simp only [PyData.depth]; omega) hb
      refine call_repr_slot (T := "list") (idr := "list.__repr__") (by omega) ⟨o, ho, hc⟩ F.slot_list_repr.toG ?_
      exact call_list_reprK (h₀ := s.heap) (as := bs) ho hc hd hna (by simpa using hk.length_eq) (fun i y e => hk.item i y (by simpa using e)) (g := []) hg (fun b _ => Clear.nil b) (by show X.A.units + 1 + (_ + 1) < cLine; omega) (fun _ _ e => e)
        (fun h' u tk hkp => ⟨_, _, rfl, .str _, H, I.kept (t' := tk) hkp, ⟨u, rfl⟩, q⟩) hz
end WG

set_option Elab.async false
set_option linter.all false
set_option maxRecDepth 100000
set_option maxHeartbeats 4000000
namespace WG
open PySem PySem.Spec PySem.Calls PyProof.Rows PySem.W
section
variable {prog : Program} {w : World} {A : Around} {E : Value → Shared → Prop} {s : Shared} {K : Frag} {x D : Addr} {ox : Obj} {od : Option Obj}
theorem find_dat {C : Addr} {name : Str} {a g : Value} (hc : (clsIn K C).isSome = true) (ha : findIn K (.ref C) name = some (some a)) (hg : specialIn K a "__get__" = some (some g)) (ht : takesIn K a = some true) :
    findObj K C od name = some (.bind g a) := by
  obtain ⟨cd, hcd⟩ := Option.isSome_iff_exists.mp hc
  unfold findObj
  rw [hcd, Option.bind_some, ha, Option.bind_some]
  simp [hg, ht]
theorem exc_class {Q : Option Value → Shared → Prop} (c : L2.ExcC K D) (kin : K.In s.heap) (at0 : InstAt s.heap x ox D od) (h : Q (some (.ref D)) { s with toks := s.toks + 1 }) : wpAny (model prog w) A (getAttr? (.ref x) "__class__") Q E s := by
  have hf : findObj K D od "__class__" = some (.bind (.builtin "getset_descriptor.__get__") (.builtin "object.__class__")) := by
    refine find_dat ?_ c.ha c.hn c.ht
    obtain ⟨cd, hcd, _⟩ := any_some c.hd
    rw [hcd] <;> rfl
  obtain ⟨hh, gs, dr, tk, os⟩ := s
  have t0 := at0.type (M := model prog w)
  have t1 := looks_findIn (M := model prog w) kin c.hg
  have t2 := looks_findIn (M := model prog w) kin c.hk
  have t3 := looks_find (M := model prog w) kin at0 hf
  have isb : Looks (model prog w) hh (isInstance (.ref x) (.type "BaseException")) true := t0.andThen (looks_subIn kin c.hs)
  have z0 : (false && onTheHeap (Value.builtin "BaseException.__getattribute__")) = false := rfl
  have z2 : (Value.builtin "BaseException.__getattribute__" == Value.builtin "object.__getattribute__") = false := by decide +kernel
  have z1 : (onTheHeap (Value.ref D) && Value.builtin "BaseException.__getattribute__" == Value.builtin "object.__getattribute__") = false := by
    rw [z2]
    rfl
  unfold getAttr? getAttrBy? getAttrBy
  refine wpAny_bind (wpAny_mkText (wpAny_bind (wpAny_attempt (wpAny_holding (wpAny_bind (t0.at (wpAny_bind (t1.at ?_))))))))
  show wpAny _ _ (if (onTheHeap (Value.ref D) && Value.builtin "BaseException.__getattribute__" == Value.builtin "object.__getattribute__") = true then _ else _) _ _ _
  rw [z1, if_neg Bool.false_ne_true]
  unfold getAttrByItsOwn hookBefore
  refine wpAny_bind ?_
  rw [if_pos (show onTheHeap (Value.ref D) = true from rfl)]
  refine t2.at (wpAny_bind (wpAny_attempt (wpAny_holding ?_)))
  unfold callGetattribute
  rw [z0, if_neg Bool.false_ne_true]
  unfold boundAndCalled
  rw [PySem.F.excAttr_ValueError.ga.bind (.ref x)]
  refine wpAny_bind (wpAny_pure ?_)
  show wpAny _ _ (call (.builtin "BaseException.__getattribute__") [.ref x, .str "__class__" tk]) _ _ _
  refine wpAny_call (codeAny_call_builtin PySem.F.excAttr_ValueError.ga.plain PySem.F.entry_bexc_ga ?_)
  refine @check_slot (model prog w) _ _ ⟨hh, gs, dr, tk + 1, os⟩ "BaseException.__getattribute__" "BaseException" "__getattribute__" (.ref x) [.str "__class__" tk] [] _ (by decide +kernel) (by decide +kernel) isb (PySem.F.args_bexc_ga (.ref x) (.str "__class__" tk)) ?_
  unfold Builtin.«object.__getattribute__»
  refine wpAny_bind (wpAny_of_eq (a := ((Value.ref x : Value), [Value.str "__class__" tk])) (by first | rfl | (simp only [slotArgs]; rfl)) ?_)
  refine wpAny_bind (wpAny_pure (wpAny_bind (t0.at (wpAny_bind (t3.at ?_)))))
  show wpAny _ _ (holding [Value.builtin "object.__class__"] (call (.builtin "getset_descriptor.__get__") [.builtin "object.__class__", .ref x, .ref D]) >>= ret) _ _ _
  refine wpAny_bind (wpAny_holding (wpAny_call (class_get (s := ⟨hh, gs, dr, tk + 1, os⟩) (ox := ox) (od := od) kin at0 c.hm ?_)))
  refine wpAny_pure ?_
  show wpAny _ _ (handedOut (.ref D)) _ _ _
  rw [handedOut_of (v := .ref D) rfl]
  first
    | exact wpAny_pure (wpAny_pure h)
    | exact wpAny_pure h
    | exact wpAny_pure (wpAny_bind (wpAny_pure (wpAny_pure h)))
theorem kit_exc (c : L2.ExcC K D) : KitX K (.ref x) (.ref D) (fun h => InstAt h x ox D od) := by
  obtain ⟨cd, hcd, _⟩ := any_some c.hd
  obtain ⟨o, ho, hdo⟩ : ∃ o, K.lookup D = some o ∧ o.data = .cls cd := by
    unfold clsIn at hcd
    split at hcd
    · rename_i c' d' cd' sl' hk
      cases hcd
      exact ⟨_, hk, rfl⟩
    · cases hcd
  obtain ⟨oc, odd, oda, osl⟩ := o
  dsimp only at hdo
  subst hdo
  refine { ty := fun _ _ _ J => J.type, it := fun _ _ kin _ => ?_, ne := fun h tp dd its n sl kin htp => ?_, ca := fun kin J k => exc_class c kin J k }
  · intro A' Q' E' s' kp q
    unfold isType loadHead
    exact wpAny_bind (wpAny_loadPart (kp _ _ (kin _ _ ho)) (wpAny_pure q))
  · refine Bool.eq_false_iff.mpr fun q => ?_
    have e : D = tp := Value.ref.inj (beq_iff_eq.mp q)
    subst e
    have z := (kin _ _ ho).symm.trans htp
    cases z
end
end WG
namespace WG
open PySem PySem.Spec PyProof.Rows L2
/-- isinstance(e, c), e the caught exception at a with its own dict -/
def rIsD (K : PySem.W.Frag) (a : Addr) (cls : Value) (d : Option Addr) : List V → Hp → VK → Prop := fun xs H Q => ∃ (D dd : Addr) (fs : List (Str × V)) (c : V) (cv : Value) (b : Bool), cls = .ref D ∧ d = some dd ∧ H dd = some (.xd fs) ∧ ExcC K D ∧
  xs = [.ref a, c] ∧ (∀ u, RelV c u → u = cv) ∧ PySem.W.kitOne K (.ref D) cv = some b ∧ Q (.bl b) H
theorem call_isD {X : Cx} {a : Addr} {oe : Obj} {cls : Value} {d : Option Addr} {pn : List (Addr × Obj)} (hz : Zc cls d oe) (hf : ∃ vs, oe.data = .fields vs) : CallR (X.suite a ((a, oe) :: pn)) (.builtin "isinstance") (rIsD X.K a cls d) := by
  intro pins s σ H xs us Q I r h
  obtain ⟨D, dd, fs, cl, cv, b, rfl, rfl, hx, c, rfl, hcv, e, q⟩ := h
  cases r with
  | cons rx rr =>
    cases rr with
    | cons rt rr =>
      cases rr
      cases rx
      have ec := hcv _ rt
      subst ec
      obtain ⟨hget, _⟩ := I.pin (a, oe) (List.mem_append.mpr (.inl List.mem_cons_self))
      obtain ⟨vs, hv⟩ := hf
      obtain ⟨mA, hns, _⟩ := I.hok dd _ hx
      obtain ⟨od, ho, _⟩ := lookIn_ns hns
      have J : PySem.W.InstAt s.heap a oe D (some od) := ⟨hget, hz.1, by unfold PySem.W.notCls; rw [hv] <;> rfl, by rw [hz.2]; exact ho⟩
      exact PySem.W.kia_one (kit_exc c) I.kIn J e (fun z => nomatch z) fun tk => ⟨.bl b, H, I.kept (t' := tk) fun _ _ z => z, rfl, q⟩
end WG

set_option Elab.async false
set_option linter.all false
set_option maxRecDepth 100000
set_option maxHeartbeats 4000000
namespace WB
open PySem PySem.Spec PyProof.Rows L2 WG
open TL (tl)
def topS (i : Nat) : Stmt := PySem.Challenge.pw_wordbench_k16_alike_and_shown.main.body.getD i (.Pass ⟨0, 0, 0, 0⟩)
abbrev sCell : Stmt := topS 27
abbrev sPot : Stmt := topS 28
abbrev sTake : Stmt := topS 29
abbrev sName : Stmt := topS 30
abbrev sSigns : Stmt := topS 31
abbrev sAbout : Stmt := topS 32
abbrev sText : Stmt := topS 33
/-- a def of the top: its object, how it binds, its name -/
structure Df (K : PySem.W.Frag) (mg : Str → Option Value) (x : Str) (st : Stmt) (ps : List Str) (f : Addr) (fd : FuncData) : Prop where
  F : Fun K x x st f fd
  b : Binds K fd ps []
  g : mg x = some (.ref f)
theorem scCell : FnScope ["_law_script", "_law_k"] ["_law_script", "_law_k"] (defScope sCell) := ⟨rfl, rfl, rfl, by decide +kernel, rfl, by decide +kernel, by decide +kernel⟩
theorem scPot : FnScope ["_law_script", "_law_k", "_law_cell_here"] ["_law_script", "_law_k"] (defScope sPot) := ⟨rfl, rfl, rfl, by decide +kernel, rfl, by decide +kernel, by decide +kernel⟩
theorem scTake : FnScope ["_law_pot_here", "_law_room", "_law_digit"] ["_law_pot_here", "_law_room"] (defScope sTake) := ⟨rfl, rfl, rfl, by decide +kernel, rfl, by decide +kernel, by decide +kernel⟩
theorem scName : FnScope ["_law_pot_here", "_law_signs_here", "_law_size", "_law_text_here", "_law_k", "_law_sign"] ["_law_pot_here"] (defScope sName) := ⟨rfl, rfl, rfl, by decide +kernel, rfl, by decide +kernel, by decide +kernel⟩
theorem scSigns : FnScope ["_law_pot_here", "_law_most", "_law_signs_here", "_law_k"] ["_law_pot_here", "_law_most"] (defScope sSigns) := ⟨rfl, rfl, rfl, by decide +kernel, rfl, by decide +kernel, by decide +kernel⟩
theorem scAbout : FnScope ["_law_pot_here", "_law_way", "_law_k"] ["_law_pot_here"] (defScope sAbout) := ⟨rfl, rfl, rfl, by decide +kernel, rfl, by decide +kernel, by decide +kernel⟩
theorem scText : FnScope ["_law_pot_here", "_law_way"] ["_law_pot_here"] (defScope sText) := ⟨rfl, rfl, rfl, by decide +kernel, rfl, by decide +kernel, by decide +kernel⟩
/-! ### heaps -/
theorem same_upd {H : Hp} {p : Addr} {o : HO} (h : H p = none) : Same H (upd H p o) := fun b x e => by
  rw [upd_ne (ne_of_none e h)]
  exact e
/-- all that was tracked but at p is as it was -/
def But (p : Addr) (H H' : Hp) : Prop := ∀ b o, b ≠ p → H b = some o → H' b = some o
theorem But.refl (p : Addr) (H : Hp) : But p H H := fun _ _ _ h => h
theorem But.trans {p : Addr} {H H1 H2 : Hp} (a : But p H H1) (b : But p H1 H2) : But p H H2 := fun c o n h => b c o n (a c o n h)
theorem But.of_same {p : Addr} {H H' : Hp} (a : Same H H') : But p H H' := fun c o _ h => a c o h
theorem But.upd (p : Addr) (H : Hp) (o : HO) : But p H (upd H p o) := fun c u n h => by
  rw [upd_ne n]
  exact h
theorem But.new {p : Addr} {H : Hp} {q : Addr} {o : HO} (h : H q = none) : But p H (L2.upd H q o) := But.of_same (same_upd h)
/-- at p a pot stands -/
def Pot (H : Hp) (p : Addr) : Prop := ∃ a b : Int, H p = some (.lst [.int a, .int b]) ∧ 0 ≤ b ∧ b < 2147483648
theorem Pot.ne {H : Hp} {p q : Addr} (h : Pot H p) (n : H q = none) : p ≠ q := by
  obtain ⟨a, b, e, _⟩ := h
  exact ne_of_none e n
theorem Pot.same {H H' : Hp} {p : Addr} (h : Pot H p) (s : Same H H') : Pot H' p := by
  obtain ⟨a, b, e, h1, h2⟩ := h
  exact ⟨a, b, s _ _ e, h1, h2⟩
theorem Pot.new {H : Hp} {p q : Addr} {o : HO} (h : Pot H p) (n : H q = none) : Pot (L2.upd H q o) p := h.same (same_upd n)
section
variable {P : Program} {w : World} {K : PySem.W.Frag} {mg : Str → Option Value} {base : Heap}
/-! ### _law_cell -/
def spCell (K : PySem.W.Frag) : Sp := fun vs H Q _ => ∃ (a : Addr) (ns : List Int) (k : Int), vs = [.ref a, .int k] ∧ SqL K H a (ns.map V.int) ∧ 0 ≤ k ∧ ∀ z : Int, Q (.int z) H
theorem ok_cell {f : Addr} {fd : FuncData} {k : Nat} (F : Fun K "_law_cell" "_law_cell" sCell f fd) (mL : mg "len" = none) : FnOk P w K mg base CX0 (k + 1) f fd ["_law_script", "_law_k"] (spCell K) := by
  refine F.ok scCell (fun vs H Q E h => ?_) (fun cdv A outer s H vs Q E hr h => ?_)
  · obtain ⟨a, ns, k, rfl, _⟩ := h
    rfl
  · obtain ⟨a, ns, k, rfl, hS, hk, q⟩ := h
    refine ⟨_, pss_one (ps_ret (pe_ifExp (pt_cmpR op_lt (pv 1) (pe_callB call_len_seq (by rfl) mL PySem.boot_len (pa_cons (pv 0) pa_nil)) (nomark _)) (pe_ix ix_list (pv 0) (pv 1) (fun _ _ => rfl)) pe_int)), ?_⟩
    refine ⟨.int k, rfl, .ref a, rfl, a, _, rfl, .inl hS, k, _, rfl, rfl, _, rfl, ite2 (fun e => ?_) (fun e => q 0)⟩
    have e1 := of_decide_eq_true e
    obtain ⟨n, rfl⟩ := Int.eq_ofNat_of_zero_le hk
    rw [List.length_map] at e1
    have hn : n < ns.length := by omega
    exact ⟨.ref a, rfl, .int n, rfl, a, _, _, .int ns[n], rfl, rfl, hS, atI_nat (j := n) (by rw [List.getElem?_map, List.getElem?_eq_getElem hn]; rfl), q _⟩
/-! ### _law_pot -/
def spPot (K : PySem.W.Frag) : Sp := fun vs H Q _ => ∃ (a : Addr) (ns : List Int) (k : Int), vs = [.ref a, .int k] ∧ SqL K H a (ns.map V.int) ∧ 0 ≤ k ∧ k ≤ 1000 ∧
  ∀ H' p, Same H H' → H p = none → Pot H' p → Q (.ref p) H'
theorem ok_pot {f fC : Addr} {fd fdC : FuncData} {k : Nat} (F : Fun K "_law_pot" "_law_pot" sPot f fd) (C : Df K mg "_law_cell" sCell ["_law_script", "_law_k"] fC fdC) (mL : mg "len" = none) (mM : mg "max" = none) (mA : mg "abs" = none) :
    FnOk P w K mg base CX0 (k + 2) f fd ["_law_script", "_law_k"] (spPot K) := by
  have GC : FnOk P w K mg base CX0 (k + 1) fC fdC ["_law_script", "_law_k"] (spCell K) := ok_cell C.F mL
  refine F.ok scPot (fun vs H Q E h => ?_) (fun cdv A outer s H vs Q E hr h => ?_)
  · obtain ⟨a, ns, k, rfl, _⟩ := h
    rfl
  · obtain ⟨a, ns, k, rfl, hS, hk, hk1, q⟩ := h
    refine ⟨_, pss_cons (ps_set (i := 2) scPot.nd rfl (.inl rfl) (pe_call GC hr (by rfl) C.g C.F.kp C.b .nil pass0 (pa_cons (pv 0) (pa_cons (pv 1) pa_nil))))
      (pss_one (ps_ret (pe_lst (pa_cons (pe_callB (call_max2 rfl) (by rfl) mM (by decide +kernel) (pa_cons pe_int (pa_cons (pe_op op_sub (pv 2) (pe_op op_pow pe_int pe_int)) pa_nil)))
        (pa_cons (pe_op op_mod (pe_op op_add (pe_op op_add (pe_op op_add (pe_op op_mul (pe_op op_mod (pe_callB call_abs (by rfl) mA (by decide +kernel) (pa_cons (pv 2) pa_nil)) pe_int) pe_int)
          (pe_op op_mul (pe_op op_mul pe_int (pv 1)) (pv 1))) (pe_op op_mul pe_int (pv 1))) pe_int) pe_int) pa_nil))))), ?_⟩
    refine ⟨.ref a, rfl, .int k, rfl, a, ns, k, rfl, hS, hk, fun z => ?_⟩
    refine ⟨.int z, rfl, 10, 18, rfl, rfl, ⟨by decide, by decide, by decide⟩, z, _, rfl, rfl, 0, _, rfl, ?_⟩
    refine ⟨.int z, rfl, z, rfl, _, 2147483629, rfl, rfl, (by show (0 : Int) < 2147483629; decide), _, 48271, rfl, rfl, .inr ⟨by decide, by decide⟩, .int k, rfl, 7919, k, rfl, rfl, .inl ⟨by decide, by decide⟩, .int k, rfl, _, k, rfl, rfl, .inr ⟨by omega, by omega⟩, _, _, rfl, rfl,
      .int k, rfl, 613, k, rfl, rfl, .inl ⟨by decide, by decide⟩, _, _, rfl, rfl, _, 29, rfl, rfl, _, 2147483629, rfl, rfl, (by show (0 : Int) < 2147483629; decide), ?_⟩
    refine ⟨by show 2 ≤ sizeLine; decide, fun p hp => q _ p (same_upd hp) hp ⟨_, _, upd_same, Int.emod_nonneg _ (by decide), ?_⟩⟩
    exact Int.lt_trans (Int.emod_lt_of_pos _ (by decide)) (by decide)
/-! ### _law_take -/
def spTake : Sp := fun vs H Q _ => ∃ (p : Addr) (m : Int), vs = [.ref p, .int m] ∧ Pot H p ∧ 0 < m ∧ m ≤ 1000 ∧ ∀ H' (d : Int), But p H H' → Pot H' p → 0 ≤ d → d < m → Q (.int d) H'
theorem ok_take {f : Addr} {fd : FuncData} {k : Nat} (F : Fun K "_law_take" "_law_take" sTake f fd) : FnOk P w K mg base CX0 (k + 1) f fd ["_law_pot_here", "_law_room"] spTake := by
  refine F.ok scTake (fun vs H Q E h => ?_) (fun cdv A outer s H vs Q E hr h => ?_)
  · obtain ⟨p, m, rfl, _⟩ := h
    rfl
  · obtain ⟨p, m, rfl, ⟨a, b, hp, hb0, hb1⟩, hm0, hm1, q⟩ := h
    refine ⟨_, pss_cons (ps_if (pt_cmpR op_gt (pe_ix ix_list (pv 0) pe_int (fun _ _ => rfl)) pe_int (nomark _))
        (pss_cons (ps_set (i := 2) scTake.nd rfl (.inl rfl) (pe_op op_mod (pe_ix ix_list (pv 0) pe_int (fun _ _ => rfl)) (pv 1)))
          (pss_cons (ps_asg (pe_op op_fdiv (pe_ix ix_list (pv 0) pe_int (fun _ _ => rfl)) (pv 1)) (pg_sub (pv 0) pe_int set_list))
          (pss_one (ps_ret (pv 2))))) pss_nil)
      (pss_cons (ps_asg (pe_op op_mod (pe_op op_add (pe_op op_mul (pe_ix ix_list (pv 0) pe_int (fun _ _ => rfl)) pe_int) pe_int) pe_int) (pg_sub (pv 0) pe_int set_list))
      (pss_one (ps_ret (pe_op op_mod (pe_op op_fdiv (pe_op op_mod (pe_op op_mul (pe_ix ix_list (pv 0) pe_int (fun _ _ => rfl)) (pe_ix ix_list (pv 0) pe_int (fun _ _ => rfl))) pe_int) pe_int) (pv 1))))), ?_⟩
    refine ⟨.ref p, rfl, p, _, 0, .int a, rfl, rfl, SqL.of hp, atI_nat (j := 0) rfl, a, 0, rfl, rfl, _, rfl, ite2 (fun e => ?_) (fun e => ?_)⟩
    · refine ⟨.ref p, rfl, p, _, 0, .int a, rfl, rfl, SqL.of hp, atI_nat (j := 0) rfl, .int m, rfl, a, m, rfl, rfl, hm0, ?_⟩
      refine ⟨.ref p, rfl, p, _, 0, .int a, rfl, rfl, SqL.of hp, atI_nat (j := 0) rfl, .int m, rfl, a, m, rfl, rfl, ⟨hm0, by omega⟩, ?_⟩
      refine ⟨.ref p, rfl, p, _, 0, 0, rfl, rfl, hp, rfl, ?_⟩
      exact ⟨.int (a % m), rfl, q _ _ (But.upd _ _ _) ⟨a / m, b, upd_same, hb0, hb1⟩ (Int.emod_nonneg _ (by omega)) (Int.emod_lt_of_pos _ hm0)⟩
    · refine ⟨.ref p, rfl, p, _, 1, .int b, rfl, rfl, SqL.of hp, atI_nat (j := 1) rfl, b, 39373, rfl, rfl, .inr ⟨by decide, by decide⟩, _, 8191, rfl, rfl, _, 2147483587, rfl, rfl, (by show (0 : Int) < 2147483587; decide), ?_⟩
      refine ⟨.ref p, rfl, p, _, 1, 1, rfl, rfl, hp, rfl, ?_⟩
      have c0 : 0 ≤ (b * 39373 + 8191) % 2147483587 := Int.emod_nonneg _ (by decide)
      have c1 : (b * 39373 + 8191) % 2147483587 < 2147483587 := Int.emod_lt_of_pos _ (by decide)
      refine ⟨.ref p, rfl, p, _, 1, .int ((b * 39373 + 8191) % 2147483587), rfl, rfl, SqL.of upd_same, atI_nat (j := 1) rfl, .ref p, rfl, p, _, 1, .int ((b * 39373 + 8191) % 2147483587), rfl, rfl, SqL.of upd_same, atI_nat (j := 1) rfl,
        (b * 39373 + 8191) % 2147483587, (b * 39373 + 8191) % 2147483587, rfl, rfl, .inl ⟨by omega, by omega⟩, _, 2147483543, rfl, rfl, (by show (0 : Int) < 2147483543; decide), _, 13, rfl, rfl, ⟨by decide, by decide⟩, .int m, rfl, _, m, rfl, rfl, hm0, ?_⟩
      exact q _ _ (But.upd _ _ _) ⟨a, _, upd_same, c0, by omega⟩ (Int.emod_nonneg _ (by omega)) (Int.emod_lt_of_pos _ hm0)
end
theorem at_strs (ys : List Str) (d : Int) (h0 : 0 ≤ d) (h1 : d < (ys.length : Int)) : ∃ y ∈ ys, atI (ys.map V.str) d = some (.str y) := by
  obtain ⟨n, rfl⟩ := Int.eq_ofNat_of_zero_le h0
  have hn : n < ys.length := by omega
  exact ⟨ys[n], List.getElem_mem hn, atI_nat (by rw [List.getElem?_map, List.getElem?_eq_getElem hn]; rfl)⟩
theorem at_ints (ys : List Int) (d : Int) (h0 : 0 ≤ d) (h1 : d < (ys.length : Int)) : ∃ y ∈ ys, atI (ys.map V.int) d = some (.int y) := by
  obtain ⟨n, rfl⟩ := Int.eq_ofNat_of_zero_le h0
  have hn : n < ys.length := by omega
  exact ⟨ys[n], List.getElem_mem hn, atI_nat (by rw [List.getElem?_map, List.getElem?_eq_getElem hn]; rfl)⟩
theorem at_any (ys : List V) (d : Int) (h0 : 0 ≤ d) (h1 : d < (ys.length : Int)) : ∃ y ∈ ys, atI ys d = some y := by
  obtain ⟨n, rfl⟩ := Int.eq_ofNat_of_zero_le h0
  have hn : n < ys.length := by omega
  exact ⟨ys[n], List.getElem_mem hn, atI_nat (List.getElem?_eq_getElem hn)⟩
end WB

set_option Elab.async false
set_option linter.all false
set_option maxRecDepth 100000
set_option maxHeartbeats 4000000
namespace WB
open PySem PySem.Spec PyProof.Rows L2 WG
open TL (tl)
/-! ### plain texts of at most n signs -/
structure Tx (n : Nat) (y : Str) : Prop where
  le : y.length ≤ n
  pl : ∀ c ∈ tl y, c < 256
theorem Tx.mono {n m : Nat} {y : Str} (h : Tx n y) (e : n ≤ m) : Tx m y := ⟨Nat.le_trans h.le e, h.pl⟩
theorem Tx.app {n m : Nat} {x y : Str} (h : Tx n x) (k : Tx m y) : Tx (n + m) (x ++ y) := by
  refine ⟨?_, fun c hc => ?_⟩
  · rw [Str.length_append]
    exact Nat.add_le_add h.le k.le
  · rw [TL.tl_append] at hc
    exact (List.mem_append.mp hc).elim (h.pl c) (k.pl c)
theorem Tx.cut {n : Nat} {x : Str} (h : Tx n x) (lo hi : Option Int) : Tx n (cutS x lo hi) := by
  refine ⟨Nat.le_trans (cutS_length x lo hi) h.le, fun c hc => h.pl c ?_⟩
  have e : c ∈ (x.cps.toList.drop _).take _ := hc
  exact List.mem_of_mem_drop (List.mem_of_mem_take e)
theorem Tx.sign {c : Nat} (h : c < 256) : Tx 1 ⟨#[c]⟩ := by
  refine ⟨Nat.le_refl 1, fun d hd => ?_⟩
  have e : d ∈ [c] := hd
  rw [List.mem_singleton.mp e]
  exact h
theorem Tx.lit (s : String) (n : Nat) (h : (Str.ofString s).length ≤ n) (k : ∀ c ∈ tl (Str.ofString s), c < 256) : Tx n (Str.ofString s) := ⟨h, k⟩
theorem mem_joinL (S : List Nat) : ∀ (ps : List (List Nat)) (c : Nat), c ∈ TL.joinL S ps → c ∈ S ∨ ∃ p ∈ ps, c ∈ p
  | [], c, h => by cases h
  | [p], c, h => .inr ⟨p, List.mem_singleton.mpr rfl, h⟩
  | p :: q :: r, c, h => by
    rcases List.mem_append.mp (show c ∈ p ++ (S ++ TL.joinL S (q :: r)) from h) with h | h
    · exact .inr ⟨p, List.mem_cons_self, h⟩
    · rcases List.mem_append.mp h with h | h
      · exact .inl h
      · rcases mem_joinL S (q :: r) c h with h | ⟨p', hp, hc⟩
        · exact .inl h
        · exact .inr ⟨p', List.mem_cons_of_mem _ hp, hc⟩
theorem sum_most (m : Nat) : ∀ ys : List Str, (∀ y ∈ ys, Tx m y) → (ys.map (·.length)).sum ≤ ys.length * m
  | [], _ => Nat.zero_le _
  | y :: r, h => by
    have h1 := sum_most m r fun z hz => h z (List.mem_cons_of_mem _ hz)
    have h2 := (h y List.mem_cons_self).le
    rw [List.map_cons, List.sum_cons, List.length_cons, Nat.succ_mul]
    omega
theorem Tx.join {sep : Str} {k m n : Nat} {ys : List Str} (hs : Tx k sep) (h : ∀ y ∈ ys, Tx m y) (hn : ys.length * m + ys.length * k ≤ n) : Tx n (Txt.join sep ys) := by
  refine ⟨?_, fun c hc => ?_⟩
  · rw [TL.join_eq]
    have e := StrLaws.join_length_le sep ys
    have e2 := sum_most m ys h
    have e3 : ys.length * sep.length ≤ ys.length * k := Nat.mul_le_mul_left _ hs.le
    omega
  · rw [TL.join_eq, TL.tl_join] at hc
    rcases mem_joinL _ _ c hc with h1 | ⟨p, hp, h1⟩
    · exact hs.pl c h1
    · obtain ⟨y, hy, rfl⟩ := List.mem_map.mp hp
      exact (h y hy).pl c h1
section
variable {P : Program} {w : World} {K : PySem.W.Frag} {mg : Str → Option Value} {base : Heap}
/-! ### _law_name -/
def spDrawn (n : Nat) : Sp := fun vs H Q _ => ∃ p : Addr, vs = [.ref p] ∧ Pot H p ∧ ∀ H' (y : Str), But p H H' → Pot H' p → Tx n y → Q (.str y) H'
def nameSigns : List Str := [Str.ofString "abcdefghijklmnopqrstuvwxyz0123456789-", Str.ofString "abno-", Str.ofString "no-"]
theorem nameSigns_len : ∀ y ∈ nameSigns, 0 < y.length ∧ y.length ≤ 100 ∧ ∀ c ∈ tl y, c < 256 := by decide +kernel
theorem ok_name {f fT : Addr} {fd fdT : FuncData} {k : Nat} (F : Fun K "_law_name" "_law_name" sName f fd) (T : Df K mg "_law_take" sTake ["_law_pot_here", "_law_room"] fT fdT) (mL : mg "len" = none) (mR : mg "range" = none) :
    FnOk P w K mg base CX0 (k + 2) f fd ["_law_pot_here"] (spDrawn 20) := by
  have GT : FnOk P w K mg base CX0 (k + 1) fT fdT ["_law_pot_here", "_law_room"] spTake := ok_take T.F
  refine F.ok scName (fun vs H Q E h => ?_) (fun cdv A outer s H vs Q E hr h => ?_)
  · obtain ⟨p, rfl, _⟩ := h
    rfl
  · obtain ⟨p, rfl, hp, q⟩ := h
    refine ⟨_, pss_cons (ps_set (i := 1) scName.nd rfl (.inl rfl) (pe_ix ix_list (pe_lst (pa_cons pe_str (pa_cons pe_str (pa_cons pe_str pa_nil)))) (pe_call GT hr (by rfl) T.g T.F.kp T.b .nil pass0 (pa_cons (pv 0) (pa_cons pe_int pa_nil))) (fun _ _ => rfl)))
      (pss_cons (ps_set (i := 2) scName.nd rfl (.inl rfl) (pe_op op_add pe_int (pe_call GT hr (by rfl) T.g T.F.kp T.b .nil pass0 (pa_cons (pv 0) (pa_cons (pe_ix ix_list (pe_lst (pa_cons pe_int (pa_cons pe_int pa_nil)))
        (pe_call GT hr (by rfl) T.g T.F.kp T.b .nil pass0 (pa_cons (pv 0) (pa_cons pe_int pa_nil))) (fun _ _ => rfl)) pa_nil)))))
      (pss_cons (ps_set (i := 3) scName.nd rfl (.inl rfl) pe_str)
      (pss_cons (ps_for PassesOwn.never rfl (pi_range1 rfl mR (pa_cons (pv 2) pa_nil)) (pg_name (i := 4) scName.nd rfl (Or.inl rfl))
        (pss_cons (ps_set (i := 5) scName.nd rfl (.inl rfl) (pe_ix ix_str (pv 1) (pe_call GT hr (by rfl) T.g T.F.kp T.b .nil pass0 (pa_cons (pv 0) (pa_cons (pe_callB call_len_str (by rfl) mL PySem.boot_len (pa_cons (pv 1) pa_nil)) pa_nil))) (fun _ _ => rfl)))
        (pss_cons (ps_if (PW.pt (pw_and (pt_cmpR op_eq (pv 5) pe_str (nomark _)) (pw_and1 (pt_cmpR op_in_seq (pv 4) (pe_tup (pa_cons pe_int (pa_cons (pe_op op_sub (pv 2) pe_int) pa_nil))) (by rfl)))))
          (pss_one (ps_set (i := 5) scName.nd rfl (.inl rfl) pe_str)) pss_nil)
        (pss_one (ps_set (i := 3) scName.nd rfl (.inl rfl) (pe_op op_add_str (pv 3) (pv 5)))))))
      (pss_cons (ps_if (pt_cmpR op_eq (pe_slice sl_str (pv 3) po_none (po_some pe_int)) pe_str (nomark _))
        (pss_one (ps_set (i := 3) scName.nd rfl (.inl rfl) (pe_op op_add_str pe_str (pe_slice sl_str (pv 3) (po_some pe_int) po_none)))) pss_nil)
      (pss_one (ps_ret (pv 3))))))), ?_⟩
    refine ⟨by decide +kernel, fun l1 n1 => ?_⟩
    have p1 := hp.new (o := .lst (nameSigns.map V.str)) n1
    have nl1 := hp.ne n1
    refine ⟨.ref p, rfl, p, 3, rfl, p1, by decide, by decide, fun H2 d2 b2 p2 d20 d21 => ?_⟩
    obtain ⟨z, hzm, hze⟩ := at_strs nameSigns d2 d20 (by show d2 < 3; exact d21)
    obtain ⟨hz0, hz1, hz2⟩ := nameSigns_len z hzm
    refine ⟨l1, _, d2, .str z, rfl, rfl, SqL.of (b2 _ _ nl1.symm upd_same), hze, .ref p, rfl, by decide +kernel, fun l2 n2 => ?_⟩
    have p3 := p2.new (o := .lst ([(3 : Int), 10].map V.int)) n2
    have nl2 := p2.ne n2
    refine ⟨.ref p, rfl, p, 2, rfl, p3, by decide, by decide, fun H4 d4 b4 p4 d40 d41 => ?_⟩
    obtain ⟨mo, mom, moe⟩ := at_ints [(3 : Int), 10] d4 d40 (by show d4 < 2; exact d41)
    have hmo : 0 < mo ∧ mo ≤ 10 := (by decide : ∀ y ∈ [(3 : Int), 10], 0 < y ∧ y ≤ 10) mo mom
    refine ⟨l2, _, d4, .int mo, rfl, rfl, SqL.of (b4 _ _ nl2.symm upd_same), moe, p, mo, rfl, p4, hmo.1, by omega, fun H5 d5 b5 p5 d50 d51 => ?_⟩
    refine ⟨1, d5, rfl, rfl, ?_⟩
    have bb : But p H H5 := ((((But.new n1).trans b2).trans (But.new n2)).trans b4).trans b5
    refine ⟨.int (1 + d5), rfl, _, rfl, by omega, by omega, for_range (lo := 0) (n := (1 + d5).toNat) (fun i σ H' => But p H5 H' ∧ Pot H' p ∧ ∃ (x : Str) (x4 x5 : Option V), σ = [some (.ref p), some (.str z), some (.int (1 + d5)), some (.str x), x4, x5] ∧ Tx i x)
      ⟨But.refl _ _, p5, Str.ofString "", none, none, rfl, Tx.lit "" 0 (by decide +kernel) (by decide +kernel)⟩ ?_ ?_⟩
    · rintro i σ H6 hi ⟨b6, p6, x, x4, x5, rfl, hx⟩
      have hzl : z.length ≤ sizeLine := Nat.le_trans hz1 (by decide)
      refine ⟨.str z, rfl, .ref p, rfl, .str z, rfl, z, rfl, hzl, p, z.length, rfl, p6, by omega, by omega, fun H7 j b7 p7 j0 j1 => ?_⟩
      obtain ⟨n, rfl⟩ := Int.eq_ofNat_of_zero_le j0
      have hn : n < z.cps.toList.length := by
        have e : z.cps.toList.length = z.length := by simp [Str.length]
        omega
      refine ⟨z, n, z.cps.toList[n], rfl, rfl, hzl, atI_nat (List.getElem?_eq_getElem hn), ?_⟩
      have fin : ∀ (H8 : Hp) (c : Str), But p H7 H8 → Pot H8 p → Tx 1 c → (tAsg (tOp (fun x y H Q => ∃ i j, x = .str i ∧ y = .str j ∧ i.length + j.length ≤ sizeLine ∧ Q (.str (i ++ j)) H) (tVar 3) (tVar 5)) (gName 3)) { nx := fun σ H' => But p H5 H' ∧ Pot H' p ∧ ∃ (x : Str) (x4 x5 : Option V), σ = [some (.ref p), some (.str z), some (.int (1 + d5)), some (.str x), x4, x5] ∧ Tx (i + 1) x, rt := Q }
          [some (.ref p), some (.str z), some (.int (1 + d5)), some (.str x), some (.int (0 + (i : Int))), some (.str c)] H8 := by
        intro H8 c b8 p8 hc
        refine ⟨_, rfl, _, rfl, x, c, rfl, rfl, ?_, (b6.trans b7).trans b8, p8, x ++ c, _, _, rfl, hx.app hc⟩
        have h1 := hx.le
        have h2 := hc.le
        exact Nat.le_of_lt (small1000 (by omega))
      refine ⟨_, rfl, rfl, _, rfl, ite2 (fun e => ?_) (fun e => ?_)⟩
      · refine ⟨_, rfl, .int (1 + d5), rfl, _, _, rfl, rfl, by show 2 ≤ sizeLine; decide, fun t nt => ?_⟩
        refine ⟨t, _, rfl, .inr (SqT.of upd_same), rfl, rfl, _, rfl, ite2 (fun e2 => ?_) (fun e2 => ?_)⟩
        · exact fin _ _ (But.new nt) (p7.new nt) (Tx.lit "e" 1 (by decide +kernel) (by decide +kernel))
        · exact fin _ _ (But.new nt) (p7.new nt) (Tx.sign (hz2 _ (List.getElem_mem hn)))
      · exact fin _ _ (But.refl _ _) p7 (Tx.sign (hz2 _ (List.getElem_mem hn)))
    · rintro σ H6 ⟨b6, p6, x, x4, x5, rfl, hx⟩
      have hxl : x.length ≤ 11 := by
        have := hx.le
        omega
      have hx11 : Tx 11 x := ⟨hxl, hx.pl⟩
      refine ⟨_, rfl, 3, rfl, x, rfl, Nat.le_trans hxl (by decide), rfl, _, rfl, ite2 (fun e => ?_) (fun e => ?_)⟩
      · refine ⟨_, rfl, 1, rfl, x, rfl, Nat.le_trans hxl (by decide), _, _, rfl, rfl, ?_, _, rfl, q _ _ (bb.trans b6) p6 (((Tx.lit "m" 1 (by decide +kernel) (by decide +kernel)).app (hx11.cut (some 1) none)).mono (by decide))⟩
        have := cutS_length x (some 1) none
        exact Nat.le_of_lt (small1000 (by rw [show (Str.ofString "m").length = 1 from by decide +kernel]; omega))
      · exact ⟨_, rfl, q _ _ (bb.trans b6) p6 (hx11.mono (by decide))⟩
/-! ### _law_signs -/
def allSigns : Str := Str.ofString "!\"#$&'()*+,-./0123456789:;<=>?@ABCDEFGHIJKLMNOPQRSTUVWXYZ[\\]^_`abcdefghijklmnopqrstuvwxyz{|}~"
theorem allSigns_len : 0 < allSigns.length ∧ allSigns.length ≤ 100 ∧ ∀ c ∈ tl allSigns, c < 256 := by decide +kernel
def spSigns : Sp := fun vs H Q _ => ∃ (p : Addr) (m : Int), vs = [.ref p, .int m] ∧ Pot H p ∧ 0 < m ∧ m ≤ 100 ∧ ∀ H' (y : Str), But p H H' → Pot H' p → Tx m.toNat y → Q (.str y) H'
theorem ok_signs {f fT : Addr} {fd fdT : FuncData} {k : Nat} (F : Fun K "_law_signs" "_law_signs" sSigns f fd) (T : Df K mg "_law_take" sTake ["_law_pot_here", "_law_room"] fT fdT) (mL : mg "len" = none) (mR : mg "range" = none) :
    FnOk P w K mg base CX0 (k + 2) f fd ["_law_pot_here", "_law_most"] spSigns := by
  have GT : FnOk P w K mg base CX0 (k + 1) fT fdT ["_law_pot_here", "_law_room"] spTake := ok_take T.F
  refine F.ok scSigns (fun vs H Q E h => ?_) (fun cdv A outer s H vs Q E hr h => ?_)
  · obtain ⟨p, m, rfl, _⟩ := h
    rfl
  · obtain ⟨p, m, rfl, hp, hm0, hm1, q⟩ := h
    refine ⟨_, pss_cons (ps_set (i := 2) scSigns.nd rfl (.inr rfl) pe_str) (pss_one (ps_ret (pe_join pe_str (pe_lc (own := [("_law_k", 3)]) (g := gName 3) (tt := tYes) rfl scSigns.nd
      (pi_range1 rfl mR (pa_cons (pe_op op_add pe_int (pe_call GT hr (by rfl) T.g T.F.kp T.b .nil pass0 (pa_cons (pv 0) (pa_cons (pv 1) pa_nil)))) pa_nil))
      (blkOk_by (N := ["_law_pot_here", "_law_most", "_law_signs_here", "_law_k"]) (sc := defScope sSigns) (by decide +kernel))
      (fun _ _ _ _ _ => pg_name (i := 3) scSigns.nd rfl (Or.inl rfl)) (fun _ _ _ _ _ => pts_nil)
      (fun _ _ _ _ _ => pe_ix ix_str (pv 2) (pe_call GT hr (by rfl) T.g T.F.kp T.b .nil pass0 (pa_cons (pv 0) (pa_cons (pe_callB call_len_str (by rfl) mL PySem.boot_len (pa_cons (pv 2) pa_nil)) pa_nil))) (fun _ _ => rfl)))))), ?_⟩
    obtain ⟨hz0, hz1, hz2⟩ := allSigns_len
    refine ⟨⟨_, rfl⟩, .ref p, rfl, .int m, rfl, p, m, rfl, hp, hm0, by omega, fun H1 d b1 p1 d0 d1 => ?_⟩
    refine ⟨1, d, rfl, rfl, 1 + d, rfl, by omega, by omega, fun T' nT => ?_⟩
    have npT : p ≠ T' := p1.ne nT
    refine lc_range (lo := 0) (n := (1 + d).toNat) (fun i Hc => But p H1 Hc ∧ Pot Hc p ∧ ∃ ys : List Str, Hc T' = some (.lst (ys.map V.str)) ∧ ys.length = i ∧ ∀ y ∈ ys, Tx 1 y)
      ⟨But.new nT, p1.new nT, [], upd_same, rfl, fun y hy => by cases hy⟩ (fun i Hc hi ⟨bc, pc, ys, eT, el, e1⟩ => ?_) (fun Hc ⟨bc, pc, ys, eT, el, e1⟩ => ?_)
    · refine ⟨rfl, ?_⟩
      have hzl : allSigns.length ≤ sizeLine := Nat.le_trans hz1 (by decide)
      refine ⟨.str allSigns, rfl, .ref p, rfl, .str allSigns, rfl, allSigns, rfl, hzl, p, allSigns.length, rfl, pc, by omega, by omega, fun H4 j b4 p4 j0 j1 => ?_⟩
      obtain ⟨n, rfl⟩ := Int.eq_ofNat_of_zero_le j0
      have hn : n < allSigns.cps.toList.length := by
        have e : allSigns.cps.toList.length = allSigns.length := by simp [Str.length]
        omega
      have eT4 : H4 T' = some (.lst (ys.map V.str)) := b4 T' _ npT.symm eT
      refine ⟨allSigns, n, allSigns.cps.toList[n], rfl, rfl, hzl, atI_nat (List.getElem?_eq_getElem hn), ys.map V.str, eT4, ?_, ?_, ?_, ys ++ [⟨#[allSigns.cps.toList[n]]⟩], ?_, ?_, ?_⟩
      · rw [List.length_map, el]
        exact small1000 (by omega)
      · exact fun b o nb e => by
          rw [upd_ne (ne_of_none e nT)]
          exact b4 b o nb (bc b o nb e)
      · obtain ⟨x, y, e, h1, h2⟩ := p4
        refine ⟨x, y, ?_, h1, h2⟩
        rw [upd_ne npT]
        exact e
      · rw [upd_same, List.map_append]
        rfl
      · rw [List.length_append, el]
        rfl
      · intro y hy
        rcases List.mem_append.mp hy with hy | hy
        · exact e1 y hy
        · rw [List.mem_singleton.mp hy]
          exact Tx.sign (hz2 _ (List.getElem_mem hn))
    · have e0 : (Str.ofString "").length = 0 := by decide +kernel
      have es := sum_most 1 ys e1
      refine ⟨_, T', ys, rfl, rfl, .inl (SqL.of eT), ?_, q _ _ (b1.trans bc) pc ?_⟩
      · rw [e0]
        omega
      · exact Tx.join (Tx.lit "" 0 (by decide +kernel) (by decide +kernel)) e1 (by omega)
/-! ### _law_about -/
theorem ok_about {f fT fS : Addr} {fd fdT fdS : FuncData} {k : Nat} (F : Fun K "_law_about" "_law_about" sAbout f fd) (T : Df K mg "_law_take" sTake ["_law_pot_here", "_law_room"] fT fdT) (S : Df K mg "_law_signs" sSigns ["_law_pot_here", "_law_most"] fS fdS)
    (mL : mg "len" = none) (mR : mg "range" = none) : FnOk P w K mg base CX0 (k + 3) f fd ["_law_pot_here"] (spDrawn 300) := by
  have GT : FnOk P w K mg base CX0 (k + 2) fT fdT ["_law_pot_here", "_law_room"] spTake := ok_take T.F
  have GS : FnOk P w K mg base CX0 (k + 2) fS fdS ["_law_pot_here", "_law_most"] spSigns := ok_signs S.F T mL mR
  refine F.ok scAbout (fun vs H Q E h => ?_) (fun cdv A outer s H vs Q E hr h => ?_)
  · obtain ⟨p, rfl, _⟩ := h
    rfl
  · obtain ⟨p, rfl, hp, q⟩ := h
    refine ⟨_, pss_cons (ps_set (i := 1) scAbout.nd rfl (.inl rfl) (pe_call GT hr (by rfl) T.g T.F.kp T.b .nil pass0 (pa_cons (pv 0) (pa_cons pe_int pa_nil))))
      (pss_cons (ps_if (pt_cmpR op_eq (pv 1) pe_int (nomark _)) (pss_one (ps_ret pe_str)) pss_nil)
      (pss_cons (ps_if (pt_cmpR op_eq (pv 1) pe_int (nomark _)) (pss_one (ps_ret (pe_op op_mul_str (pe_call GS hr (by rfl) S.g S.F.kp S.b .nil pass0 (pa_cons (pv 0) (pa_cons pe_int pa_nil))) pe_int))) pss_nil)
      (pss_one (ps_ret (pe_join pe_str (pe_lc (own := [("_law_k", 2)]) (g := gName 2) (tt := tYes) rfl scAbout.nd
      (pi_range1 rfl mR (pa_cons (pe_op op_add pe_int (pe_call GT hr (by rfl) T.g T.F.kp T.b .nil pass0 (pa_cons (pv 0) (pa_cons pe_int pa_nil)))) pa_nil))
      (blkOk_by (N := ["_law_pot_here", "_law_way", "_law_k"]) (sc := defScope sAbout) (by decide +kernel))
      (fun _ _ _ _ _ => pg_name (i := 2) scAbout.nd rfl (Or.inl rfl)) (fun _ _ _ _ _ => pts_nil)
      (fun _ _ _ _ _ => pe_call GS hr (by rfl) S.g S.F.kp S.b .nil pass0 (pa_cons (pv 0) (pa_cons pe_int pa_nil))))))))), ?_⟩
    refine ⟨.ref p, rfl, p, 6, rfl, hp, by decide, by decide, fun H1 d1 b1 p1 d10 d11 => ?_⟩
    refine ⟨_, rfl, rfl, _, rfl, ite2 (fun e => q _ _ b1 p1 (Tx.lit "" _ (by decide +kernel) (by decide +kernel))) (fun e => ?_)⟩
    refine ⟨_, rfl, rfl, _, rfl, ite2 (fun e => ?_) (fun e => ?_)⟩
    · refine ⟨.ref p, rfl, p, 1, rfl, p1, by decide, by decide, fun H2 y b2 p2 hy => ?_⟩
      have hy1 : y.length ≤ 1 := hy.le
      exact ⟨y, 200, rfl, rfl, by decide, by omega, fun z hz hc => q _ _ (b1.trans b2) p2 ⟨by omega, fun c h => hy.pl c (hc c h)⟩⟩
    · refine ⟨⟨_, rfl⟩, .ref p, rfl, p, 12, rfl, p1, by decide, by decide, fun H2 d2 b2 p2 d20 d21 => ?_⟩
      refine ⟨1, d2, rfl, rfl, 1 + d2, rfl, by omega, by omega, fun T' nT => ?_⟩
      have npT : p ≠ T' := p2.ne nT
      refine lc_range (lo := 0) (n := (1 + d2).toNat) (fun i Hc => But p H2 Hc ∧ Pot Hc p ∧ ∃ ys : List Str, Hc T' = some (.lst (ys.map V.str)) ∧ ys.length = i ∧ ∀ y ∈ ys, Tx 15 y)
        ⟨But.new nT, p2.new nT, [], upd_same, rfl, fun y hy => by cases hy⟩ (fun i Hc hi ⟨bc, pc, ys, eT, el, e1⟩ => ?_) (fun Hc ⟨bc, pc, ys, eT, el, e1⟩ => ?_)
      · refine ⟨rfl, ?_⟩
        refine ⟨.ref p, rfl, p, 15, rfl, pc, by decide, by decide, fun H4 y b4 p4 hy => ?_⟩
        have eT4 : H4 T' = some (.lst (ys.map V.str)) := b4 T' _ npT.symm eT
        refine ⟨ys.map V.str, eT4, ?_, ?_, ?_, ys ++ [y], ?_, ?_, ?_⟩
        · rw [List.length_map, el]
          exact small1000 (by omega)
        · exact fun b o nb e => by
            rw [upd_ne (ne_of_none e nT)]
            exact b4 b o nb (bc b o nb e)
        · obtain ⟨x, y, e, h1, h2⟩ := p4
          refine ⟨x, y, ?_, h1, h2⟩
          rw [upd_ne npT]
          exact e
        · rw [upd_same, List.map_append]
          rfl
        · rw [List.length_append, el]
          rfl
        · intro z hz
          rcases List.mem_append.mp hz with hz | hz
          · exact e1 z hz
          · rw [List.mem_singleton.mp hz]
            exact hy
      · have e0 : (Str.ofString " ").length = 1 := by decide +kernel
        have es := sum_most 15 ys e1
        refine ⟨_, T', ys, rfl, rfl, .inl (SqL.of eT), ?_, q _ _ ((b1.trans b2).trans bc) pc ?_⟩
        · rw [e0]
          omega
        · exact Tx.join (Tx.lit " " 1 (by decide +kernel) (by decide +kernel)) e1 (by omega)
/-! ### _law_text -/
theorem ok_text {f fT fS : Addr} {fd fdT fdS : FuncData} {k : Nat} (F : Fun K "_law_text" "_law_text" sText f fd) (T : Df K mg "_law_take" sTake ["_law_pot_here", "_law_room"] fT fdT) (S : Df K mg "_law_signs" sSigns ["_law_pot_here", "_law_most"] fS fdS)
    (mL : mg "len" = none) (mR : mg "range" = none) : FnOk P w K mg base CX0 (k + 3) f fd ["_law_pot_here"] (spDrawn 60) := by
  have GT : FnOk P w K mg base CX0 (k + 2) fT fdT ["_law_pot_here", "_law_room"] spTake := ok_take T.F
  have GS : FnOk P w K mg base CX0 (k + 2) fS fdS ["_law_pot_here", "_law_most"] spSigns := ok_signs S.F T mL mR
  refine F.ok scText (fun vs H Q E h => ?_) (fun cdv A outer s H vs Q E hr h => ?_)
  · obtain ⟨p, rfl, _⟩ := h
    rfl
  · obtain ⟨p, rfl, hp, q⟩ := h
    refine ⟨_, pss_cons (ps_set (i := 1) scText.nd rfl (.inl rfl) (pe_call GT hr (by rfl) T.g T.F.kp T.b .nil pass0 (pa_cons (pv 0) (pa_cons pe_int pa_nil))))
      (pss_cons (ps_if (pt_cmpR op_eq (pv 1) pe_int (nomark _)) (pss_one (ps_ret pe_str)) pss_nil)
      (pss_cons (ps_if (pt_cmpR op_eq (pv 1) pe_int (nomark _)) (pss_one (ps_ret (pe_op op_mul_str (pe_call GS hr (by rfl) S.g S.F.kp S.b .nil pass0 (pa_cons (pv 0) (pa_cons pe_int pa_nil))) pe_int))) pss_nil)
      (pss_one (ps_ret (pe_op op_add_str (pe_op op_add_str (pe_op op_mul_str pe_str (pe_call GT hr (by rfl) T.g T.F.kp T.b .nil pass0 (pa_cons (pv 0) (pa_cons pe_int pa_nil))))
        (pe_call GS hr (by rfl) S.g S.F.kp S.b .nil pass0 (pa_cons (pv 0) (pa_cons pe_int pa_nil)))) (pe_op op_mul_str pe_str (pe_call GT hr (by rfl) T.g T.F.kp T.b .nil pass0 (pa_cons (pv 0) (pa_cons pe_int pa_nil))))))))), ?_⟩
    have e1 : (Str.ofString " ").length = 1 := by decide +kernel
    refine ⟨.ref p, rfl, p, 5, rfl, hp, by decide, by decide, fun H1 d1 b1 p1 d10 d11 => ?_⟩
    refine ⟨_, rfl, rfl, _, rfl, ite2 (fun e => q _ _ b1 p1 (Tx.lit "" _ (by decide +kernel) (by decide +kernel))) (fun e => ?_)⟩
    refine ⟨_, rfl, rfl, _, rfl, ite2 (fun e => ?_) (fun e => ?_)⟩
    · refine ⟨.ref p, rfl, p, 1, rfl, p1, by decide, by decide, fun H2 y b2 p2 hy => ?_⟩
      have hy1 : y.length ≤ 1 := hy.le
      exact ⟨y, 60, rfl, rfl, by decide, by omega, fun z hz hc => q _ _ (b1.trans b2) p2 ⟨by omega, fun c h => hy.pl c (hc c h)⟩⟩
    · refine ⟨.ref p, rfl, p, 2, rfl, p1, by decide, by decide, fun H2 d2 b2 p2 d20 d21 => ?_⟩
      obtain ⟨n2, rfl⟩ := Int.eq_ofNat_of_zero_le d20
      refine ⟨_, n2, rfl, rfl, by omega, by rw [e1]; decide, fun z2 hz2 hc2 => ?_⟩
      refine ⟨.ref p, rfl, p, 40, rfl, p2, by decide, by decide, fun H3 y b3 p3 hy => ?_⟩
      rw [e1] at hz2
      have bl : ∀ c ∈ tl (Str.ofString " "), c < 256 := by decide +kernel
      have t2 : Tx 1 z2 := ⟨by omega, fun c h => bl c (hc2 c h)⟩
      have hy1 : y.length ≤ 40 := hy.le
      refine ⟨z2, y, rfl, rfl, Nat.le_of_lt (small1000 (by omega)), ?_⟩
      refine ⟨.ref p, rfl, p, 2, rfl, p3, by decide, by decide, fun H4 d4 b4 p4 d40 d41 => ?_⟩
      obtain ⟨n4, rfl⟩ := Int.eq_ofNat_of_zero_le d40
      refine ⟨_, n4, rfl, rfl, by omega, by rw [e1]; decide, fun z4 hz4 hc4 => ?_⟩
      rw [e1] at hz4
      have t4 : Tx 1 z4 := ⟨by omega, fun c h => bl c (hc4 c h)⟩
      refine ⟨z2 ++ y, z4, rfl, rfl, ?_, q _ _ (((b1.trans b2).trans b3).trans b4) p4 (((t2.app hy).app t4).mono (by decide))⟩
      rw [Str.length_append]
      exact Nat.le_of_lt (small1000 (by omega))
end
end WB

set_option Elab.async false
set_option linter.all false
set_option maxRecDepth 100000
set_option maxHeartbeats 4000000
namespace WB
open PySem PySem.Spec PyProof.Rows L2 WG
open TL (tl)
/-! ### things that may be handed in -/
def isS : V → Bool
  | .str _ => true
  | _ => false
inductive Odd : HO → Prop
  | l0 : Odd (.lst [])
  | l1 {z : Str} (h : Tx 20 z) : Odd (.lst [.str z])
  | t0 : Odd (.tup [])
  | t1 {z : Str} (h : Tx 20 z) : Odd (.tup [.str z])
  | d0 : Odd (.dK [])
  | d1 {x : Str} {i : Int} (h : Tx 20 x) (h0 : 0 ≤ i) (h1 : i ≤ 1000) : Odd (.dK [(Sum.inr x, .int i)])
inductive Thg (H : Hp) : V → Prop
  | non : Thg H .non
  | bl (b : Bool) : Thg H (.bl b)
  | int {i : Int} (h0 : 0 ≤ i) (h1 : i ≤ 1000) : Thg H (.int i)
  | str {z : Str} (h : Tx 300 z) : Thg H (.str z)
  | odd {a : Addr} {o : HO} (e : H a = some o) (h : Odd o) : Thg H (.ref a)
theorem Thg.same {H H' : Hp} {v : V} (h : Thg H v) (s : Same H H') : Thg H' v := by
  cases h with
  | non => exact .non
  | bl b => exact .bl b
  | int h0 h1 => exact .int h0 h1
  | str h => exact .str h
  | odd e h => exact .odd (s _ _ e) h
theorem Odd.ne {xs : List V} (h : Odd (.lst xs)) : xs.length ≤ 1 := by
  cases h with
  | l0 => exact Nat.zero_le _
  | l1 _ => exact Nat.le_refl _
/-- isinstance(v, str) -/
theorem Thg.isi {K : PySem.W.Frag} {H : Hp} {v : V} (h : Thg H v) : ∃ t : Value, TyX K H v t ∧ PySem.W.kitOne K t (.type "str") = some (isS v) := by
  cases h with
  | non => exact ⟨_, .base .non, kit_ty (show kitB "NoneType" "str" = some false from by decide +kernel)⟩
  | bl b => exact ⟨_, .base (.bl b), kit_ty (show kitB "bool" "str" = some false from by decide +kernel)⟩
  | int _ _ => exact ⟨_, .base (.int _), kit_ty (show kitB "int" "str" = some false from by decide +kernel)⟩
  | str _ => exact ⟨_, .base (.str _), kit_ty (show kitB "str" "str" = some true from by decide +kernel)⟩
  | odd e h =>
    cases h with
    | l0 => exact ⟨_, .base (.lst e), kit_ty (show kitB "list" "str" = some false from by decide +kernel)⟩
    | l1 _ => exact ⟨_, .base (.lst e), kit_ty (show kitB "list" "str" = some false from by decide +kernel)⟩
    | t0 => exact ⟨_, .base (.tup e), kit_ty (show kitB "tuple" "str" = some false from by decide +kernel)⟩
    | t1 _ => exact ⟨_, .base (.tup e), kit_ty (show kitB "tuple" "str" = some false from by decide +kernel)⟩
    | d0 => exact ⟨_, .base (.dK e), kit_ty (show kitB "dict" "str" = some false from by decide +kernel)⟩
    | d1 _ _ _ => exact ⟨_, .base (.dK e), kit_ty (show kitB "dict" "str" = some false from by decide +kernel)⟩
theorem Thg.tx {H : Hp} {z : Str} (h : Thg H (.str z)) : Tx 300 z := by
  cases h with
  | str h => exact h
/-- its data -/
theorem repr_tx {n : Nat} {z : Str} (h : Tx n z) : (reprText z).length ≤ 10 * n + 2 := by
  have e := StrLaws.reprText_len z (fun c hc => Nat.lt_trans (h.pl c hc) (by decide))
  have := h.le
  omega
/-! ### the mathematics of names and abouts -/
def nameSet : Str := Str.ofString "abcdefghijklmnopqrstuvwxyz0123456789-"
def nm (cs : List Nat) : Bool := decide (cs ≠ []) && decide (cs.length ≤ 10) && !decide (cs.take 1 = [45]) && !decide (cs.getLast? = some 45) && !decide (cs.take 3 = [110, 111, 45]) && cs.all fun c => decide (c ∈ tl nameSet)
def isNm : V → Bool
  | .str z => nm (tl z)
  | _ => false
def ab (z : Str) : Bool := decide (z.length ≤ 200) && (decide (z = Str.ofString "") || !inV (.str (Str.ofString "")) ((Txt.split z (Str.ofString " ")).map V.str))
def isAb : V → Bool
  | .str z => ab z
  | _ => false
theorem starts (x y : Str) : Txt.startswith x y = ((tl x).take (tl y).length == tl y) := by
  unfold Txt.startswith
  rw [StrLaws.subAt_eq, List.drop_zero, TL.len_tl y]
  by_cases h : (tl y).length ≤ (tl x).length
  · have e : decide (0 + (tl y).length ≤ x.length) = true := decide_eq_true (by rw [TL.len_tl x]; omega)
    rw [e, Bool.true_and]
  · have e : decide (0 + (tl y).length ≤ x.length) = false := decide_eq_false (by rw [TL.len_tl x]; omega)
    rw [e, Bool.false_and]
    cases q : ((tl x).take (tl y).length == tl y) with
    | false => rfl
    | true =>
      have z := congrArg List.length (eq_of_beq q)
      rw [List.length_take] at z
      omega
theorem starts_lit (x : Str) (s : String) {l : List Nat} (hl : tl (Str.ofString s) = l) : Txt.startswith x (Str.ofString s) = decide ((tl x).take l.length = l) := by
  rw [starts, hl]
  cases q : ((tl x).take l.length == l) with
  | true => exact (decide_eq_true (eq_of_beq q)).symm
  | false => exact (decide_eq_false (fun e => by rw [e] at q; simp at q)).symm
theorem drop_last {l : List Nat} (h : l ≠ []) : l.drop (l.length - 1) = [l.getLast h] := by
  have e := List.dropLast_concat_getLast h
  have hl : l.length - 1 = l.dropLast.length := by rw [List.length_dropLast]
  rw [hl]
  conv => lhs; rw [← e]
  rw [List.dropLast_concat, List.drop_left]
theorem ends_dash (x : Str) : Txt.endswith x (Str.ofString "-") = decide ((tl x).getLast? = some 45) := by
  unfold Txt.endswith
  have e1 : (Str.ofString "-").length = 1 := by decide +kernel
  have e2 : (Str.ofString "-").cps.toList = [45] := by decide +kernel
  rw [StrLaws.subAt_eq, e1, e2, TL.len_tl x]
  cases hx : tl x with
  | nil => rfl
  | cons c r =>
    have hx' : x.cps.toList = c :: r := hx
    rw [hx']
    have e3 : decide (0 + 1 ≤ (c :: r).length) = true := decide_eq_true (by rw [List.length_cons]; omega)
    rw [e3, Bool.true_and]
    have e4 : ((c :: r).drop ((c :: r).length - 1)).take 1 = [(c :: r).getLast (List.cons_ne_nil c r)] := by
      rw [drop_last (List.cons_ne_nil c r)]
      rfl
    rw [e4, List.getLast?_eq_getLast (List.cons_ne_nil c r)]
    cases q : ([(c :: r).getLast (List.cons_ne_nil c r)] == [45]) with
    | true =>
      have := eq_of_beq q
      injection this with a b
      rw [a]
      rfl
    | false =>
      refine (decide_eq_false fun e => ?_).symm
      rw [Option.some.inj e] at q
      cases q
theorem eq_lit (x : Str) (s : String) : (V.str x = V.str (Str.ofString s)) ↔ tl x = tl (Str.ofString s) := by
  constructor
  · intro h
    rw [V.str.inj h]
  · intro h
    rw [TL.ext_tl h]
theorem dec_lit (x : Str) (s : String) {l : List Nat} (hl : tl (Str.ofString s) = l) : decide (V.str x = V.str (Str.ofString s)) = decide (tl x = l) := by
  rw [← hl]
  exact decide_eq_decide.mpr (eq_lit x s)
theorem cut3 (z : Str) : tl (cutS z none (some 3)) = (tl z).take 3 := by
  show ((z.cps.toList.drop (HT.sIx z.length 0 none)).take (HT.sIx z.length z.length (some 3) - HT.sIx z.length 0 none)) = _
  rw [HT.sIx_none, show HT.sIx z.length z.length (some 3) = min 3 z.length from HT.sIx_nat z.length z.length 3, List.drop_zero, Nat.sub_zero]
  rw [TL.len_tl z]
  rw [← List.take_take, List.take_length]
end WB

set_option Elab.async false
set_option linter.all false
set_option maxRecDepth 100000
set_option maxHeartbeats 4000000
namespace WB
open PySem PySem.Spec PyProof.Rows L2 WG
open TL (tl)
abbrev st_is_text_within : Stmt := topS 7
theorem sc_is_text_within : FnScope ["value", "most"] ["value", "most"] (defScope st_is_text_within) := ⟨rfl, rfl, rfl, by decide +kernel, rfl, by decide +kernel, by decide +kernel⟩
abbrev st_is_name : Stmt := topS 8
theorem sc_is_name : FnScope ["value", "sign"] ["value"] (defScope st_is_name) := ⟨rfl, rfl, rfl, by decide +kernel, rfl, by decide +kernel, by decide +kernel⟩
abbrev st_is_about : Stmt := topS 10
theorem sc_is_about : FnScope ["value"] ["value"] (defScope st_is_about) := ⟨rfl, rfl, rfl, by decide +kernel, rfl, by decide +kernel, by decide +kernel⟩
abbrev st_is_among : Stmt := topS 11
theorem sc_is_among : FnScope ["value", "texts"] ["value", "texts"] (defScope st_is_among) := ⟨rfl, rfl, rfl, by decide +kernel, rfl, by decide +kernel, by decide +kernel⟩
abbrev st_is_default : Stmt := topS 12
theorem sc_is_default : FnScope ["value", "allowed"] ["value", "allowed"] (defScope st_is_default) := ⟨rfl, rfl, rfl, by decide +kernel, rfl, by decide +kernel, by decide +kernel⟩
abbrev st_is_short_or_empty : Stmt := topS 9
theorem sc_is_short_or_empty : FnScope ["value"] ["value"] (defScope st_is_short_or_empty) := ⟨rfl, rfl, rfl, by decide +kernel, rfl, by decide +kernel, by decide +kernel⟩
abbrev st_is_truth : Stmt := topS 13
theorem sc_is_truth : FnScope ["value", "allowed"] ["value", "allowed"] (defScope st_is_truth) := ⟨rfl, rfl, rfl, by decide +kernel, rfl, by decide +kernel, by decide +kernel⟩
section
variable {P : Program} {w : World} {K : PySem.W.Frag} {mg : Str → Option Value} {base : Heap}
/-! ### is_text_within -/
def within (v : V) (m : Int) : Bool := match v with
  | .str z => decide ((z.length : Int) ≤ m)
  | _ => false
def spWithin : Sp := fun vs H Q _ => ∃ (v : V) (m : Int), vs = [v, .int m] ∧ Thg H v ∧ Q (.bl (within v m)) H
theorem ok_within {f : Addr} {fd : FuncData} {k : Nat} (F : Fun K "is_text_within" "is_text_within" st_is_text_within f fd) (m_len : mg "len" = none) (m_str : mg "str" = none) (m_isinstance : mg "isinstance" = none) :
    FnOk P w K mg base CX0 (k + 1) f fd ["value", "most"] spWithin := by
  refine F.ok sc_is_text_within (fun vs H Q E h => ?_) (fun cdv A outer s H vs Q E hr h => ?_)
  · obtain ⟨v, m, rfl, _⟩ := h
    rfl
  · obtain ⟨v, m, rfl, hv, q⟩ := h
    refine ⟨_, pss_one (ps_ret (pe_and (pe_callB call_isi (by rfl) m_isinstance (by decide +kernel) (pa_cons (pv 0) (pa_cons (pe_bltn (v := .ty "str") (by rfl) m_str (by decide +kernel) rfl) pa_nil))) (pe_one (pe_cmpR op_le (pe_callB call_len_str (by rfl) m_len PySem.boot_len (pa_cons (pv 0) pa_nil)) (pv 1) (nomark _))))), ?_⟩
    obtain ⟨t, ht, hk⟩ := hv.isi (K := K)
    refine ⟨v, rfl, v, _, t, _, isS v, rfl, ClsV.ty "str", ht, hk, _, rfl, ?_⟩
    cases v with
    | str z =>
      exact ⟨_, rfl, z, rfl, Nat.le_trans hv.tx.le (by decide), _, rfl, _, _, rfl, rfl, q⟩
    | _ => exact q
/-! ### is_name -/
def spOf (g : V → Bool) : Sp := fun vs H Q _ => ∃ v : V, vs = [v] ∧ Thg H v ∧ ∀ H', Same H H' → Q (.bl (g v)) H'
theorem ok_isName {f fW : Addr} {fd fdW : FuncData} {k : Nat} {u1 u2 : Tok} (F : Fun K "is_name" "is_name" st_is_name f fd) (D_is_text_within : Df K mg "is_text_within" st_is_text_within ["value", "most"] fW fdW)
    (m_len : mg "len" = none) (m_str : mg "str" = none) (m_isinstance : mg "isinstance" = none) (m_all : mg "all" = none) (c_MOST_NAME_SIGNS : mg "MOST_NAME_SIGNS" = some (.int 10 u1)) (c_NAME_SIGNS : mg "NAME_SIGNS" = some (.str nameSet u2)) :
    FnOk P w K mg base CX0 (k + 2) f fd ["value"] (spOf isNm) := by
  have G_is_text_within : FnOk P w K mg base CX0 (k + 1) fW fdW ["value", "most"] spWithin := ok_within D_is_text_within.F m_len m_str m_isinstance
  refine F.ok sc_is_name (fun vs H Q E h => ?_) (fun cdv A outer s H vs Q E hr h => ?_)
  · obtain ⟨v, rfl, _⟩ := h
    rfl
  · obtain ⟨v, rfl, hv, q⟩ := h
    refine ⟨_, pss_cons (ps_if (PW.pt (pw_or (pt_not (pt_val (pe_call G_is_text_within hr (by rfl) D_is_text_within.g D_is_text_within.F.kp D_is_text_within.b .nil pass0 (pa_cons (pv 0) (pa_cons (pe_glob (v := .int 10) rfl c_MOST_NAME_SIGNS ⟨_, rfl⟩) pa_nil))))) (pw_or1 (pt_cmpR op_eq (pv 0) pe_str (nomark _))))) (pss_one (ps_ret pe_bl)) pss_nil)
      (pss_cons (ps_if (PW.pt (pw_or (pt_val (pe_m1 PySem.F.slot_str_startswith PySem.F.type_str_startswith mt_startswith (pv 0) pe_str)) (pw_or (pt_val (pe_m1 PySem.F.slot_str_endswith PySem.F.type_str_endswith mt_endswith (pv 0) pe_str)) (pw_or1 (pt_val (pe_m1 PySem.F.slot_str_startswith PySem.F.type_str_startswith mt_startswith (pv 0) pe_str)))))) (pss_one (ps_ret pe_bl)) pss_nil)
      (pss_one (ps_ret (pe_callB (cr_all rfl) (by rfl) m_all (by decide +kernel) (pa_cons (pe_lc (own := [("sign", 1)]) (g := gName 1) (tt := tYes) rfl sc_is_name.nd (pi_str (pv 0)) (blkOk_by (N := ["value", "sign"]) (sc := defScope st_is_name) (by decide +kernel)) (fun _ _ _ _ _ => (pg_name (i := 1) sc_is_name.nd rfl (Or.inl rfl))) (fun _ _ _ _ _ => pts_nil) (fun _ _ _ _ _ => (pe_cmpR op_in_sign (pv 1) (pe_glob (v := .str nameSet) rfl c_NAME_SIGNS ⟨_, rfl⟩) (by rfl)))) pa_nil))))), ?_⟩
    refine ⟨v, rfl, v, 10, rfl, hv, _, rfl, ite2 (fun e => ?_) (fun e => ?_)⟩
    · cases v with
      | str z =>
        have e1 : ¬ ((z.length : Int) ≤ 10) := fun c => by
          have : within (.str z) 10 = true := decide_eq_true c
          rw [this] at e
          cases e
        have e2 : isNm (.str z) = false := by
          show nm (tl z) = false
          unfold nm
          rw [decide_eq_false (p := (tl z).length ≤ 10) (by rw [← TL.len_tl]; omega)]
          simp
        rw [e2] at q
        exact q _ (Same.refl _)
      | _ => exact q _ (Same.refl _)
    · cases v with
      | str z =>
        have e1 : (z.length : Int) ≤ 10 := by
          have : within (.str z) 10 = true := by
            cases c : within (.str z) 10 with
            | true => rfl
            | false => rw [c] at e; exact absurd rfl e
          exact of_decide_eq_true this
        refine ⟨.str z, rfl, rfl, _, rfl, ite2 (fun e => ?_) (fun e => ?_)⟩
        · have e2 : tl z = [] := (eq_lit z "").mp (of_decide_eq_true e)
          have e3 : isNm (.str z) = false := by
            show nm (tl z) = false
            rw [e2]
            rfl
          rw [e3] at q
          exact q _ (Same.refl _)
        · have e2 : tl z ≠ [] := fun c => e (decide_eq_true ((eq_lit z "").mpr c))
          have hlen : (tl z).length ≤ 10 := by rw [← TL.len_tl]; omega
          have neg : ∀ b : Bool, b = true → (b = true → nm (tl z) = false) → nm (tl z) = false := fun b h k => k h
          refine ⟨.str z, rfl, ⟨_, rfl⟩, _, _, rfl, rfl, _, rfl, ite2 (fun e => ?_) (fun e => ?_)⟩
          · rw [starts_lit z "-" (l := [45]) (by decide +kernel)] at e
            have e3 : isNm (.str z) = false := by
              show nm (tl z) = false
              unfold nm
              rw [show decide ((tl z).take 1 = [45]) = true from e]
              simp
            rw [e3] at q
            exact q _ (Same.refl _)
          · rw [starts_lit z "-" (l := [45]) (by decide +kernel)] at e
            have n1 : decide ((tl z).take 1 = [45]) = false := Bool.eq_false_iff.mpr e
            refine ⟨.str z, rfl, ⟨_, rfl⟩, _, _, rfl, rfl, _, rfl, ite2 (fun e => ?_) (fun e => ?_)⟩
            · rw [ends_dash z] at e
              have e3 : isNm (.str z) = false := by
                show nm (tl z) = false
                unfold nm
                rw [e]
                simp
              rw [e3] at q
              exact q _ (Same.refl _)
            · rw [ends_dash z] at e
              have n2 : decide ((tl z).getLast? = some 45) = false := Bool.eq_false_iff.mpr e
              refine ⟨.str z, rfl, ⟨_, rfl⟩, _, _, rfl, rfl, _, rfl, ite2 (fun e => ?_) (fun e => ?_)⟩
              · rw [starts_lit z "no-" (l := [110, 111, 45]) (by decide +kernel)] at e
                have e3 : isNm (.str z) = false := by
                  show nm (tl z) = false
                  unfold nm
                  rw [show decide ((tl z).take 3 = [110, 111, 45]) = true from e]
                  simp
                rw [e3] at q
                exact q _ (Same.refl _)
              · rw [starts_lit z "no-" (l := [110, 111, 45]) (by decide +kernel)] at e
                have n3 : decide ((tl z).take 3 = [110, 111, 45]) = false := Bool.eq_false_iff.mpr e
                have e3 : isNm (.str z) = (tl z).all fun c => decide (c ∈ tl nameSet) := by
                  show nm (tl z) = _
                  unfold nm
                  rw [n1, n2, n3, decide_eq_true e2, decide_eq_true hlen]
                  simp
                refine ⟨.str z, rfl, z, rfl, fun D nD => ?_⟩
                refine lc_it walk_str (fun i Hc => Same H Hc ∧ Hc D = some (.lst ((((tl z).take i).map fun c => decide (c ∈ tl nameSet)).map V.bl))) ⟨same_upd nD, upd_same⟩ (fun _ _ _ _ => True.intro) (fun i x Hc H' hi ⟨sc, eD⟩ ⟨eH, c, ec, ex⟩ => ?_) (fun Hc ⟨sc, eD⟩ => ?_)
                · subst eH ex
                  have ec' : (tl z)[i]? = some c := by
                    rw [Array.getElem?_toList]
                    exact ec
                  refine ⟨rfl, ?_⟩
                  refine ⟨_, rfl, c, nameSet, rfl, rfl, _, eD, ?_, ?_, ?_⟩
                  · rw [List.length_map, List.length_map, List.length_take]
                    exact small1000 (by omega)
                  · intro b o e
                    rw [upd_ne (ne_of_none e nD)]
                    exact sc b o e
                  · rw [upd_same, List.take_add_one, ec', List.map_append, List.map_append]
                    rfl
                · refine ⟨D, _, rfl, SqL.of eD, ?_⟩
                  have el : z.cps.size = (tl z).length := by simp
                  rw [el, List.take_length, List.all_map]
                  rw [e3] at q
                  exact q _ sc
      | _ => exact absurd rfl e
/-! ### is_about -/
theorem strs_flat (ys : List Str) : (ys.map V.str).all flatV = true := by
  rw [List.all_map]
  exact List.all_eq_true.mpr fun _ _ => rfl
theorem ok_isAbout {f fW : Addr} {fd fdW : FuncData} {k : Nat} {u1 : Tok} (F : Fun K "is_about" "is_about" st_is_about f fd) (D_is_text_within : Df K mg "is_text_within" st_is_text_within ["value", "most"] fW fdW)
    (m_len : mg "len" = none) (m_str : mg "str" = none) (m_isinstance : mg "isinstance" = none) (c_MOST_ABOUT_SIGNS : mg "MOST_ABOUT_SIGNS" = some (.int 200 u1)) :
    FnOk P w K mg base CX0 (k + 2) f fd ["value"] (spOf isAb) := by
  have G_is_text_within : FnOk P w K mg base CX0 (k + 1) fW fdW ["value", "most"] spWithin := ok_within D_is_text_within.F m_len m_str m_isinstance
  refine F.ok sc_is_about (fun vs H Q E h => ?_) (fun cdv A outer s H vs Q E hr h => ?_)
  · obtain ⟨v, rfl, _⟩ := h
    rfl
  · obtain ⟨v, rfl, hv, q⟩ := h
    refine ⟨_, pss_cons (ps_if (pt_not (pt_val (pe_call G_is_text_within hr (by rfl) D_is_text_within.g D_is_text_within.F.kp D_is_text_within.b .nil pass0 (pa_cons (pv 0) (pa_cons (pe_glob (v := .int 200) rfl c_MOST_ABOUT_SIGNS ⟨_, rfl⟩) pa_nil))))) (pss_one (ps_ret pe_bl)) pss_nil)
      (pss_one (ps_ret (pe_or (pe_cmpR op_eq (pv 0) pe_str (nomark _)) (pe_one (pe_cmpR op_notIn_seq pe_str (pe_split (pv 0) pe_str) (by rfl)))))), ?_⟩
    refine ⟨v, rfl, v, 200, rfl, hv, _, rfl, ite2 (fun e => ?_) (fun e => ?_)⟩
    · cases v with
      | str z =>
        have e1 : ¬ ((z.length : Int) ≤ 200) := fun c => by
          have : within (.str z) 200 = true := decide_eq_true c
          rw [this] at e
          cases e
        have e2 : isAb (.str z) = false := by
          show ab z = false
          unfold ab
          rw [decide_eq_false (p := z.length ≤ 200) (by omega)]
          rfl
        rw [e2] at q
        exact q _ (Same.refl _)
      | _ => exact q _ (Same.refl _)
    · cases v with
      | str z =>
        have e1 : (z.length : Int) ≤ 200 := by
          have : within (.str z) 200 = true := by
            cases c : within (.str z) 200 with
            | true => rfl
            | false => rw [c] at e; exact absurd rfl e
          exact of_decide_eq_true this
        have e2 : isAb (.str z) = (decide (z = Str.ofString "") || !inV (.str (Str.ofString "")) ((Txt.split z (Str.ofString " ")).map V.str)) := by
          show ab z = _
          unfold ab
          rw [decide_eq_true (p := z.length ≤ 200) (by omega), Bool.true_and]
        have e3 : decide (V.str z = V.str (Str.ofString "")) = decide (z = Str.ofString "") := decide_eq_decide.mpr ⟨fun h => V.str.inj h, fun h => by rw [h]⟩
        refine ⟨.str z, rfl, rfl, _, rfl, ite2 (fun e => ?_) (fun e => ?_)⟩
        · rw [e2, ← e3, e] at q
          exact q _ (Same.refl _)
        · have e4 : decide (V.str z = V.str (Str.ofString "")) = false := Bool.eq_false_iff.mpr e
          rw [e2, ← e3, e4, Bool.false_or] at q
          refine ⟨.str z, rfl, ⟨_, rfl⟩, _, _, rfl, rfl, by decide +kernel, ?_, fun p np => ?_⟩
          · have : sizeLine = 16777216 := sizeLine_eq
            omega
          · exact ⟨p, _, rfl, .inl (SqL.of upd_same), rfl, strs_flat _, q _ (same_upd np)⟩
      | _ => exact absurd rfl e
/-! ### is_among -/
def among (v : V) (ys : List Str) : Bool := match v with
  | .str z => inV (.str z) (ys.map V.str)
  | _ => false
def spAmong (K : PySem.W.Frag) : Sp := fun vs H Q _ => ∃ (v : V) (a : Addr) (ys : List Str), vs = [v, .ref a] ∧ Thg H v ∧ SqT K H a (ys.map V.str) ∧ Q (.bl (among v ys)) H
theorem ok_isAmong {f : Addr} {fd : FuncData} {k : Nat} (F : Fun K "is_among" "is_among" st_is_among f fd) (m_str : mg "str" = none) (m_isinstance : mg "isinstance" = none) :
    FnOk P w K mg base CX0 (k + 1) f fd ["value", "texts"] (spAmong K) := by
  refine F.ok sc_is_among (fun vs H Q E h => ?_) (fun cdv A outer s H vs Q E hr h => ?_)
  · obtain ⟨v, a, ys, rfl, _⟩ := h
    rfl
  · obtain ⟨v, a, ys, rfl, hv, hS, q⟩ := h
    refine ⟨_, pss_one (ps_ret (pe_and (pe_callB call_isi (by rfl) m_isinstance (by decide +kernel) (pa_cons (pv 0) (pa_cons (pe_bltn (v := .ty "str") (by rfl) m_str (by decide +kernel) rfl) pa_nil))) (pe_one (pe_cmpR op_in_seq (pv 0) (pv 1) (by rfl))))), ?_⟩
    obtain ⟨t, ht, hk⟩ := hv.isi (K := K)
    refine ⟨v, rfl, v, _, t, _, isS v, rfl, ClsV.ty "str", ht, hk, _, rfl, ?_⟩
    cases v with
    | str z => exact ⟨_, rfl, _, rfl, a, _, rfl, .inr hS, rfl, strs_flat _, q⟩
    | _ => exact q
/-! ### is_default -/
def dflt (v : V) (allowed : Bool) : Bool := decide (v = .non) || (allowed && within v 60)
def spDefault : Sp := fun vs H Q _ => ∃ (v : V) (b : Bool), vs = [v, .bl b] ∧ Thg H v ∧ Q (.bl (dflt v b)) H
theorem ok_isDefault {f fW : Addr} {fd fdW : FuncData} {k : Nat} {u1 : Tok} (F : Fun K "is_default" "is_default" st_is_default f fd) (D_is_text_within : Df K mg "is_text_within" st_is_text_within ["value", "most"] fW fdW)
    (m_len : mg "len" = none) (m_str : mg "str" = none) (m_isinstance : mg "isinstance" = none) (c_MOST_DEFAULT_SIGNS : mg "MOST_DEFAULT_SIGNS" = some (.int 60 u1)) :
    FnOk P w K mg base CX0 (k + 2) f fd ["value", "allowed"] spDefault := by
  have G_is_text_within : FnOk P w K mg base CX0 (k + 1) fW fdW ["value", "most"] spWithin := ok_within D_is_text_within.F m_len m_str m_isinstance
  refine F.ok sc_is_default (fun vs H Q E h => ?_) (fun cdv A outer s H vs Q E hr h => ?_)
  · obtain ⟨v, b, rfl, _⟩ := h
    rfl
  · obtain ⟨v, b, rfl, hv, q⟩ := h
    refine ⟨_, pss_cons (ps_if (pt_cmpR op_isN (pv 0) pe_non (nomark _)) (pss_one (ps_ret pe_bl)) pss_nil)
      (pss_one (ps_ret (pe_and (pv 1) (pe_one (pe_call G_is_text_within hr (by rfl) D_is_text_within.g D_is_text_within.F.kp D_is_text_within.b .nil pass0 (pa_cons (pv 0) (pa_cons (pe_glob (v := .int 60) rfl c_MOST_DEFAULT_SIGNS ⟨_, rfl⟩) pa_nil))))))), ?_⟩
    refine ⟨v, rfl, rfl, _, rfl, ite2 (fun e => ?_) (fun e => ?_)⟩
    · unfold dflt at q
      rw [e] at q
      exact q
    · unfold dflt at q
      rw [Bool.eq_false_iff.mpr e, Bool.false_or] at q
      refine ⟨.bl b, rfl, b, rfl, ?_⟩
      cases b with
      | true => exact ⟨v, rfl, v, 60, rfl, hv, q⟩
      | false => exact q
theorem dp_strs {K : PySem.W.Frag} {H : Hp} : ∀ ys : List Str, DpAll K H (ys.map V.str) (ys.map PyData.str)
  | [] => .nil
  | y :: r => .cons (.str y) (dp_strs r)
theorem strOk_of {z : Str} (h : ∀ c ∈ tl z, c < 256) : PyData.strOk z = true := by
  unfold PyData.strOk
  rw [← Array.all_toList]
  exact List.all_eq_true.mpr fun c hc => decide_eq_true (Nat.lt_trans (h c hc) (by decide))
theorem lay_strs : ∀ ys : List Str, (∀ y ∈ ys, PyData.strOk y = true) → PyData.canLayAll0 (ys.map PyData.str) = true ∧ PyData.depthAll (ys.map PyData.str) = 0
  | [], _ => ⟨by simp [PyData.canLayAll0], by simp [PyData.depthAll]⟩
  | y :: r, h => by
    obtain ⟨h1, h2⟩ := lay_strs r fun z hz => h z (List.mem_cons_of_mem _ hz)
    rw [List.map_cons]
    exact ⟨by simp [PyData.canLayAll0, PyData.canLay0, h1, h y List.mem_cons_self], by simp [PyData.depthAll, PyData.depth, h2]⟩
theorem shaped_strs (ys : List Str) (h : ∀ y ∈ ys, PyData.strOk y = true) : SeqAt.shaped (.list (ys.map PyData.str)) = true := by
  obtain ⟨h1, h2⟩ := lay_strs ys h
  unfold SeqAt.shaped
  simp [PyData.canLay0, PyData.depth, h1, h2]
theorem eqv_nil (ds : List PyData) : PyData.eqv (.list ds) (.list []) = ds.isEmpty := by
  cases ds with
  | nil => simp [PyData.eqv, PyData.eqvAll]
  | cons d r => simp [PyData.eqv, PyData.eqvAll]
theorem filter_all (p : Nat → Bool) : ∀ l : List Nat, (l.filter fun c => !p c).isEmpty = l.all p
  | [] => rfl
  | c :: r => by
    cases h : p c with
    | true =>
      rw [List.filter_cons_of_neg (by rw [h]; decide), filter_all p r, List.all_cons, h, Bool.true_and]
    | false =>
      rw [List.filter_cons_of_pos (by rw [h]; rfl), List.all_cons, h]
      rfl
/-! ### the law's own looks -/
/-! ### shorts -/
def letters : Str := Str.ofString "abcdefghijklmnopqrstuvwxyzABCDEFGHIJKLMNOPQRSTUVWXYZ"
def inLet (z : Str) : Bool := !(Builtin.Str.occurrences letters z 0 letters.length 1).isEmpty
def isSh : V → Bool
  | .str z => decide ((z.length : Int) ≤ 1) && inLet z
  | _ => false
theorem ok_isShort {f fW : Addr} {fd fdW : FuncData} {k : Nat} {u1 : Tok} (F : Fun K "is_short_or_empty" "is_short_or_empty" st_is_short_or_empty f fd) (D_is_text_within : Df K mg "is_text_within" st_is_text_within ["value", "most"] fW fdW)
    (m_len : mg "len" = none) (m_str : mg "str" = none) (m_isinstance : mg "isinstance" = none) (c_LETTERS : mg "LETTERS" = some (.str letters u1)) :
    FnOk P w K mg base CX0 (k + 2) f fd ["value"] (spOf isSh) := by
  have G_is_text_within : FnOk P w K mg base CX0 (k + 1) fW fdW ["value", "most"] spWithin := ok_within D_is_text_within.F m_len m_str m_isinstance
  refine F.ok sc_is_short_or_empty (fun vs H Q E h => ?_) (fun cdv A outer s H vs Q E hr h => ?_)
  · obtain ⟨v, rfl, _⟩ := h
    rfl
  · obtain ⟨v, rfl, hv, q⟩ := h
    refine ⟨_, pss_one (ps_ret (pe_and (pe_call G_is_text_within hr (by rfl) D_is_text_within.g D_is_text_within.F.kp D_is_text_within.b .nil pass0 (pa_cons (pv 0) (pa_cons pe_int pa_nil))) (pe_one (pe_cmpR op_in_str (pv 0) (pe_glob (v := .str letters) rfl c_LETTERS ⟨_, rfl⟩) (by rfl))))), ?_⟩
    refine ⟨v, rfl, v, 1, rfl, hv, _, rfl, ?_⟩
    have q' := q H (Same.refl H)
    cases v with
    | str z =>
      cases e : decide ((z.length : Int) ≤ 1) with
      | true =>
        have e2 : within (.str z) 1 = true := e
        rw [e2]
        have e3 : isSh (.str z) = inLet z := by show (decide ((z.length : Int) ≤ 1) && inLet z) = inLet z; rw [e, Bool.true_and]
        rw [e3] at q'
        exact ⟨_, rfl, _, _, rfl, rfl, q'⟩
      | false =>
        have e2 : within (.str z) 1 = false := e
        rw [e2]
        have e3 : isSh (.str z) = false := by show (decide ((z.length : Int) ≤ 1) && inLet z) = false; rw [e, Bool.false_and]
        rw [e3] at q'
        exact q'
    | _ => exact q'
/-! ### truths -/
def isB : V → Bool
  | .bl _ => true
  | _ => false
theorem Thg.isb {K : PySem.W.Frag} {H : Hp} {v : V} (h : Thg H v) : ∃ t : Value, TyX K H v t ∧ PySem.W.kitOne K t (.type "bool") = some (isB v) := by
  cases h with
  | non => exact ⟨_, .base .non, kit_ty (show kitB "NoneType" "bool" = some false from by decide +kernel)⟩
  | bl b => exact ⟨_, .base (.bl b), kit_ty (show kitB "bool" "bool" = some true from by decide +kernel)⟩
  | int _ _ => exact ⟨_, .base (.int _), kit_ty (show kitB "int" "bool" = some false from by decide +kernel)⟩
  | str _ => exact ⟨_, .base (.str _), kit_ty (show kitB "str" "bool" = some false from by decide +kernel)⟩
  | odd e h =>
    cases h with
    | l0 => exact ⟨_, .base (.lst e), kit_ty (show kitB "list" "bool" = some false from by decide +kernel)⟩
    | l1 _ => exact ⟨_, .base (.lst e), kit_ty (show kitB "list" "bool" = some false from by decide +kernel)⟩
    | t0 => exact ⟨_, .base (.tup e), kit_ty (show kitB "tuple" "bool" = some false from by decide +kernel)⟩
    | t1 _ => exact ⟨_, .base (.tup e), kit_ty (show kitB "tuple" "bool" = some false from by decide +kernel)⟩
    | d0 => exact ⟨_, .base (.dK e), kit_ty (show kitB "dict" "bool" = some false from by decide +kernel)⟩
    | d1 _ _ _ => exact ⟨_, .base (.dK e), kit_ty (show kitB "dict" "bool" = some false from by decide +kernel)⟩
def trth (v : V) (allowed : Bool) : Bool := match v with
  | .bl b => allowed || !b
  | _ => false
def spTruth : Sp := fun vs H Q _ => ∃ (v : V) (b : Bool), vs = [v, .bl b] ∧ Thg H v ∧ Q (.bl (trth v b)) H
theorem ok_isTruth {f : Addr} {fd : FuncData} {k : Nat} (F : Fun K "is_truth" "is_truth" st_is_truth f fd) (m_bool : mg "bool" = none) (m_isinstance : mg "isinstance" = none) : FnOk P w K mg base CX0 (k + 1) f fd ["value", "allowed"] spTruth := by
  refine F.ok sc_is_truth (fun vs H Q E h => ?_) (fun cdv A outer s H vs Q E hr h => ?_)
  · obtain ⟨v, b, rfl, _⟩ := h
    rfl
  · obtain ⟨v, b, rfl, hv, q⟩ := h
    refine ⟨_, pss_one (ps_ret (pe_and (pe_callB call_isi (by rfl) m_isinstance (by decide +kernel) (pa_cons (pv 0) (pa_cons (pe_bltn (v := .ty "bool") (by rfl) m_bool (by decide +kernel) rfl) pa_nil))) (pe_one (pe_or (pv 1) (pe_one (pe_not (pv 0))))))), ?_⟩
    obtain ⟨t, ht, hk⟩ := hv.isb (K := K)
    refine ⟨v, rfl, v, _, t, _, isB v, rfl, ClsV.ty "bool", ht, hk, _, rfl, ?_⟩
    cases v with
    | bl c =>
      refine ⟨.bl b, rfl, b, rfl, ?_⟩
      cases b with
      | true => exact q
      | false => exact ⟨.bl c, rfl, c, rfl, q⟩
    | _ => exact q
/-- x is True, x is False -/
theorem op_isBA {X : Cx} : OpR X (compareOp .Is) (fun x y H Q => ∃ b : Bool, y = .bl b ∧ Q (.bl (decide (x = .bl b))) H) := by
  intro pins s σ H x y v u Q I rx ry h
  obtain ⟨b, rfl, q⟩ := h
  cases (show u = Value.bool b from ry)
  cases x with
  | bl a =>
    cases (show v = Value.bool a from rx)
    by_cases e : a = b
    · subst e
      exact wpAny_is_self rfl ⟨.bl true, H, I, rfl, by simpa using q⟩
    · exact wpAny_is_other rfl (fun z => e (Value.bool.inj z)) ⟨.bl false, H, I, rfl, by simpa [e] using q⟩
  | non =>
    cases (show v = Value.none from rx)
    exact wpAny_is_other rfl (fun z => by cases z) ⟨.bl false, H, I, rfl, by simpa using q⟩
  | int i =>
    obtain ⟨t, rfl⟩ := rx
    exact wpAny_is_other rfl (fun z => by cases z) ⟨.bl false, H, I, rfl, by simpa using q⟩
  | str z =>
    obtain ⟨t, rfl⟩ := rx
    exact wpAny_is_other rfl (fun z => by cases z) ⟨.bl false, H, I, rfl, by simpa using q⟩
  | byt z =>
    obtain ⟨t, rfl⟩ := rx
    exact wpAny_is_other rfl (fun z => by cases z) ⟨.bl false, H, I, rfl, by simpa using q⟩
  | flt z =>
    obtain ⟨t, rfl⟩ := rx
    exact wpAny_is_other rfl (fun z => by cases z) ⟨.bl false, H, I, rfl, by simpa using q⟩
  | ref a =>
    cases (show v = Value.ref a from rx)
    exact wpAny_is_other rfl (fun z => by cases z) ⟨.bl false, H, I, rfl, by simpa using q⟩
  | ty n =>
    cases (show v = Value.type n from rx)
    exact wpAny_is_other rfl (fun z => by cases z) ⟨.bl false, H, I, rfl, by simpa using q⟩
end
end WB

set_option Elab.async false
set_option linter.all false
set_option maxRecDepth 100000
set_option maxHeartbeats 4000000
namespace WB
open PySem PySem.Spec PyProof.Rows L2 WG
open TL (tl)
abbrev st_err : Stmt := inClass (topS 17) 0
abbrev st_init : Stmt := inClass (topS 24) 0
theorem sc_err : FnScope ["self", "field"] ["self", "field"] (defScope st_err) := ⟨rfl, rfl, rfl, by decide +kernel, rfl, by decide +kernel, by decide +kernel⟩
abbrev st_Option_init : Stmt := inClass (topS 24) 0
theorem sc_Option_init : FnScope ["self", "long", "short", "takes", "maker", "default", "needed", "off", "about"] ["self", "long", "short", "takes", "maker", "default", "needed", "off", "about"] (defScope st_Option_init) := ⟨rfl, rfl, rfl, by decide +kernel, rfl, by decide +kernel, by decide +kernel⟩
abbrev sc_init := sc_Option_init
/-! ### what is wrong first -/
def takesL : List Str := [Str.ofString "flag", Str.ofString "count", Str.ofString "one", Str.ofString "last", Str.ofString "each"]
def plainL : List Str := [Str.ofString "flag", Str.ofString "count"]
def singleL : List Str := [Str.ofString "one", Str.ofString "last"]
def taken (v : V) : Str := match v with
  | .str z => z
  | _ => Str.ofString "none"
def plain (v : V) : Bool := inV (.str (taken v)) (plainL.map V.str)
def single (v : V) : Bool := inV (.str (taken v)) (singleL.map V.str)
def wrongF (v0 v1 v2 v3 v4 v5 v6 v7 : V) : Str := if isNm v0 = false then Str.ofString "long" else if isSh v1 = false then Str.ofString "short" else if among v2 takesL = false then Str.ofString "takes" else if isNm v3 = false then Str.ofString "maker" else if dflt v4 (single v2) = false then Str.ofString "default" else if trth v5 (!plain v2 && decide (v4 = .non)) = false then Str.ofString "needed" else if trth v6 (plain v2) = false then Str.ofString "off" else if isAb v7 = false then Str.ofString "about" else Str.ofString ""
/-- NoOption, as the written part tells it -/
structure ErrT (K : PySem.W.Frag) (mg : Str → Option Value) (x : Str) (C fI : Addr) (fd : FuncData) : Prop where
  o : OexC K C
  i : PySem.W.findIn K (.ref C) "__init__" = some (some (.ref fI))
  t : PySem.W.typeIn K (.ref fI) = some (.type "function")
  nf : PySem.W.findIn K (.ref C) "field" = some none
  g : mg x = some (.ref C)
  b : Binds K fd ["self", "field"] []
section
variable {P : Program} {w : World} {K : PySem.W.Frag} {mg : Str → Option Value} {base : Heap}
def spErr (C : Addr) : Sp := fun vs H Q _ => ∃ (a : Addr) (y : V), vs = [.ref a, y] ∧ H a = some (exo a C none) ∧ ∀ dx, H dx = none → dx ≠ a → Q .non (upd (upd H dx (exd dx [(("field" : Str), y)])) a (exo a C (some dx)))
theorem ok_err {C f : Addr} {fd : FuncData} {x q : Str} {k : Nat} (F : Fun K "__init__" q st_err f fd) (T : ErrT K mg x C f fd) : FnOk P w K mg base CX0 (k + 1) f fd ["self", "field"] (spErr C) := by
  refine F.ok sc_err (fun vs H Q E h => ?_) (fun cdv A outer s H vs Q E hr h => ?_)
  · obtain ⟨a, y, rfl, _⟩ := h
    rfl
  · obtain ⟨a, y, rfl, ea, q⟩ := h
    refine ⟨_, pss_one (ps_ost (pv 0) (pv 1)), ?_⟩
    exact ⟨y, rfl, .ref a, rfl, a, C, rfl, T.o, T.nf, .inl ⟨ea, fun dx n ne => q dx n ne⟩⟩
/-- the way out by a raised error -/
theorem err_out {C : Addr} {y : V} {H : Hp} {E : XK} {x : Addr} (h : ∀ H' d, Same H H' → H d = none → H' d = some (.xd [(("field" : Str), y)]) → E (.ref C) (some d) H') (a : Addr) (na : H a = none) :
    spErr C [.ref a, y] (upd H a (exo a C none)) (fun v H2 => v = .non ∧ ∃ (d : Addr) (fs : List (Str × V)), H2 a = some (exo a C (some d)) ∧ H2 d = some (exd d fs) ∧ H d = none ∧ E (.ref C) (some d) (upd (del H2 a) d (.xd fs))) (fun _ _ _ => False) := by
  refine ⟨a, y, rfl, upd_same, fun dx ndx ne => ⟨rfl, dx, [(("field" : Str), y)], upd_same, ?_, ?_, ?_⟩⟩
  · rw [upd_ne ne, upd_same]
  · rw [upd_ne ne] at ndx
    exact ndx
  · rw [upd_ne ne] at ndx
    refine h _ dx (fun b o e => ?_) ndx upd_same
    have nb : b ≠ dx := ne_of_none e ndx
    have nba : b ≠ a := ne_of_none e na
    rw [upd_ne nb, del_ne nba, upd_ne nba, upd_ne nb, upd_ne nba]
    exact e
/-! ### Option.__init__ -/
/-- Option, as the written part tells it -/
structure ClsT (K : PySem.W.Frag) (C : Addr) : Prop where
  cl : Cls K C
  nh : NoAttr K C "held"
def spInit (C CN : Addr) : Sp := fun vs H Q E => ∃ (x dx : Addr) (v0 v1 v2 v3 v4 v5 v6 v7 : V), vs = [.ref x, v0, v1, v2, v3, v4, v5, v6, v7] ∧ H x = some (.ins C dx []) ∧ (Thg H v0 ∧ Thg H v1 ∧ Thg H v2 ∧ Thg H v3 ∧ Thg H v4 ∧ Thg H v5 ∧ Thg H v6 ∧ Thg H v7) ∧
  (wrongF v0 v1 v2 v3 v4 v5 v6 v7 = Str.ofString "" → ∀ H' t, But x H H' → H' x = some (.ins C dx [(("held" : Str), .ref t)]) → H' t = some (.tup [v0, v1, v2, v3, v4, v5, v6, v7]) → Q .non H') ∧
  (wrongF v0 v1 v2 v3 v4 v5 v6 v7 ≠ Str.ofString "" → ∀ H' d, Same H H' → H d = none → H' d = some (.xd [(("field" : Str), .str (wrongF v0 v1 v2 v3 v4 v5 v6 v7))]) → E (.ref CN) (some d) H')
theorem ev_use {t : TE} {σ : L2.St} {H : Hp} {v : V} {R : VK} (e : ∀ R : VK, R v H → t σ H R) (c : R v H) : t σ H R := e R c
theorem lit_ne {s : String} (h : (Str.ofString s).length ≠ 0) : Str.ofString s ≠ Str.ofString "" := fun e => h (by rw [e]; decide +kernel)
theorem ok_init {C CN f fE fW fA fB fM fD fS fR : Addr} {fd fdE fdW fdA fdB fdM fdD fdS fdR : FuncData} {u1 u2 u3 u4 u5 : Tok} {aT aU aW : Addr} {k : Nat} (F : FunD K "__init__" "Option.__init__" (defArgs st_init) (defBody st_init) (defScope st_init) [.str (Str.ofString ""), .str (Str.ofString "flag"), .str (Str.ofString "word"), .non, .bl false, .bl false, .str (Str.ofString "")] [] f fd)
    (FE : Fun K "__init__" "NoOption.__init__" st_err fE fdE) (TE : ErrT K mg "NoOption" CN fE fdE) (T : ClsT K C)
    (D_is_text_within : Df K mg "is_text_within" st_is_text_within ["value", "most"] fW fdW) (D_is_name : Df K mg "is_name" st_is_name ["value"] fA fdA) (D_is_about : Df K mg "is_about" st_is_about ["value"] fB fdB)
    (D_is_among : Df K mg "is_among" st_is_among ["value", "texts"] fM fdM) (D_is_default : Df K mg "is_default" st_is_default ["value", "allowed"] fD fdD) (D_is_short_or_empty : Df K mg "is_short_or_empty" st_is_short_or_empty ["value"] fS fdS) (D_is_truth : Df K mg "is_truth" st_is_truth ["value", "allowed"] fR fdR)
    (m_len : mg "len" = none) (m_str : mg "str" = none) (m_bool : mg "bool" = none) (m_isinstance : mg "isinstance" = none) (m_all : mg "all" = none) (c_MOST_NAME_SIGNS : mg "MOST_NAME_SIGNS" = some (.int 10 u1)) (c_NAME_SIGNS : mg "NAME_SIGNS" = some (.str nameSet u2))
    (c_MOST_ABOUT_SIGNS : mg "MOST_ABOUT_SIGNS" = some (.int 200 u3)) (c_MOST_DEFAULT_SIGNS : mg "MOST_DEFAULT_SIGNS" = some (.int 60 u4)) (c_LETTERS : mg "LETTERS" = some (.str letters u5)) (c_TAKES : mg "TAKES" = some (.ref aT)) (hT : ∀ H, SqT K H aT (takesL.map V.str))
    (c_UNVALUED : mg "UNVALUED" = some (.ref aU)) (hU : ∀ H, SqT K H aU (plainL.map V.str)) (c_WITH_DEFAULT : mg "WITH_DEFAULT" = some (.ref aW)) (hW : ∀ H, SqT K H aW (singleL.map V.str)) :
    FnOk P w K mg base (L2.CX P w) (k + 3) f fd ["self", "long", "short", "takes", "maker", "default", "needed", "off", "about"] (spInit C CN) := by
  have GE : FnOk P w K mg base CX0 (k + 1) fE fdE ["self", "field"] (spErr CN) := ok_err FE TE
  have G_is_name : FnOk P w K mg base CX0 (k + 2) fA fdA ["value"] (spOf isNm) := ok_isName D_is_name.F D_is_text_within m_len m_str m_isinstance m_all c_MOST_NAME_SIGNS c_NAME_SIGNS
  have G_is_about : FnOk P w K mg base CX0 (k + 2) fB fdB ["value"] (spOf isAb) := ok_isAbout D_is_about.F D_is_text_within m_len m_str m_isinstance c_MOST_ABOUT_SIGNS
  have G_is_among : FnOk P w K mg base CX0 (k + 2) fM fdM ["value", "texts"] (spAmong K) := ok_isAmong D_is_among.F m_str m_isinstance
  have G_is_default : FnOk P w K mg base CX0 (k + 2) fD fdD ["value", "allowed"] spDefault := ok_isDefault D_is_default.F D_is_text_within m_len m_str m_isinstance c_MOST_DEFAULT_SIGNS
  have G_is_short_or_empty : FnOk P w K mg base CX0 (k + 2) fS fdS ["value"] (spOf isSh) := ok_isShort D_is_short_or_empty.F D_is_text_within m_len m_str m_isinstance c_LETTERS
  have G_is_truth : FnOk P w K mg base CX0 (k + 2) fR fdR ["value", "allowed"] spTruth := ok_isTruth D_is_truth.F m_bool m_isinstance
  refine F.ok sc_init (fun vs H Q E h => ?_) (fun cdv A outer s H vs Q E hr h => ?_)
  · obtain ⟨x, dx, v0, v1, v2, v3, v4, v5, v6, v7, rfl, _⟩ := h
    rfl
  · obtain ⟨x, dx, v0, v1, v2, v3, v4, v5, v6, v7, rfl, ex, ⟨t0, t1, t2, t3, t4, t5, t6, t7⟩, qok, qbad⟩ := h
    refine ⟨_, pss_cons (ps_if (pt_not (pt_val (pe_call G_is_name hr (by rfl) D_is_name.g D_is_name.F.kp D_is_name.b .nil pass0 (pa_cons (pv 1) pa_nil)))) (pss_one (ps_raise rfl (takes_of rfl rfl rfl rfl) (pmk_oex TE.o TE.i TE.t GE hr TE.b .nil pass0 (by rfl) TE.g (pa_cons pe_str pa_nil)))) pss_nil)
      (pss_cons (ps_if (pt_not (pt_val (pe_call G_is_short_or_empty hr (by rfl) D_is_short_or_empty.g D_is_short_or_empty.F.kp D_is_short_or_empty.b .nil pass0 (pa_cons (pv 2) pa_nil)))) (pss_one (ps_raise rfl (takes_of rfl rfl rfl rfl) (pmk_oex TE.o TE.i TE.t GE hr TE.b .nil pass0 (by rfl) TE.g (pa_cons pe_str pa_nil)))) pss_nil)
      (pss_cons (ps_if (pt_not (pt_val (pe_call G_is_among hr (by rfl) D_is_among.g D_is_among.F.kp D_is_among.b .nil pass0 (pa_cons (pv 3) (pa_cons (pe_glob (v := .ref aT) rfl c_TAKES rfl) pa_nil))))) (pss_one (ps_raise rfl (takes_of rfl rfl rfl rfl) (pmk_oex TE.o TE.i TE.t GE hr TE.b .nil pass0 (by rfl) TE.g (pa_cons pe_str pa_nil)))) pss_nil)
      (pss_cons (ps_if (pt_not (pt_val (pe_call G_is_name hr (by rfl) D_is_name.g D_is_name.F.kp D_is_name.b .nil pass0 (pa_cons (pv 4) pa_nil)))) (pss_one (ps_raise rfl (takes_of rfl rfl rfl rfl) (pmk_oex TE.o TE.i TE.t GE hr TE.b .nil pass0 (by rfl) TE.g (pa_cons pe_str pa_nil)))) pss_nil)
      (pss_cons (ps_if (pt_not (pt_val (pe_call G_is_default hr (by rfl) D_is_default.g D_is_default.F.kp D_is_default.b .nil pass0 (pa_cons (pv 5) (pa_cons (pe_cmpR op_in_seq (pv 3) (pe_glob (v := .ref aW) rfl c_WITH_DEFAULT rfl) (by rfl)) pa_nil))))) (pss_one (ps_raise rfl (takes_of rfl rfl rfl rfl) (pmk_oex TE.o TE.i TE.t GE hr TE.b .nil pass0 (by rfl) TE.g (pa_cons pe_str pa_nil)))) pss_nil)
      (pss_cons (ps_if (pt_not (pt_val (pe_call G_is_truth hr (by rfl) D_is_truth.g D_is_truth.F.kp D_is_truth.b .nil pass0 (pa_cons (pv 6) (pa_cons (pe_and (pe_cmpR op_notIn_seq (pv 3) (pe_glob (v := .ref aU) rfl c_UNVALUED rfl) (by rfl)) (pe_one (pe_cmpR op_isN (pv 5) pe_non (nomark _)))) pa_nil))))) (pss_one (ps_raise rfl (takes_of rfl rfl rfl rfl) (pmk_oex TE.o TE.i TE.t GE hr TE.b .nil pass0 (by rfl) TE.g (pa_cons pe_str pa_nil)))) pss_nil)
      (pss_cons (ps_if (pt_not (pt_val (pe_call G_is_truth hr (by rfl) D_is_truth.g D_is_truth.F.kp D_is_truth.b .nil pass0 (pa_cons (pv 7) (pa_cons (pe_cmpR op_in_seq (pv 3) (pe_glob (v := .ref aU) rfl c_UNVALUED rfl) (by rfl)) pa_nil))))) (pss_one (ps_raise rfl (takes_of rfl rfl rfl rfl) (pmk_oex TE.o TE.i TE.t GE hr TE.b .nil pass0 (by rfl) TE.g (pa_cons pe_str pa_nil)))) pss_nil)
      (pss_cons (ps_if (pt_not (pt_val (pe_call G_is_about hr (by rfl) D_is_about.g D_is_about.F.kp D_is_about.b .nil pass0 (pa_cons (pv 8) pa_nil)))) (pss_one (ps_raise rfl (takes_of rfl rfl rfl rfl) (pmk_oex TE.o TE.i TE.t GE hr TE.b .nil pass0 (by rfl) TE.g (pa_cons pe_str pa_nil)))) pss_nil)
      (pss_one (ps_fld (pv 0) (pe_tup (pa_cons (pv 1) (pa_cons (pv 2) (pa_cons (pv 3) (pa_cons (pv 4) (pa_cons (pv 5) (pa_cons (pv 6) (pa_cons (pv 7) (pa_cons (pv 8) pa_nil))))))))) rfl))))))))), ?_⟩
    refine ⟨v0, rfl, v0, rfl, t0, fun H1 s1 => ⟨_, rfl, ?_⟩⟩
    cases b0 : isNm v0 with
    | false =>
      have e : wrongF v0 v1 v2 v3 v4 v5 v6 v7 = Str.ofString "long" := by unfold wrongF; rw [if_pos b0]
      rw [e] at qbad
      exact ⟨by show 1 ≤ 1000; decide, fun a na => err_out (x := x) (fun H' d sm nd ed => qbad (lit_ne (by decide +kernel)) H' d (s1.trans sm) (s1.free nd) ed) a na⟩
    | true =>
      refine ⟨v1, rfl, v1, rfl, t1.same s1, fun H2 s2 => ⟨_, rfl, ?_⟩⟩
      have s12 := s1.trans s2
      cases b1 : isSh v1 with
      | false =>
        have e : wrongF v0 v1 v2 v3 v4 v5 v6 v7 = Str.ofString "short" := by unfold wrongF; rw [if_neg (by rw [b0]; decide), if_pos b1]
        rw [e] at qbad
        exact ⟨by show 1 ≤ 1000; decide, fun a na => err_out (x := x) (fun H' d sm nd ed => qbad (lit_ne (by decide +kernel)) H' d (s12.trans sm) (s12.free nd) ed) a na⟩
      | true =>
        refine ⟨v2, rfl, v2, aT, takesL, rfl, t2.same s12, hT _, _, rfl, ?_⟩
        cases b2 : among v2 takesL with
        | false =>
          have e : wrongF v0 v1 v2 v3 v4 v5 v6 v7 = Str.ofString "takes" := by unfold wrongF; rw [if_neg (by rw [b0]; decide), if_neg (by rw [b1]; decide), if_pos b2]
          rw [e] at qbad
          exact ⟨by show 1 ≤ 1000; decide, fun a na => err_out (x := x) (fun H' d sm nd ed => qbad (lit_ne (by decide +kernel)) H' d (s12.trans sm) (s12.free nd) ed) a na⟩
        | true =>
          refine ⟨v3, rfl, v3, rfl, t3.same s12, fun H3 s3 => ⟨_, rfl, ?_⟩⟩
          have s13 := s12.trans s3
          cases b3 : isNm v3 with
          | false =>
            have e : wrongF v0 v1 v2 v3 v4 v5 v6 v7 = Str.ofString "maker" := by unfold wrongF; rw [if_neg (by rw [b0]; decide), if_neg (by rw [b1]; decide), if_neg (by rw [b2]; decide), if_pos b3]
            rw [e] at qbad
            exact ⟨by show 1 ≤ 1000; decide, fun a na => err_out (x := x) (fun H' d sm nd ed => qbad (lit_ne (by decide +kernel)) H' d (s13.trans sm) (s13.free nd) ed) a na⟩
          | true =>
            cases v2 with
            | str z2 =>
              refine ⟨v4, rfl, .str z2, rfl, aW, _, rfl, .inr (hW _), rfl, strs_flat _, v4, _, rfl, t4.same s13, _, rfl, ?_⟩
              have em : inV (.str z2) (singleL.map V.str) = single (.str z2) := rfl
              simp only [Bool.false_eq_true, if_false]
              rw [em]
              cases b4 : dflt v4 (single (.str z2)) with
              | false =>
                have e : wrongF v0 v1 (.str z2) v3 v4 v5 v6 v7 = Str.ofString "default" := by unfold wrongF; rw [if_neg (by rw [b0]; decide), if_neg (by rw [b1]; decide), if_neg (by rw [b2]; decide), if_neg (by rw [b3]; decide), if_pos b4]
                rw [e] at qbad
                exact ⟨by show 1 ≤ 1000; decide, fun a na => err_out (x := x) (fun H' d sm nd ed => qbad (lit_ne (by decide +kernel)) H' d (s13.trans sm) (s13.free nd) ed) a na⟩
              | true =>
                have ep : inV (.str z2) (plainL.map V.str) = plain (.str z2) := rfl
                refine ⟨v5, rfl, ?_⟩
                refine ev_use (t := tAndV _ _) (v := .bl (!plain (.str z2) && decide (v4 = .non))) (fun R c => ?_) ?_
                · refine ⟨.str z2, rfl, aU, _, rfl, .inr (hU _), rfl, strs_flat _, ?_⟩
                  simp only [if_true, ep]
                  cases bp : plain (.str z2) with
                  | true =>
                    rw [bp] at c
                    exact ⟨_, rfl, c⟩
                  | false =>
                    rw [bp] at c
                    exact ⟨_, rfl, v4, rfl, rfl, c⟩
                refine ⟨v5, _, rfl, t5.same s13, _, rfl, ?_⟩
                cases b5 : trth v5 (!plain (.str z2) && decide (v4 = .non)) with
                | false =>
                  have e : wrongF v0 v1 (.str z2) v3 v4 v5 v6 v7 = Str.ofString "needed" := by unfold wrongF; rw [if_neg (by rw [b0]; decide), if_neg (by rw [b1]; decide), if_neg (by rw [b2]; decide), if_neg (by rw [b3]; decide), if_neg (by rw [b4]; decide), if_pos b5]
                  rw [e] at qbad
                  exact ⟨by show 1 ≤ 1000; decide, fun a na => err_out (x := x) (fun H' d sm nd ed => qbad (lit_ne (by decide +kernel)) H' d (s13.trans sm) (s13.free nd) ed) a na⟩
                | true =>
                  refine ⟨v6, rfl, .str z2, rfl, aU, _, rfl, .inr (hU _), rfl, strs_flat _, v6, _, rfl, t6.same s13, _, rfl, ?_⟩
                  simp only [Bool.false_eq_true, if_false]
                  rw [ep]
                  cases b6 : trth v6 (plain (.str z2)) with
                  | false =>
                    have e : wrongF v0 v1 (.str z2) v3 v4 v5 v6 v7 = Str.ofString "off" := by unfold wrongF; rw [if_neg (by rw [b0]; decide), if_neg (by rw [b1]; decide), if_neg (by rw [b2]; decide), if_neg (by rw [b3]; decide), if_neg (by rw [b4]; decide), if_neg (by rw [b5]; decide), if_pos b6]
                    rw [e] at qbad
                    exact ⟨by show 1 ≤ 1000; decide, fun a na => err_out (x := x) (fun H' d sm nd ed => qbad (lit_ne (by decide +kernel)) H' d (s13.trans sm) (s13.free nd) ed) a na⟩
                  | true =>
                    refine ⟨v7, rfl, v7, rfl, t7.same s13, fun H4 s4 => ⟨_, rfl, ?_⟩⟩
                    have s14 := s13.trans s4
                    cases b7 : isAb v7 with
                    | false =>
                      have e : wrongF v0 v1 (.str z2) v3 v4 v5 v6 v7 = Str.ofString "about" := by unfold wrongF; rw [if_neg (by rw [b0]; decide), if_neg (by rw [b1]; decide), if_neg (by rw [b2]; decide), if_neg (by rw [b3]; decide), if_neg (by rw [b4]; decide), if_neg (by rw [b5]; decide), if_neg (by rw [b6]; decide), if_pos b7]
                      rw [e] at qbad
                      exact ⟨by show 1 ≤ 1000; decide, fun a na => err_out (x := x) (fun H' d sm nd ed => qbad (lit_ne (by decide +kernel)) H' d (s14.trans sm) (s14.free nd) ed) a na⟩
                    | true =>
                      have e : wrongF v0 v1 (.str z2) v3 v4 v5 v6 v7 = Str.ofString "" := by unfold wrongF; rw [if_neg (by rw [b0]; decide), if_neg (by rw [b1]; decide), if_neg (by rw [b2]; decide), if_neg (by rw [b3]; decide), if_neg (by rw [b4]; decide), if_neg (by rw [b5]; decide), if_neg (by rw [b6]; decide), if_neg (by rw [b7]; decide)]
                      have ex4 := s14 _ _ ex
                      refine ⟨_, rfl, _, rfl, _, rfl, _, rfl, _, rfl, _, rfl, _, rfl, _, rfl, by show 8 ≤ sizeLine; decide, fun t nt => ?_⟩
                      have nxt : x ≠ t := ne_of_none ex4 nt
                      refine ⟨.ref x, rfl, x, C, dx, [], rfl, ?_, T.cl, T.nh, by decide, ?_⟩
                      · rw [upd_ne nxt]
                        exact ex4
                      · refine qok e _ t (fun b o nb eb => ?_) upd_same ?_
                        · rw [upd_ne nb]
                          exact same_upd nt _ _ (s14 _ _ eb)
                        · rw [upd_ne nxt.symm, upd_same]
            | _ => cases b2
/-! ### the methods -/
end
end WB

set_option Elab.async false
set_option linter.all false
set_option maxRecDepth 100000
set_option maxHeartbeats 4000000
namespace WP
open PySem PySem.Spec PyProof.Rows L2 WG WB
open TL (tl)
abbrev st_err : Stmt := inClass (topS 18) 0
abbrev st_init : Stmt := inClass (topS 25) 0
theorem sc_err : FnScope ["self", "field"] ["self", "field"] (defScope st_err) := ⟨rfl, rfl, rfl, by decide +kernel, rfl, by decide +kernel, by decide +kernel⟩
theorem sc_init : FnScope ["self", "name", "many", "maker", "default", "about"] ["self", "name", "many", "maker", "default", "about"] (defScope st_init) := ⟨rfl, rfl, rfl, by decide +kernel, rfl, by decide +kernel, by decide +kernel⟩
/-! ### what is wrong first -/
def manies : List Str := [Str.ofString "one", Str.ofString "maybe", Str.ofString "some", Str.ofString "any"]
def isMb (v : V) : Bool := decide (v = .str (Str.ofString "maybe"))
def wrongF (v0 v1 v2 v3 v4 : V) : Str :=
  if isNm v0 = false then Str.ofString "name" else if among v1 manies = false then Str.ofString "many" else if isNm v2 = false then Str.ofString "maker" else
  if dflt v3 (isMb v1) = false then Str.ofString "default" else if isAb v4 = false then Str.ofString "about" else Str.ofString ""
/-- NoPlace, as the written part tells it -/
structure ErrT (K : PySem.W.Frag) (mg : Str → Option Value) (x : Str) (C fI : Addr) (fd : FuncData) : Prop where
  o : OexC K C
  i : PySem.W.findIn K (.ref C) "__init__" = some (some (.ref fI))
  t : PySem.W.typeIn K (.ref fI) = some (.type "function")
  nf : PySem.W.findIn K (.ref C) "field" = some none
  g : mg x = some (.ref C)
  b : Binds K fd ["self", "field"] []
section
variable {P : Program} {w : World} {K : PySem.W.Frag} {mg : Str → Option Value} {base : Heap}
def spErr (C : Addr) : Sp := fun vs H Q _ => ∃ (a : Addr) (y : V), vs = [.ref a, y] ∧ H a = some (exo a C none) ∧ ∀ dx, H dx = none → dx ≠ a → Q .non (upd (upd H dx (exd dx [(("field" : Str), y)])) a (exo a C (some dx)))
theorem ok_err {C f : Addr} {fd : FuncData} {x q : Str} {k : Nat} (F : Fun K "__init__" q st_err f fd) (T : ErrT K mg x C f fd) : FnOk P w K mg base CX0 (k + 1) f fd ["self", "field"] (spErr C) := by
  refine F.ok sc_err (fun vs H Q E h => ?_) (fun cdv A outer s H vs Q E hr h => ?_)
  · obtain ⟨a, y, rfl, _⟩ := h
    rfl
  · obtain ⟨a, y, rfl, ea, q⟩ := h
    refine ⟨_, pss_one (ps_ost (pv 0) (pv 1)), ?_⟩
    exact ⟨y, rfl, .ref a, rfl, a, C, rfl, T.o, T.nf, .inl ⟨ea, fun dx n ne => q dx n ne⟩⟩
/-- the way out by a raised error -/
theorem err_out {C : Addr} {y : V} {H : Hp} {E : XK} {x : Addr} (h : ∀ H' d, Same H H' → H d = none → H' d = some (.xd [(("field" : Str), y)]) → E (.ref C) (some d) H') (a : Addr) (na : H a = none) :
    spErr C [.ref a, y] (upd H a (exo a C none)) (fun v H2 => v = .non ∧ ∃ (d : Addr) (fs : List (Str × V)), H2 a = some (exo a C (some d)) ∧ H2 d = some (exd d fs) ∧ H d = none ∧ E (.ref C) (some d) (upd (del H2 a) d (.xd fs))) (fun _ _ _ => False) := by
  refine ⟨a, y, rfl, upd_same, fun dx ndx ne => ⟨rfl, dx, [(("field" : Str), y)], upd_same, ?_, ?_, ?_⟩⟩
  · rw [upd_ne ne, upd_same]
  · rw [upd_ne ne] at ndx
    exact ndx
  · rw [upd_ne ne] at ndx
    refine h _ dx (fun b o e => ?_) ndx upd_same
    have nb : b ≠ dx := ne_of_none e ndx
    have nba : b ≠ a := ne_of_none e na
    rw [upd_ne nb, del_ne nba, upd_ne nba, upd_ne nb, upd_ne nba]
    exact e
/-! ### Place.__init__ -/
/-- Place, as the written part tells it -/
structure ClsT (K : PySem.W.Frag) (C : Addr) : Prop where
  cl : Cls K C
  nh : NoAttr K C "held"
def spInit (C CN : Addr) : Sp := fun vs H Q E => ∃ (x dx : Addr) (v0 v1 v2 v3 v4 : V), vs = [.ref x, v0, v1, v2, v3, v4] ∧ H x = some (.ins C dx []) ∧ (Thg H v0 ∧ Thg H v1 ∧ Thg H v2 ∧ Thg H v3 ∧ Thg H v4) ∧
  (wrongF v0 v1 v2 v3 v4 = Str.ofString "" → ∀ H' t, But x H H' → H' x = some (.ins C dx [(("held" : Str), .ref t)]) → H' t = some (.tup [v0, v1, v2, v3, v4]) → Q .non H') ∧
  (wrongF v0 v1 v2 v3 v4 ≠ Str.ofString "" → ∀ H' d, Same H H' → H d = none → H' d = some (.xd [(("field" : Str), .str (wrongF v0 v1 v2 v3 v4))]) → E (.ref CN) (some d) H')
theorem lit_ne {s : String} (h : (Str.ofString s).length ≠ 0) : Str.ofString s ≠ Str.ofString "" := fun e => h (by rw [e]; decide +kernel)
theorem ok_init {C CN f fE fW fA fB fM fD : Addr} {fd fdE fdW fdA fdB fdM fdD : FuncData} {u1 u2 u3 u4 : Tok} {aM : Addr} {k : Nat} (F : FunD K "__init__" "Place.__init__" (defArgs st_init) (defBody st_init) (defScope st_init) [.str (Str.ofString "one"), .str (Str.ofString "word"), .non, .str (Str.ofString "")] [] f fd)
    (FE : Fun K "__init__" "NoPlace.__init__" st_err fE fdE) (TE : ErrT K mg "NoPlace" CN fE fdE) (T : ClsT K C)
    (D_is_text_within : Df K mg "is_text_within" st_is_text_within ["value", "most"] fW fdW) (D_is_name : Df K mg "is_name" st_is_name ["value"] fA fdA) (D_is_about : Df K mg "is_about" st_is_about ["value"] fB fdB)
    (D_is_among : Df K mg "is_among" st_is_among ["value", "texts"] fM fdM) (D_is_default : Df K mg "is_default" st_is_default ["value", "allowed"] fD fdD)
    (m_len : mg "len" = none) (m_str : mg "str" = none) (m_isinstance : mg "isinstance" = none) (m_all : mg "all" = none) (c_MOST_NAME_SIGNS : mg "MOST_NAME_SIGNS" = some (.int 10 u1)) (c_NAME_SIGNS : mg "NAME_SIGNS" = some (.str nameSet u2))
    (c_MOST_ABOUT_SIGNS : mg "MOST_ABOUT_SIGNS" = some (.int 200 u3)) (c_MOST_DEFAULT_SIGNS : mg "MOST_DEFAULT_SIGNS" = some (.int 60 u4)) (c_MANIES : mg "MANIES" = some (.ref aM)) (hM : ∀ H, SqT K H aM (manies.map V.str)) :
    FnOk P w K mg base (L2.CX P w) (k + 3) f fd ["self", "name", "many", "maker", "default", "about"] (spInit C CN) := by
  have GE : FnOk P w K mg base CX0 (k + 1) fE fdE ["self", "field"] (spErr CN) := ok_err FE TE
  have G_is_name : FnOk P w K mg base CX0 (k + 2) fA fdA ["value"] (spOf isNm) := ok_isName D_is_name.F D_is_text_within m_len m_str m_isinstance m_all c_MOST_NAME_SIGNS c_NAME_SIGNS
  have G_is_about : FnOk P w K mg base CX0 (k + 2) fB fdB ["value"] (spOf isAb) := ok_isAbout D_is_about.F D_is_text_within m_len m_str m_isinstance c_MOST_ABOUT_SIGNS
  have G_is_among : FnOk P w K mg base CX0 (k + 2) fM fdM ["value", "texts"] (spAmong K) := ok_isAmong D_is_among.F m_str m_isinstance
  have G_is_default : FnOk P w K mg base CX0 (k + 2) fD fdD ["value", "allowed"] spDefault := ok_isDefault D_is_default.F D_is_text_within m_len m_str m_isinstance c_MOST_DEFAULT_SIGNS
  refine F.ok sc_init (fun vs H Q E h => ?_) (fun cdv A outer s H vs Q E hr h => ?_)
  · obtain ⟨x, dx, v0, v1, v2, v3, v4, rfl, _⟩ := h
    rfl
  · obtain ⟨x, dx, v0, v1, v2, v3, v4, rfl, ex, ⟨t0, t1, t2, t3, t4⟩, qok, qbad⟩ := h
    refine ⟨_, pss_cons (ps_if (pt_not (pt_val (pe_call G_is_name hr (by rfl) D_is_name.g D_is_name.F.kp D_is_name.b .nil pass0 (pa_cons (pv 1) pa_nil)))) (pss_one (ps_raise rfl (takes_of rfl rfl rfl rfl) (pmk_oex TE.o TE.i TE.t GE hr TE.b .nil pass0 (by rfl) TE.g (pa_cons pe_str pa_nil)))) pss_nil)
      (pss_cons (ps_if (pt_not (pt_val (pe_call G_is_among hr (by rfl) D_is_among.g D_is_among.F.kp D_is_among.b .nil pass0 (pa_cons (pv 2) (pa_cons (pe_glob (v := .ref aM) rfl c_MANIES rfl) pa_nil))))) (pss_one (ps_raise rfl (takes_of rfl rfl rfl rfl) (pmk_oex TE.o TE.i TE.t GE hr TE.b .nil pass0 (by rfl) TE.g (pa_cons pe_str pa_nil)))) pss_nil)
      (pss_cons (ps_if (pt_not (pt_val (pe_call G_is_name hr (by rfl) D_is_name.g D_is_name.F.kp D_is_name.b .nil pass0 (pa_cons (pv 3) pa_nil)))) (pss_one (ps_raise rfl (takes_of rfl rfl rfl rfl) (pmk_oex TE.o TE.i TE.t GE hr TE.b .nil pass0 (by rfl) TE.g (pa_cons pe_str pa_nil)))) pss_nil)
      (pss_cons (ps_if (pt_not (pt_val (pe_call G_is_default hr (by rfl) D_is_default.g D_is_default.F.kp D_is_default.b .nil pass0 (pa_cons (pv 4) (pa_cons (pe_cmpR op_eq (pv 2) pe_str (nomark _)) pa_nil))))) (pss_one (ps_raise rfl (takes_of rfl rfl rfl rfl) (pmk_oex TE.o TE.i TE.t GE hr TE.b .nil pass0 (by rfl) TE.g (pa_cons pe_str pa_nil)))) pss_nil)
      (pss_cons (ps_if (pt_not (pt_val (pe_call G_is_about hr (by rfl) D_is_about.g D_is_about.F.kp D_is_about.b .nil pass0 (pa_cons (pv 5) pa_nil)))) (pss_one (ps_raise rfl (takes_of rfl rfl rfl rfl) (pmk_oex TE.o TE.i TE.t GE hr TE.b .nil pass0 (by rfl) TE.g (pa_cons pe_str pa_nil)))) pss_nil)
      (pss_one (ps_fld (pv 0) (pe_tup (pa_cons (pv 1) (pa_cons (pv 2) (pa_cons (pv 3) (pa_cons (pv 4) (pa_cons (pv 5) pa_nil)))))) rfl)))))), ?_⟩
    refine ⟨v0, rfl, v0, rfl, t0, fun H1 s1 => ⟨_, rfl, ?_⟩⟩
    cases b0 : isNm v0 with
    | false =>
      have e : wrongF v0 v1 v2 v3 v4 = Str.ofString "name" := by unfold wrongF; rw [if_pos b0]
      rw [e] at qbad
      refine ⟨by show 1 ≤ 1000; decide, fun a na => err_out (x := x) (fun H' d sm nd ed => qbad (lit_ne (by decide +kernel)) H' d (s1.trans sm) (s1.free nd) ed) a na⟩
    | true =>
      refine ⟨v1, rfl, v1, aM, manies, rfl, t1.same s1, hM _, _, rfl, ?_⟩
      cases b1 : among v1 manies with
      | false =>
        have e : wrongF v0 v1 v2 v3 v4 = Str.ofString "many" := by unfold wrongF; rw [if_neg (by rw [b0]; decide), if_pos b1]
        rw [e] at qbad
        refine ⟨by show 1 ≤ 1000; decide, fun a na => err_out (x := x) (fun H' d sm nd ed => qbad (lit_ne (by decide +kernel)) H' d (s1.trans sm) (s1.free nd) ed) a na⟩
      | true =>
        refine ⟨v2, rfl, v2, rfl, t2.same s1, fun H2 s2 => ⟨_, rfl, ?_⟩⟩
        have s12 := s1.trans s2
        cases b2 : isNm v2 with
        | false =>
          have e : wrongF v0 v1 v2 v3 v4 = Str.ofString "maker" := by unfold wrongF; rw [if_neg (by rw [b0]; decide), if_neg (by rw [b1]; decide), if_pos b2]
          rw [e] at qbad
          refine ⟨by show 1 ≤ 1000; decide, fun a na => err_out (x := x) (fun H' d sm nd ed => qbad (lit_ne (by decide +kernel)) H' d (s12.trans sm) (s12.free nd) ed) a na⟩
        | true =>
          cases v1 with
          | str z1 =>
            refine ⟨v3, rfl, .str z1, rfl, rfl, v3, _, rfl, t3.same s12, _, rfl, ?_⟩
            have em : decide (V.str z1 = V.str (Str.ofString "maybe")) = isMb (.str z1) := rfl
            rw [em]
            cases b3 : dflt v3 (isMb (.str z1)) with
            | false =>
              have e : wrongF v0 (.str z1) v2 v3 v4 = Str.ofString "default" := by unfold wrongF; rw [if_neg (by rw [b0]; decide), if_neg (by rw [b1]; decide), if_neg (by rw [b2]; decide), if_pos b3]
              rw [e] at qbad
              refine ⟨by show 1 ≤ 1000; decide, fun a na => err_out (x := x) (fun H' d sm nd ed => qbad (lit_ne (by decide +kernel)) H' d (s12.trans sm) (s12.free nd) ed) a na⟩
            | true =>
              refine ⟨v4, rfl, v4, rfl, t4.same s12, fun H4 s4 => ⟨_, rfl, ?_⟩⟩
              have s14 := s12.trans s4
              cases b4 : isAb v4 with
              | false =>
                have e : wrongF v0 (.str z1) v2 v3 v4 = Str.ofString "about" := by unfold wrongF; rw [if_neg (by rw [b0]; decide), if_neg (by rw [b1]; decide), if_neg (by rw [b2]; decide), if_neg (by rw [b3]; decide), if_pos b4]
                rw [e] at qbad
                refine ⟨by show 1 ≤ 1000; decide, fun a na => err_out (x := x) (fun H' d sm nd ed => qbad (lit_ne (by decide +kernel)) H' d (s14.trans sm) (s14.free nd) ed) a na⟩
              | true =>
                have e : wrongF v0 (.str z1) v2 v3 v4 = Str.ofString "" := by unfold wrongF; rw [if_neg (by rw [b0]; decide), if_neg (by rw [b1]; decide), if_neg (by rw [b2]; decide), if_neg (by rw [b3]; decide), if_neg (by rw [b4]; decide)]
                have ex4 := s14 _ _ ex
                refine ⟨_, rfl, _, rfl, _, rfl, _, rfl, _, rfl, by show 5 ≤ sizeLine; decide, fun t nt => ?_⟩
                have nxt : x ≠ t := ne_of_none ex4 nt
                refine ⟨.ref x, rfl, x, C, dx, [], rfl, ?_, T.cl, T.nh, by decide, ?_⟩
                · rw [upd_ne nxt]
                  exact ex4
                · refine qok e _ t (fun b o nb eb => ?_) upd_same ?_
                  · rw [upd_ne nb]
                    exact same_upd nt _ _ (s14 _ _ eb)
                  · rw [upd_ne nxt.symm, upd_same]
          | _ => cases b1
/-! ### the methods -/
end
end WP

set_option Elab.async false
set_option linter.all false
set_option maxRecDepth 100000
set_option maxHeartbeats 4000000
namespace WB
open PySem PySem.Spec PyProof.Rows L2 WG
open TL (tl)
/-! ### signs and names as they have to be -/
theorem cut1 (z : Str) : tl (cutS z (some 1) none) = (tl z).drop 1 := by
  show ((z.cps.toList.drop (HT.sIx z.length 0 (some 1))).take (HT.sIx z.length z.length none - HT.sIx z.length 0 (some 1))) = _
  rw [HT.sIx_none, show HT.sIx z.length 0 (some 1) = min 1 z.length from HT.sIx_nat z.length 0 1]
  have hl : z.length = z.cps.toList.length := TL.len_tl z
  show (z.cps.toList.drop (min 1 z.length)).take (z.length - min 1 z.length) = z.cps.toList.drop 1
  by_cases h : 1 ≤ z.length
  · rw [Nat.min_eq_left h, List.take_of_length_le (by rw [List.length_drop]; omega)]
  · rw [Nat.min_eq_right (by omega), List.drop_of_length_le (by omega), List.drop_of_length_le (by omega), List.take_nil]
structure Sg (n : Nat) (y : Str) : Prop where
  pos : 0 < y.length
  le : y.length ≤ n
  al : ∀ c ∈ tl y, c ∈ tl allSigns
theorem Sg.one {c : Nat} (h : c ∈ tl allSigns) : Sg 1 ⟨#[c]⟩ := ⟨by show 0 < 1; decide, Nat.le_refl _, fun d hd => by
  have hd' : d ∈ [c] := hd
  rw [List.mem_singleton.mp hd']
  exact h⟩
theorem Sg.tx {n : Nat} {y : Str} (h : Sg n y) : Tx n y := ⟨h.le, fun c hc => allSigns_len.2.2 c (h.al c hc)⟩
theorem Sg.nob {n : Nat} {y : Str} (h : Sg n y) : 32 ∉ tl y := fun hc => by
  have := h.al 32 hc
  exact absurd this (by decide +kernel)
theorem Sg.len1 {y : Str} (h : Sg 1 y) : y.length = 1 := by
  have := h.pos
  have := h.le
  omega
theorem join0 : ∀ ys : List Str, (∀ y ∈ ys, y.length = 1) → (Txt.join (Str.ofString "") ys).length = ys.length := by
  intro ys h
  rw [TL.join_eq, TL.len_tl, TL.tl_join]
  have e : tl (Str.ofString "") = [] := by decide +kernel
  rw [e]
  induction ys with
  | nil => rfl
  | cons a r ih =>
    have ha := h a List.mem_cons_self
    rw [TL.len_tl] at ha
    cases r with
    | nil => exact ha
    | cons b s =>
      have ih' := ih fun y hy => h y (List.mem_cons_of_mem _ hy)
      show (tl a ++ ([] ++ TL.joinL [] ((b :: s).map tl))).length = _
      rw [List.nil_append, List.length_append, ha, ih']
      show 1 + (s.length + 1) = s.length + 1 + 1
      omega
theorem sp_tl : tl (Str.ofString " ") = [32] := by decide +kernel
theorem ab_split {z : Str} {ps : List Str} (hl : z.length ≤ 200) (hs : Txt.split z (Str.ofString " ") = ps) (hp : ∀ p ∈ ps, 0 < p.length) : ab z = true := by
  unfold ab
  rw [decide_eq_true hl, hs, Bool.true_and]
  refine Bool.or_eq_true_iff.mpr (.inr ?_)
  cases h : inV (.str (Str.ofString "")) (ps.map V.str) with
  | false => rfl
  | true =>
    exfalso
    unfold inV at h
    obtain ⟨v, hv, e⟩ := List.any_eq_true.mp h
    obtain ⟨p, hpm, rfl⟩ := List.mem_map.mp hv
    have e' : p = Str.ofString "" := eq_of_beq e
    have := hp p hpm
    rw [e'] at this
    exact absurd this (by decide +kernel)
theorem ab_join {ys : List Str} (ne : ys ≠ []) (hl : (Txt.join (Str.ofString " ") ys).length ≤ 200) (h : ∀ y ∈ ys, 0 < y.length ∧ 32 ∉ tl y) : ab (Txt.join (Str.ofString " ") ys) = true :=
  ab_split hl (TL.split_join sp_tl (by decide +kernel) ne fun p hp => (h p hp).2) fun p hp => (h p hp).1
theorem ab_one {z : Str} (h0 : 0 < z.length) (hl : z.length ≤ 200) (h : 32 ∉ tl z) : ab z = true := by
  have := ab_join (ys := [z]) (by simp) hl (fun y hy => by rw [List.mem_singleton.mp hy]; exact ⟨h0, h⟩)
  exact this
theorem nameSigns_in : ∀ y ∈ nameSigns, ∀ c ∈ tl y, c ∈ tl nameSet := by decide +kernel
/-- the first i of n signs of a name -/
structure Lq (n i : Nat) (cs : List Nat) : Prop where
  len : cs.length = i
  al : ∀ c ∈ cs, c ∈ tl nameSet
  hd : cs.take 1 ≠ [45]
  la : i = n → 0 < n → cs.getLast? ≠ some 45
theorem Lq.nil {n : Nat} : Lq n 0 (tl (Str.ofString "")) := by
  have e : tl (Str.ofString "") = [] := by decide +kernel
  rw [e]
  exact ⟨rfl, (fun c hc => by cases hc), by decide, fun h1 h2 => by omega⟩
theorem Lq.snoc {n i : Nat} {cs : List Nat} (h : Lq n i cs) {c : Nat} (hc : c ∈ tl nameSet) (hd : i = 0 ∨ i + 1 = n → c ≠ 45) : Lq n (i + 1) (cs ++ [c]) := by
  refine ⟨by rw [List.length_append, h.len]; rfl, fun d hd' => ?_, ?_, fun h1 _ => ?_⟩
  · rcases List.mem_append.mp hd' with z | z
    · exact h.al d z
    · rw [List.mem_singleton.mp z]
      exact hc
  · cases cs with
    | nil =>
      have e : i = 0 := h.len.symm
      intro z
      exact hd (.inl e) (List.cons.inj z).1
    | cons a r => exact h.hd
  · rw [List.getLast?_concat]
    intro z
    exact hd (.inr h1) (Option.some.inj z)
theorem Lq.fin {n : Nat} {cs : List Nat} (h : Lq n n cs) (h0 : 0 < n) (h1 : n ≤ 10) (t : cs.take 3 ≠ [110, 111, 45]) : nm cs = true := by
  unfold nm
  have e1 : cs ≠ [] := fun e => by
    have := h.len
    rw [e] at this
    exact absurd this (by simp; omega)
  have e2 : cs.length ≤ 10 := by rw [h.len]; exact h1
  rw [decide_eq_true e1, decide_eq_true e2, decide_eq_false h.hd, decide_eq_false (h.la rfl h0), decide_eq_false t, List.all_eq_true.mpr (fun c hc => decide_eq_true (h.al c hc))]
  rfl
theorem Lq.no {n : Nat} {cs : List Nat} (h : Lq n n cs) (h0 : 0 < n) (h1 : n ≤ 10) (t : cs.take 3 = [110, 111, 45]) : nm ([109] ++ cs.drop 1) = true := by
  have m : 109 ∈ tl nameSet := by decide +kernel
  have hl := h.len
  have la := h.la rfl h0
  match cs, h, hl, la, t with
  | [], _, _, _, t => cases t
  | [a], _, _, _, t => cases t
  | a :: b :: r, h, hl, la, t =>
    refine Lq.fin (n := n) ⟨hl, fun d hd' => ?_, by show [109] ≠ [45]; decide, fun _ _ z => la ?_⟩ h0 h1 (fun z => by cases z)
    · rcases List.mem_cons.mp hd' with z | z
      · rw [z]
        exact m
      · exact h.al d (List.mem_cons_of_mem _ z)
    · have e1 : ([109] ++ (a :: b :: r).drop 1).getLast? = (b :: r).getLast? := by
        show (109 :: b :: r).getLast? = _
        rw [List.getLast?_cons_cons]
      rw [List.getLast?_cons_cons, ← e1]
      exact z
section
variable {P : Program} {w : World} {K : PySem.W.Frag} {mg : Str → Option Value} {base : Heap}
def spNm : Sp := fun vs H Q _ => ∃ p : Addr, vs = [.ref p] ∧ Pot H p ∧ ∀ H' (y : Str), But p H H' → Pot H' p → nm (tl y) = true → Q (.str y) H'
theorem ok_nm {f fT : Addr} {fd fdT : FuncData} {k : Nat} (F : Fun K "_law_name" "_law_name" sName f fd) (T : Df K mg "_law_take" sTake ["_law_pot_here", "_law_room"] fT fdT) (mL : mg "len" = none) (mR : mg "range" = none) :
    FnOk P w K mg base CX0 (k + 2) f fd ["_law_pot_here"] spNm := by
  have GT : FnOk P w K mg base CX0 (k + 1) fT fdT ["_law_pot_here", "_law_room"] spTake := ok_take T.F
  refine F.ok scName (fun vs H Q E h => ?_) (fun cdv A outer s H vs Q E hr h => ?_)
  · obtain ⟨p, rfl, _⟩ := h
    rfl
  · obtain ⟨p, rfl, hp, q⟩ := h
    refine ⟨_, pss_cons (ps_set (i := 1) scName.nd rfl (.inl rfl) (pe_ix ix_list (pe_lst (pa_cons pe_str (pa_cons pe_str (pa_cons pe_str pa_nil)))) (pe_call GT hr (by rfl) T.g T.F.kp T.b .nil pass0 (pa_cons (pv 0) (pa_cons pe_int pa_nil))) (fun _ _ => rfl)))
      (pss_cons (ps_set (i := 2) scName.nd rfl (.inl rfl) (pe_op op_add pe_int (pe_call GT hr (by rfl) T.g T.F.kp T.b .nil pass0 (pa_cons (pv 0) (pa_cons (pe_ix ix_list (pe_lst (pa_cons pe_int (pa_cons pe_int pa_nil)))
        (pe_call GT hr (by rfl) T.g T.F.kp T.b .nil pass0 (pa_cons (pv 0) (pa_cons pe_int pa_nil))) (fun _ _ => rfl)) pa_nil)))))
      (pss_cons (ps_set (i := 3) scName.nd rfl (.inl rfl) pe_str)
      (pss_cons (ps_for PassesOwn.never rfl (pi_range1 rfl mR (pa_cons (pv 2) pa_nil)) (pg_name (i := 4) scName.nd rfl (Or.inl rfl))
        (pss_cons (ps_set (i := 5) scName.nd rfl (.inl rfl) (pe_ix ix_str (pv 1) (pe_call GT hr (by rfl) T.g T.F.kp T.b .nil pass0 (pa_cons (pv 0) (pa_cons (pe_callB call_len_str (by rfl) mL PySem.boot_len (pa_cons (pv 1) pa_nil)) pa_nil))) (fun _ _ => rfl)))
        (pss_cons (ps_if (PW.pt (pw_and (pt_cmpR op_eq (pv 5) pe_str (nomark _)) (pw_and1 (pt_cmpR op_in_seq (pv 4) (pe_tup (pa_cons pe_int (pa_cons (pe_op op_sub (pv 2) pe_int) pa_nil))) (by rfl)))))
          (pss_one (ps_set (i := 5) scName.nd rfl (.inl rfl) pe_str)) pss_nil)
        (pss_one (ps_set (i := 3) scName.nd rfl (.inl rfl) (pe_op op_add_str (pv 3) (pv 5)))))))
      (pss_cons (ps_if (pt_cmpR op_eq (pe_slice sl_str (pv 3) po_none (po_some pe_int)) pe_str (nomark _))
        (pss_one (ps_set (i := 3) scName.nd rfl (.inl rfl) (pe_op op_add_str pe_str (pe_slice sl_str (pv 3) (po_some pe_int) po_none)))) pss_nil)
      (pss_one (ps_ret (pv 3))))))), ?_⟩
    refine ⟨by decide +kernel, fun l1 n1 => ?_⟩
    have p1 := hp.new (o := .lst (nameSigns.map V.str)) n1
    have nl1 := hp.ne n1
    refine ⟨.ref p, rfl, p, 3, rfl, p1, by decide, by decide, fun H2 d2 b2 p2 d20 d21 => ?_⟩
    obtain ⟨z, hzm, hze⟩ := at_strs nameSigns d2 d20 (by show d2 < 3; exact d21)
    obtain ⟨hz0, hz1, hz2⟩ := nameSigns_len z hzm
    refine ⟨l1, _, d2, .str z, rfl, rfl, SqL.of (b2 _ _ nl1.symm upd_same), hze, .ref p, rfl, by decide +kernel, fun l2 n2 => ?_⟩
    have p3 := p2.new (o := .lst ([(3 : Int), 10].map V.int)) n2
    have nl2 := p2.ne n2
    refine ⟨.ref p, rfl, p, 2, rfl, p3, by decide, by decide, fun H4 d4 b4 p4 d40 d41 => ?_⟩
    obtain ⟨mo, mom, moe⟩ := at_ints [(3 : Int), 10] d4 d40 (by show d4 < 2; exact d41)
    have hmo : 0 < mo ∧ mo ≤ 10 := (by decide : ∀ y ∈ [(3 : Int), 10], 0 < y ∧ y ≤ 10) mo mom
    refine ⟨l2, _, d4, .int mo, rfl, rfl, SqL.of (b4 _ _ nl2.symm upd_same), moe, p, mo, rfl, p4, hmo.1, by omega, fun H5 d5 b5 p5 d50 d51 => ?_⟩
    refine ⟨1, d5, rfl, rfl, ?_⟩
    have bb : But p H H5 := ((((But.new n1).trans b2).trans (But.new n2)).trans b4).trans b5
    have hzn := nameSigns_in z hzm
    have e101 : (101 : Nat) ∈ tl nameSet := by decide +kernel
    refine ⟨.int (1 + d5), rfl, _, rfl, by omega, by omega, for_range (lo := 0) (n := (1 + d5).toNat) (fun i σ H' => But p H5 H' ∧ Pot H' p ∧ ∃ (x : Str) (x4 x5 : Option V), σ = [some (.ref p), some (.str z), some (.int (1 + d5)), some (.str x), x4, x5] ∧ Lq (1 + d5).toNat i (tl x))
      ⟨But.refl _ _, p5, Str.ofString "", none, none, rfl, Lq.nil⟩ ?_ ?_⟩
    · rintro i σ H6 hi ⟨b6, p6, x, x4, x5, rfl, hx⟩
      have hzl : z.length ≤ sizeLine := Nat.le_trans hz1 (by decide)
      refine ⟨.str z, rfl, .ref p, rfl, .str z, rfl, z, rfl, hzl, p, z.length, rfl, p6, by omega, by omega, fun H7 j b7 p7 j0 j1 => ?_⟩
      obtain ⟨n, rfl⟩ := Int.eq_ofNat_of_zero_le j0
      have hn : n < z.cps.toList.length := by
        have e : z.cps.toList.length = z.length := by simp [Str.length]
        omega
      have cm : z.cps.toList[n] ∈ tl nameSet := hzn _ (List.getElem_mem hn)
      have lx : x.length = i := by
        rw [TL.len_tl]
        exact hx.len
      refine ⟨z, n, z.cps.toList[n], rfl, rfl, hzl, atI_nat (List.getElem?_eq_getElem hn), ?_⟩
      have fin : ∀ (H8 : Hp) (c : Nat), But p H7 H8 → Pot H8 p → c ∈ tl nameSet → (i = 0 ∨ i + 1 = (1 + d5).toNat → c ≠ 45) → (tAsg (tOp (fun x y H Q => ∃ i j, x = .str i ∧ y = .str j ∧ i.length + j.length ≤ sizeLine ∧ Q (.str (i ++ j)) H) (tVar 3) (tVar 5)) (gName 3)) { nx := fun σ H' => But p H5 H' ∧ Pot H' p ∧ ∃ (x : Str) (x4 x5 : Option V), σ = [some (.ref p), some (.str z), some (.int (1 + d5)), some (.str x), x4, x5] ∧ Lq (1 + d5).toNat (i + 1) (tl x), rt := Q }
          [some (.ref p), some (.str z), some (.int (1 + d5)), some (.str x), some (.int (0 + (i : Int))), some (.str ⟨#[c]⟩)] H8 := by
        intro H8 c b8 p8 hc hd
        refine ⟨_, rfl, _, rfl, x, ⟨#[c]⟩, rfl, rfl, ?_, (b6.trans b7).trans b8, p8, x ++ ⟨#[c]⟩, _, _, rfl, ?_⟩
        · show x.length + 1 ≤ _
          exact Nat.le_of_lt (small1000 (by omega))
        · rw [TL.tl_append]
          exact hx.snoc hc hd
      refine ⟨_, rfl, rfl, _, rfl, ite2 (fun e => ?_) (fun e => ?_)⟩
      · refine ⟨_, rfl, .int (1 + d5), rfl, _, _, rfl, rfl, by show 2 ≤ sizeLine; decide, fun t nt => ?_⟩
        refine ⟨t, _, rfl, .inr (SqT.of upd_same), rfl, rfl, _, rfl, ite2 (fun e2 => ?_) (fun e2 => ?_)⟩
        · exact fin _ 101 (But.new nt) (p7.new nt) e101 (fun _ => by decide)
        · refine fin _ _ (But.new nt) (p7.new nt) cm (fun hi' => ?_)
          exfalso
          refine e2 ?_
          show (eqV (.int 0) (.int (0 + (i : Int))) || (eqV (.int (1 + d5 - 1)) (.int (0 + (i : Int))) || false)) = true
          rcases hi' with z0 | z1
          · rw [z0]
            rfl
          · have e5 : (1 + d5 - 1 : Int) = 0 + (i : Int) := by omega
            rw [e5]
            show (_ || (((0 + (i : Int)) == (0 + (i : Int))) || false)) = true
            rw [beq_self_eq_true, Bool.true_or, Bool.or_true]
      · refine fin _ _ (But.refl _ _) p7 cm (fun _ z45 => e ?_)
        rw [z45]
        decide +kernel
    · rintro σ H6 ⟨b6, p6, x, x4, x5, rfl, hx⟩
      have lx : x.length = (1 + d5).toNat := by
        rw [TL.len_tl]
        exact hx.len
      have hxl : x.length ≤ 10 := by omega
      refine ⟨_, rfl, 3, rfl, x, rfl, Nat.le_trans hxl (by decide), rfl, _, rfl, ite2 (fun e => ?_) (fun e => ?_)⟩
      · have e3 : (tl x).take 3 = [110, 111, 45] := by
          rw [dec_lit _ "no-" (l := [110, 111, 45]) (by decide +kernel)] at e
          rw [← cut3 x]
          exact of_decide_eq_true e
        refine ⟨_, rfl, 1, rfl, x, rfl, Nat.le_trans hxl (by decide), _, _, rfl, rfl, ?_, _, rfl, q _ _ (bb.trans b6) p6 ?_⟩
        · have := cutS_length x (some 1) none
          exact Nat.le_of_lt (small1000 (by rw [show (Str.ofString "m").length = 1 from by decide +kernel]; omega))
        · rw [TL.tl_append, show tl (Str.ofString "m") = [109] from by decide +kernel, cut1 x]
          exact hx.no (by omega) (by omega) e3
      · refine ⟨_, rfl, q _ _ (bb.trans b6) p6 (hx.fin (by omega) (by omega) fun w => e ?_)⟩
        rw [dec_lit _ "no-" (l := [110, 111, 45]) (by decide +kernel)]
        refine decide_eq_true ?_
        rw [cut3 x]
        exact w
def spSg : Sp := fun vs H Q _ => ∃ (p : Addr) (m : Int), vs = [.ref p, .int m] ∧ Pot H p ∧ 0 < m ∧ m ≤ 100 ∧ ∀ H' (y : Str), But p H H' → Pot H' p → Sg m.toNat y → Q (.str y) H'
theorem ok_sg {f fT : Addr} {fd fdT : FuncData} {k : Nat} (F : Fun K "_law_signs" "_law_signs" sSigns f fd) (T : Df K mg "_law_take" sTake ["_law_pot_here", "_law_room"] fT fdT) (mL : mg "len" = none) (mR : mg "range" = none) :
    FnOk P w K mg base CX0 (k + 2) f fd ["_law_pot_here", "_law_most"] spSg := by
  have GT : FnOk P w K mg base CX0 (k + 1) fT fdT ["_law_pot_here", "_law_room"] spTake := ok_take T.F
  refine F.ok scSigns (fun vs H Q E h => ?_) (fun cdv A outer s H vs Q E hr h => ?_)
  · obtain ⟨p, m, rfl, _⟩ := h
    rfl
  · obtain ⟨p, m, rfl, hp, hm0, hm1, q⟩ := h
    refine ⟨_, pss_cons (ps_set (i := 2) scSigns.nd rfl (.inr rfl) pe_str) (pss_one (ps_ret (pe_join pe_str (pe_lc (own := [("_law_k", 3)]) (g := gName 3) (tt := tYes) rfl scSigns.nd
      (pi_range1 rfl mR (pa_cons (pe_op op_add pe_int (pe_call GT hr (by rfl) T.g T.F.kp T.b .nil pass0 (pa_cons (pv 0) (pa_cons (pv 1) pa_nil)))) pa_nil))
      (blkOk_by (N := ["_law_pot_here", "_law_most", "_law_signs_here", "_law_k"]) (sc := defScope sSigns) (by decide +kernel))
      (fun _ _ _ _ _ => pg_name (i := 3) scSigns.nd rfl (Or.inl rfl)) (fun _ _ _ _ _ => pts_nil)
      (fun _ _ _ _ _ => pe_ix ix_str (pv 2) (pe_call GT hr (by rfl) T.g T.F.kp T.b .nil pass0 (pa_cons (pv 0) (pa_cons (pe_callB call_len_str (by rfl) mL PySem.boot_len (pa_cons (pv 2) pa_nil)) pa_nil))) (fun _ _ => rfl)))))), ?_⟩
    obtain ⟨hz0, hz1, hz2⟩ := allSigns_len
    refine ⟨⟨_, rfl⟩, .ref p, rfl, .int m, rfl, p, m, rfl, hp, hm0, by omega, fun H1 d b1 p1 d0 d1 => ?_⟩
    refine ⟨1, d, rfl, rfl, 1 + d, rfl, by omega, by omega, fun T' nT => ?_⟩
    have npT : p ≠ T' := p1.ne nT
    refine lc_range (lo := 0) (n := (1 + d).toNat) (fun i Hc => But p H1 Hc ∧ Pot Hc p ∧ ∃ ys : List Str, Hc T' = some (.lst (ys.map V.str)) ∧ ys.length = i ∧ ∀ y ∈ ys, Sg 1 y)
      ⟨But.new nT, p1.new nT, [], upd_same, rfl, fun y hy => by cases hy⟩ (fun i Hc hi ⟨bc, pc, ys, eT, el, e1⟩ => ?_) (fun Hc ⟨bc, pc, ys, eT, el, e1⟩ => ?_)
    · refine ⟨rfl, ?_⟩
      have hzl : allSigns.length ≤ sizeLine := Nat.le_trans hz1 (by decide)
      refine ⟨.str allSigns, rfl, .ref p, rfl, .str allSigns, rfl, allSigns, rfl, hzl, p, allSigns.length, rfl, pc, by omega, by omega, fun H4 j b4 p4 j0 j1 => ?_⟩
      obtain ⟨n, rfl⟩ := Int.eq_ofNat_of_zero_le j0
      have hn : n < allSigns.cps.toList.length := by
        have e : allSigns.cps.toList.length = allSigns.length := by simp [Str.length]
        omega
      have eT4 : H4 T' = some (.lst (ys.map V.str)) := b4 T' _ npT.symm eT
      refine ⟨allSigns, n, allSigns.cps.toList[n], rfl, rfl, hzl, atI_nat (List.getElem?_eq_getElem hn), ys.map V.str, eT4, ?_, ?_, ?_, ys ++ [⟨#[allSigns.cps.toList[n]]⟩], ?_, ?_, ?_⟩
      · rw [List.length_map, el]
        exact small1000 (by omega)
      · exact fun b o nb e => by
          rw [upd_ne (ne_of_none e nT)]
          exact b4 b o nb (bc b o nb e)
      · obtain ⟨x, y, e, h1, h2⟩ := p4
        refine ⟨x, y, ?_, h1, h2⟩
        rw [upd_ne npT]
        exact e
      · rw [upd_same, List.map_append]
        rfl
      · rw [List.length_append, el]
        rfl
      · intro y hy
        rcases List.mem_append.mp hy with hy | hy
        · exact e1 y hy
        · rw [List.mem_singleton.mp hy]
          exact Sg.one (List.getElem_mem hn)
    · have e0 : (Str.ofString "").length = 0 := by decide +kernel
      have es := sum_most 1 ys (fun y hy => (e1 y hy).tx)
      refine ⟨_, T', ys, rfl, rfl, .inl (SqL.of eT), ?_, q _ _ (b1.trans bc) pc ?_⟩
      · rw [e0]
        omega
      · have jl := join0 ys (fun y hy => (e1 y hy).len1)
        refine ⟨by rw [jl]; omega, by rw [jl]; omega, fun c hc => ?_⟩
        rw [TL.join_eq, TL.tl_join] at hc
        rcases mem_joinL _ _ c hc with h1 | ⟨p', hp', h1⟩
        · rw [show tl (Str.ofString "") = [] from by decide +kernel] at h1
          cases h1
        · obtain ⟨y, hy, rfl⟩ := List.mem_map.mp hp'
          exact (e1 y hy).al c h1
def spAb : Sp := fun vs H Q _ => ∃ p : Addr, vs = [.ref p] ∧ Pot H p ∧ ∀ H' (y : Str), But p H H' → Pot H' p → Tx 300 y → ab y = true → Q (.str y) H'
theorem ok_ab {f fT fS : Addr} {fd fdT fdS : FuncData} {k : Nat} (F : Fun K "_law_about" "_law_about" sAbout f fd) (T : Df K mg "_law_take" sTake ["_law_pot_here", "_law_room"] fT fdT) (S : Df K mg "_law_signs" sSigns ["_law_pot_here", "_law_most"] fS fdS)
    (mL : mg "len" = none) (mR : mg "range" = none) : FnOk P w K mg base CX0 (k + 3) f fd ["_law_pot_here"] spAb := by
  have GT : FnOk P w K mg base CX0 (k + 2) fT fdT ["_law_pot_here", "_law_room"] spTake := ok_take T.F
  have GS : FnOk P w K mg base CX0 (k + 2) fS fdS ["_law_pot_here", "_law_most"] spSg := ok_sg S.F T mL mR
  refine F.ok scAbout (fun vs H Q E h => ?_) (fun cdv A outer s H vs Q E hr h => ?_)
  · obtain ⟨p, rfl, _⟩ := h
    rfl
  · obtain ⟨p, rfl, hp, q⟩ := h
    refine ⟨_, pss_cons (ps_set (i := 1) scAbout.nd rfl (.inl rfl) (pe_call GT hr (by rfl) T.g T.F.kp T.b .nil pass0 (pa_cons (pv 0) (pa_cons pe_int pa_nil))))
      (pss_cons (ps_if (pt_cmpR op_eq (pv 1) pe_int (nomark _)) (pss_one (ps_ret pe_str)) pss_nil)
      (pss_cons (ps_if (pt_cmpR op_eq (pv 1) pe_int (nomark _)) (pss_one (ps_ret (pe_op op_mul_str (pe_call GS hr (by rfl) S.g S.F.kp S.b .nil pass0 (pa_cons (pv 0) (pa_cons pe_int pa_nil))) pe_int))) pss_nil)
      (pss_one (ps_ret (pe_join pe_str (pe_lc (own := [("_law_k", 2)]) (g := gName 2) (tt := tYes) rfl scAbout.nd
      (pi_range1 rfl mR (pa_cons (pe_op op_add pe_int (pe_call GT hr (by rfl) T.g T.F.kp T.b .nil pass0 (pa_cons (pv 0) (pa_cons pe_int pa_nil)))) pa_nil))
      (blkOk_by (N := ["_law_pot_here", "_law_way", "_law_k"]) (sc := defScope sAbout) (by decide +kernel))
      (fun _ _ _ _ _ => pg_name (i := 2) scAbout.nd rfl (Or.inl rfl)) (fun _ _ _ _ _ => pts_nil)
      (fun _ _ _ _ _ => pe_call GS hr (by rfl) S.g S.F.kp S.b .nil pass0 (pa_cons (pv 0) (pa_cons pe_int pa_nil))))))))), ?_⟩
    refine ⟨.ref p, rfl, p, 6, rfl, hp, by decide, by decide, fun H1 d1 b1 p1 d10 d11 => ?_⟩
    refine ⟨_, rfl, rfl, _, rfl, ite2 (fun e => q _ _ b1 p1 (Tx.lit "" _ (by decide +kernel) (by decide +kernel)) (by decide +kernel)) (fun e => ?_)⟩
    refine ⟨_, rfl, rfl, _, rfl, ite2 (fun e => ?_) (fun e => ?_)⟩
    · refine ⟨.ref p, rfl, p, 1, rfl, p1, by decide, by decide, fun H2 y b2 p2 hy => ?_⟩
      have hy1 : y.length ≤ 1 := hy.le
      have hy0 : 0 < y.length := hy.pos
      exact ⟨y, 200, rfl, rfl, by decide, by omega, fun z hz hc => q _ _ (b1.trans b2) p2 ⟨by omega, fun c h => hy.tx.pl c (hc c h)⟩ (ab_one (by omega) (by omega) (fun h => hy.nob (hc _ h)))⟩
    · refine ⟨⟨_, rfl⟩, .ref p, rfl, p, 12, rfl, p1, by decide, by decide, fun H2 d2 b2 p2 d20 d21 => ?_⟩
      refine ⟨1, d2, rfl, rfl, 1 + d2, rfl, by omega, by omega, fun T' nT => ?_⟩
      have npT : p ≠ T' := p2.ne nT
      refine lc_range (lo := 0) (n := (1 + d2).toNat) (fun i Hc => But p H2 Hc ∧ Pot Hc p ∧ ∃ ys : List Str, Hc T' = some (.lst (ys.map V.str)) ∧ ys.length = i ∧ ∀ y ∈ ys, Sg 15 y)
        ⟨But.new nT, p2.new nT, [], upd_same, rfl, fun y hy => by cases hy⟩ (fun i Hc hi ⟨bc, pc, ys, eT, el, e1⟩ => ?_) (fun Hc ⟨bc, pc, ys, eT, el, e1⟩ => ?_)
      · refine ⟨rfl, ?_⟩
        refine ⟨.ref p, rfl, p, 15, rfl, pc, by decide, by decide, fun H4 y b4 p4 hy => ?_⟩
        have eT4 : H4 T' = some (.lst (ys.map V.str)) := b4 T' _ npT.symm eT
        refine ⟨ys.map V.str, eT4, ?_, ?_, ?_, ys ++ [y], ?_, ?_, ?_⟩
        · rw [List.length_map, el]
          exact small1000 (by omega)
        · exact fun b o nb e => by
            rw [upd_ne (ne_of_none e nT)]
            exact b4 b o nb (bc b o nb e)
        · obtain ⟨x, y, e, h1, h2⟩ := p4
          refine ⟨x, y, ?_, h1, h2⟩
          rw [upd_ne npT]
          exact e
        · rw [upd_same, List.map_append]
          rfl
        · rw [List.length_append, el]
          rfl
        · intro z hz
          rcases List.mem_append.mp hz with hz | hz
          · exact e1 z hz
          · rw [List.mem_singleton.mp hz]
            exact hy
      · have e0 : (Str.ofString " ").length = 1 := by decide +kernel
        have es := sum_most 15 ys (fun y hy => (e1 y hy).tx)
        have tj : Tx 200 (Txt.join (Str.ofString " ") ys) := by
          have l1 := StrLaws.join_length_le (Str.ofString " ") ys
          have tb := Tx.join (n := 300) (Tx.lit " " 1 (by decide +kernel) (by decide +kernel)) (fun y hy => (e1 y hy).tx) (by omega)
          refine ⟨?_, tb.pl⟩
          rw [TL.join_eq]
          rw [e0] at l1
          omega
        refine ⟨_, T', ys, rfl, rfl, .inl (SqL.of eT), ?_, q _ _ ((b1.trans b2).trans bc) pc (tj.mono (by decide)) (ab_join (fun z => by rw [z] at el; simp at el; omega) tj.le (fun y hy => ⟨(e1 y hy).pos, (e1 y hy).nob⟩))⟩
        rw [e0]
        omega
end
end WB

set_option Elab.async false
set_option linter.all false
set_option maxRecDepth 100000
set_option maxHeartbeats 4000000
namespace WB
open PySem PySem.Spec PyProof.Rows L2 WG
open TL (tl)
/-! ### == where one side is an instance with an own == -/
/-- a value, and its class as it stands in the heap -/
inductive OV (H : Hp) : V → Value → Prop
  | non : OV H .non (.type "NoneType")
  | bl (b : Bool) : OV H (.bl b) (.type "bool")
  | int (i : Int) : OV H (.int i) (.type "int")
  | str (z : Str) : OV H (.str z) (.type "str")
  | lst {a : Addr} {xs : List V} (e : H a = some (.lst xs)) : OV H (.ref a) (.type "list")
  | tup {a : Addr} {xs : List V} (e : H a = some (.tup xs)) : OV H (.ref a) (.type "tuple")
  | ins {a C dx : Addr} {fs : List (Str × V)} (e : H a = some (.ins C dx fs)) : OV H (.ref a) (.ref C)
section
variable {X : Cx} {pins : List (Addr × Obj)} {σ : L2.St} {H : Hp} {s : Shared} {A : Around} {n : Nat}
theorem look_obj {M : Model} {h : Heap} {a : Addr} {o : Obj} {c : Value} (e : h.get? a = some o) (k : o.cls = c) : PySem.W.Looks M h (typeOf (.ref a)) c := by
  subst k
  exact (PySem.W.Looks.ld e).andThen .now
theorem OV.looks {y : V} {v t : Value} (I : Inv X pins σ H s) (r : RelV y v) (o : OV H y t) : PySem.W.Looks (model X.prog X.w) s.heap (typeOf v) t := by
  cases o with
  | non => cases r; exact PySem.W.Looks.of_pure rfl
  | bl b => cases r; exact PySem.W.Looks.of_pure rfl
  | int i => obtain ⟨_, rfl⟩ := r; exact PySem.W.Looks.of_pure rfl
  | str z => obtain ⟨_, rfl⟩ := r; exact PySem.W.Looks.of_pure rfl
  | lst e =>
    cases r
    obtain ⟨its, _, pl, _⟩ := I.list (SqL.of e)
    obtain ⟨o, h1, h2⟩ := pl.isList.typeIs
    exact look_obj h1 h2
  | tup e =>
    cases r
    obtain ⟨its, _, pl, _⟩ := I.tuple (SqT.of e)
    obtain ⟨o, h1, h2⟩ := pl.typeIs
    exact look_obj h1 h2
  | ins e =>
    cases r
    obtain ⟨m, J, _⟩ := ins_get I.hok e
    obtain ⟨_, J, _⟩ := J.look
    exact J.type
/-- the own def is called -/
theorem run_own {f : Addr} {fd : FuncData} {ps : List Str} {sp : Sp} {xs : List V} {us : List Value} {b : V} (F : FnOk X.prog X.w X.K X.mg X.base CX0 n f fd ps sp) (hb : Binds X.K fd ps []) (sb : Sub X n A) (I : Inv X pins σ H s) (r : Vals xs us) (h : sp xs H (fun v H' => v = b ∧ H' = H) E0) :
    wpAny (model X.prog X.w) A (call (.ref f) us) (fun w s' => RelV b w ∧ Inv X pins σ H s') X.xe s := by
  have e0 : Env0 X.prog X.w X.K X.mg X.base A X.stack s H := by
    have e := I.env0
    exact ⟨by rw [sb.fr]; exact e.frames, e.mod, e.bs, e.bsz, e.funs, e.frf, e.hok, e.bare⟩
  have hl := F.len _ _ _ _ h
  have bb := hb s us I.kIn (by rw [List.append_nil, ← r.length]; exact hl)
  rw [List.append_nil] at bb
  refine wpAny_call (codeAny_mono (F.run A X.stack s H ⟨us, []⟩ us xs _ E0 sb.room e0 bb r h) fun q s' got => ?_)
  cases q with
  | error e => exact got.elim
  | ok fl =>
    cases fl with
    | ret w =>
      obtain ⟨z, H', I', rz, ez, eh⟩ := I.after got
      subst ez eh
      exact ⟨rz, I'⟩
    | next => exact got.elim
    | brk => exact got.elim
    | cont => exact got.elim
/-- what is known of an own == -/
structure OwnE (X : Cx) (n : Nat) (C f : Addr) (fd : FuncData) (sp : Sp) : Prop where
  F : FnOk X.prog X.w X.K X.mg X.base CX0 n f fd ["self", "other"] sp
  hb : Binds X.K fd ["self", "other"] []
  hs : PySem.W.findIn X.K (.ref C) "__eq__" = some (some (.ref f))
  hf : PySem.W.isFn X.K (.ref f) = true
theorem rc_left {C f a dx : Addr} {fd : FuncData} {sp : Sp} {fs : List (Str × V)} {y : V} {t v : Value} {b : Bool} (O : OwnE X n C f fd sp) (ha : H a = some (.ins C dx fs)) (ov : OV H y t) (nf : PySem.W.notFirst X.K C t = true) (h : sp [.ref a, y] H (fun v H' => v = .bl b ∧ H' = H) E0)
    (sb : Sub X n A) (I : Inv X pins σ H s) (ry : RelV y v) : wpAny (model X.prog X.w) A (richCompare .Eq (.ref a) v) (fun r s' => r = .bool b ∧ Inv X pins σ H s') X.xe s := by
  obtain ⟨mA, J, _⟩ := ins_get I.hok ha
  obtain ⟨od, J, _⟩ := J.look
  obtain ⟨m, hF⟩ := I.fr
  refine PySem.W.cmp_K (op := .Eq) (tb := t) sb.room.units0 hF I.ok.mod.kin J (ov.looks I ry) nf O.hs O.hf ?_
  refine wpAny_mono (run_own O.F O.hb sb I (show Vals [V.ref a, y] [Value.ref a, v] from .cons rfl (.cons ry .nil)) h) (fun r s' ⟨z1, z2⟩ => ?_) fun _ _ e => e
  cases z1
  exact ⟨rfl, z2⟩
/-! ### what a built-in says of an instance -/
theorem isi_own {M : Model} {E : Value → Shared → Prop} {K : PySem.W.Frag} {C b : Addr} {ob : Obj} {T : String} {Q : Bool → Shared → Prop} (kin : K.In s.heap) (sub : PySem.W.subIn K (.ref C) (.type T) = some false) (hb : s.heap.get? b = some ob) (hc : ob.cls = .ref C) (q : Q false s) : wpAny M A (isInstance (.ref b) (.type T)) Q E s := by
  unfold isInstance
  exact wpAny_bind ((look_obj hb hc).here ((PySem.W.looks_subIn kin sub).here q))
end
section
variable {prog : Program} {w : World} {A : Around} {E : Value → Shared → Prop} {s : Shared} {K : PySem.W.Frag} {C b : Addr} {ob : Obj} {Q : Value → Shared → Prop}
theorem list_no {l : Addr} {o : Obj} (kin : K.In s.heap) (sub : PySem.W.subIn K (.ref C) (.type "list") = some false) (hl : s.heap.get? l = some o) (hlc : o.cls = .type "list") (hb : s.heap.get? b = some ob) (hc : ob.cls = .ref C) (q : Q .notImplemented s) :
    wpAny (model prog w) A (call (.builtin "list.__eq__") [.ref l, .ref b]) Q E s := by
  refine GQ.call_here F.slot_list_eq ⟨_, hl, hlc⟩ F.entry_list_eq (F.args_list_eq_2 _ _) ?_
  show wpAny _ _ (isInstance (.ref b) (.type "list") >>= _) _ _ _
  refine wpAny_bind (isi_own kin sub hb hc ?_)
  exact wpAny_pure q
theorem tuple_no {l : Addr} {o : Obj} (kin : K.In s.heap) (sub : PySem.W.subIn K (.ref C) (.type "tuple") = some false) (hl : s.heap.get? l = some o) (hlc : o.cls = .type "tuple") (hb : s.heap.get? b = some ob) (hc : ob.cls = .ref C) (q : Q .notImplemented s) :
    wpAny (model prog w) A (call (.builtin "tuple.__eq__") [.ref l, .ref b]) Q E s := by
  refine GQ.call_here F.slot_tuple_eq ⟨_, hl, hlc⟩ F.entry_tuple_eq (F.args_tuple_eq_2 _ _) ?_
  show wpAny _ _ (isInstance (.ref b) (.type "tuple") >>= _) _ _ _
  refine wpAny_bind (isi_own kin sub hb hc ?_)
  exact wpAny_pure q
theorem none_no (q : Q .notImplemented s) : wpAny (model prog w) A (call (.builtin "NoneType.__eq__") [.none, .ref b]) Q E s :=
  call_gives F.slot_NoneType_eq rfl F.entry_NoneType_eq (F.args_NoneType_eq_2 _ _) (PySem.SeqAt.NoneType___eq___none_ref_0 b) q
theorem str_no {z : Str} {t : Tok} {dx : Addr} (hb : s.heap.get? b = some (PySem.W.instObj C dx)) (q : Q .notImplemented s) : wpAny (model prog w) A (call (.builtin "str.__eq__") [.str z t, .ref b]) Q E s := by
  refine GQ.call_here F.slot_str_eq (typeIs_str _ _ _) F.entry_str_eq (F.args_str_eq_2 _ _) ?_
  obtain ⟨hp, g, d, tk, os⟩ := s
  wp_walk using wpAny_load hb
  exact q
theorem int_no {z : Int} {t : Tok} {dx : Addr} (hb : s.heap.get? b = some (PySem.W.instObj C dx)) (q : Q .notImplemented s) : wpAny (model prog w) A (call (.builtin "int.__eq__") [.int z t, .ref b]) Q E s := by
  refine GQ.call_here F.slot_int_eq rfl F.entry_int_eq (F.args_int_eq_2 _ _) ?_
  obtain ⟨hp, g, d, tk, os⟩ := s
  wp_walk using wpAny_load hb
  exact q
theorem bool_no {z : Bool} {dx : Addr} (hb : s.heap.get? b = some (PySem.W.instObj C dx)) (q : Q .notImplemented s) : wpAny (model prog w) A (call (.builtin "int.__eq__") [.bool z, .ref b]) Q E s := by
  refine GQ.call_here F.slot_bool_eq rfl F.entry_int_eq (F.args_int_eq_2 _ _) ?_
  obtain ⟨hp, g, d, tk, os⟩ := s
  wp_walk using wpAny_load hb
  exact q
end
/-- a built-in on the left, an instance on the right -/
def plainT : List String := ["NoneType", "bool", "int", "str", "list", "tuple"]
section
variable {X : Cx} {pins : List (Addr × Obj)} {σ : L2.St} {H : Hp} {s : Shared} {A : Around} {n : Nat}
theorem left_no {C a dx : Addr} {fs : List (Str × V)} {y : V} {v : Value} {T : String} {Q : Option Value → Shared → Prop} (sub : ∀ T ∈ plainT, PySem.W.subIn X.K (.ref C) (.type T) = some false) (ha : H a = some (.ins C dx fs)) (ov : OV H y (.type T)) (I : Inv X pins σ H s) (ry : RelV y v) (q : Q none s) :
    wpAny (model X.prog X.w) A (tryCompare v "__eq__" (.ref a)) Q X.xe s ∧ T ∈ plainT := by
  obtain ⟨_, _, _, hb, _⟩ := (show ObjOk _ _ H s.heap a (.ins C dx fs) from I.hok a _ ha)
  have kin := I.kIn
  cases ov with
  | non =>
    cases ry
    exact ⟨wpAny_tryCompare_declines (show s.TypeIs .none "NoneType" from rfl) F.slot_NoneType_eq (none_no ⟨rfl, q⟩), by decide⟩
  | bl b =>
    cases ry
    exact ⟨wpAny_tryCompare_declines (show s.TypeIs (.bool b) "bool" from rfl) F.slot_bool_eq (bool_no hb ⟨rfl, q⟩), by decide⟩
  | int i =>
    obtain ⟨t, rfl⟩ := ry
    exact ⟨wpAny_tryCompare_declines (show s.TypeIs (.int i t) "int" from rfl) F.slot_int_eq (int_no hb ⟨rfl, q⟩), by decide⟩
  | str z =>
    obtain ⟨t, rfl⟩ := ry
    exact ⟨wpAny_tryCompare_declines (typeIs_str s z t) F.slot_str_eq (str_no hb ⟨rfl, q⟩), by decide⟩
  | lst e =>
    cases ry
    obtain ⟨its, _, pl, _⟩ := I.list (SqL.of e)
    obtain ⟨o, h1, h2⟩ := pl.isList.typeIs
    exact ⟨wpAny_tryCompare_declines ⟨o, h1, h2⟩ F.slot_list_eq (list_no kin (sub _ (by decide)) h1 h2 hb rfl ⟨rfl, q⟩), by decide⟩
  | tup e =>
    cases ry
    obtain ⟨its, _, pl, _⟩ := I.tuple (SqT.of e)
    obtain ⟨o, h1, h2⟩ := pl.typeIs
    exact ⟨wpAny_tryCompare_declines ⟨o, h1, h2⟩ F.slot_tuple_eq (tuple_no kin (sub _ (by decide)) h1 h2 hb rfl ⟨rfl, q⟩), by decide⟩
theorem rc_right {C f a dx : Addr} {fd : FuncData} {sp : Sp} {fs : List (Str × V)} {y : V} {T : String} {v : Value} {b : Bool} (O : OwnE X n C f fd sp) (sub : ∀ T ∈ plainT, PySem.W.subIn X.K (.ref C) (.type T) = some false) (ha : H a = some (.ins C dx fs)) (ov : OV H y (.type T)) (h : sp [.ref a, y] H (fun v H' => v = .bl b ∧ H' = H) E0)
    (sb : Sub X n A) (I : Inv X pins σ H s) (ry : RelV y v) : wpAny (model X.prog X.w) A (richCompare .Eq v (.ref a)) (fun r s' => r = .bool b ∧ Inv X pins σ H s') X.xe s := by
  obtain ⟨mA, J, _⟩ := ins_get I.hok ha
  obtain ⟨od, J, _⟩ := J.look
  have one : ∀ {Q : Option Value → Shared → Prop}, Q none s → wpAny (model X.prog X.w) A (tryCompare v "__eq__" (.ref a)) Q X.xe s := fun {Q} q => (left_no sub ha ov I ry q).1
  have tm : T ∈ plainT := (left_no (A := A) (Q := fun _ _ => True) sub ha ov I ry trivial).2
  have two : wpAny (model X.prog X.w) A (tryCompare (.ref a) "__eq__" v) (fun r s' => r = some (.bool b) ∧ Inv X pins σ H s') X.xe s := by
    unfold tryCompare
    refine wpAny_bind (PySem.W.ifBound_K I.kIn J O.hs O.hf (wpAny_mono (run_own O.F O.hb sb I (show Vals [V.ref a, y] [Value.ref a, v] from .cons rfl (.cons ry .nil)) h) (fun r s' ⟨z1, z2⟩ => ?_) fun _ _ e => e))
    cases z1
    exact wpAny_pure ⟨rfl, z2⟩
  have nt : oneThing? .Eq v (.ref a) = none := by
    cases ov with
    | non => cases ry; rfl
    | bl _ => cases ry; rfl
    | int _ => obtain ⟨_, rfl⟩ := ry; rfl
    | str _ => obtain ⟨_, rfl⟩ := ry; rfl
    | lst _ => cases ry; rfl
    | tup _ => cases ry; rfl
  unfold richCompare
  simp only [nt]
  refine wpAny_holding (wpAny_bind (wpAny_cRoomFor sb.room.units0 ?_))
  refine wpAny_bind ((ov.looks I ry).here ?_)
  refine wpAny_bind (J.type.here ?_)
  split
  · refine wpAny_bind ((PySem.W.looks_subIn I.kIn (sub T tm)).here ?_)
    simp only [Bool.false_eq_true, if_false, Bool.not_false, if_true]
    refine wpAny_bind (m := tryCompare v _ (.ref a)) (one ?_)
    refine wpAny_bind (m := tryCompare (.ref a) _ v) (wpAny_mono two (fun r s2 ⟨z1, z2⟩ => ?_) fun _ _ e => e)
    subst z1
    exact wpAny_pure ⟨rfl, z2⟩
  · rename_i q
    exact absurd (by simp) q
end
end WB

set_option Elab.async false
set_option linter.all false
set_option maxRecDepth 100000
set_option maxHeartbeats 4000000
namespace WB
open PySem PySem.Spec PyProof.Rows L2 WG
open AutoSeq1 (wpAny_loadPart')
open MeetsSeq MeetsSeq2 MeetsSeq3 SeqRoads2
open TL (tl)
/-! ### lists of one thing -/
section
variable {prog : Program} {w : World} {A : Around} {E : Value → Shared → Prop} {s : Shared} {Q : Value → Shared → Prop} {l m : Addr} {x y : Value} {n n2 : Nat} {b : Bool} {Z : Shared → Prop}
/-- the list at l is [x] -/
def One (s : Shared) (l : Addr) (x : Value) : Prop := ∃ (its : Array Value) (n : Nat), s.heap.get? l = some { cls := .type "list", data := .seq its n } ∧ its[0]? = some x ∧ its.size = 1
theorem con_end {R : Result → Shared → Prop} (hl : One s l x) (h : R (.ok (.ret (.bool false))) s) : wpAny (model prog w) A.in1 (Builtin.«list.__contains__.loop» ⟨[.ref l, y, rawInt 1], []⟩) (GQ.FinOf prog w A R) (fun e s' => R (.error e) s') s := by
  obtain ⟨its, n, hl, e0, ez⟩ := hl
  obtain ⟨hp, g, d, tk, os⟩ := s
  wp_walk using wpAny_loadPart' hl
  have e1 : its[Int.toNat 1]? = none := Array.getElem?_eq_none (by rw [ez]; decide)
  rw [e1]
  wp_walk
  exact h
theorem con_one (hl : One s l x) (he : wpAny (model prog w) A.in1 (eqBool x y) (fun r s' => r = b ∧ Z s') E s) (kp : ∀ s', Z s' → One s' l x) (q : ∀ s', Z s' → Q (.bool b) s') : wpAny (model prog w) A (call (.builtin "list.__contains__") [.ref l, y]) Q E s := by
  obtain ⟨its, n, h1, e0, ez⟩ := id hl
  have loop : wpAny (model prog w) A.in1 (Builtin.«list.__contains__.loop» ⟨[.ref l, y, rawInt 0], []⟩) (GQ.FinOf prog w A (wants Q E)) (fun e s' => wants Q E (.error e) s') s := by
    have he' := he
    obtain ⟨hp, g, d, tk, os⟩ := s
    wp_walk using wpAny_loadPart' h1
    rw [show its[Int.toNat 0]? = some x from e0]
    refine wpAny_bind (wpAny_mono he' (fun r s2 ⟨e1, z2⟩ => ?_) fun _ _ e => e)
    subst e1
    have o2 := kp s2 z2
    have q2 := q s2 z2
    cases r with
    | true =>
      obtain ⟨hp2, g2, d2, tk2, os2⟩ := s2
      wp_walk
      exact q2
    | false =>
      have nx := con_end (prog := prog) (w := w) (A := A) (y := y) (R := wants Q E) o2 q2
      obtain ⟨hp2, g2, d2, tk2, os2⟩ := s2
      wp_walk
      exact ⟨plainId_quiet plain_contains_loop _, codeAny_builtin entry_contains_loop (by
        rw [Around.under_plainId plain_contains_loop _]
        exact nx)⟩
  refine GQ.call_here F.slot_list_contains ⟨_, h1, rfl⟩ F.entry_list_contains (F.args_list_contains_2 _ _) ?_
  obtain ⟨hp, g, d, tk, os⟩ := s
  wp_walk using wpAny_loadPart' h1
  exact ⟨plainId_quiet plain_contains_loop _, codeAny_builtin entry_contains_loop (by
    rw [Around.under_plainId plain_contains_loop _]
    exact loop)⟩
theorem in_one (hl : One s l x) (he : wpAny (model prog w) A.in1 (eqBool x y) (fun r s' => r = b ∧ Z s') E s) (kp : ∀ s', Z s' → One s' l x) (q : ∀ s', Z s' → Q (.bool b) s') : wpAny (model prog w) A (compareOp .In y (.ref l)) Q E s := by
  obtain ⟨its, n, h1, e0, ez⟩ := id hl
  show wpAny _ _ (do return .bool (← contains (.ref l) y)) Q E s
  refine wpAny_bind (wpAny_contains_slot ⟨_, h1, rfl⟩ F.slot_list_contains (con_one hl he kp fun s' z => wpAny_truthy_bool (wpAny_pure (q s' z))))
theorem eql_end {R : Result → Shared → Prop} (hl : One s l x) (hm : One s m y) (h : R (.ok (.ret (.bool true))) s) : wpAny (model prog w) A.in1 (Builtin.«list.__eq__.loop» ⟨[.ref l, .ref m, rawInt 1, rawInt 2], []⟩) (GQ.FinOf prog w A R) (fun e s' => R (.error e) s') s := by
  obtain ⟨its, n, h1, e0, ez⟩ := hl
  obtain ⟨jts, n2, h2, g0, gz⟩ := hm
  obtain ⟨hp, g, d, tk, os⟩ := s
  wp_walk using wpAny_loadPart' h1, wpAny_loadPart' h2
  have e1 : its[Int.toNat 1]? = none := Array.getElem?_eq_none (by rw [ez]; decide)
  have g1 : jts[Int.toNat 1]? = none := Array.getElem?_eq_none (by rw [gz]; decide)
  rw [e1, g1]
  wp_walk using wpAny_loadPart' h1, wpAny_loadPart' h2
  show R (.ok (.ret (.bool (its.size == jts.size)))) _
  rw [ez, gz]
  exact h
theorem rc_one (hu : A.units < cLine) (hl : One s l x) (hm : One s m y) (he : wpAny (model prog w) A.in1 (eqBool x y) (fun r s' => r = b ∧ Z s') E s) (kp : ∀ s', Z s' → One s' l x ∧ One s' m y) (q : ∀ s', Z s' → Q (.bool b) s') : wpAny (model prog w) A (richCompare .Eq (.ref l) (.ref m)) Q E s := by
  obtain ⟨its, n, h1, e0, ez⟩ := id hl
  obtain ⟨jts, n2, h2, g0, gz⟩ := id hm
  have loop : wpAny (model prog w) A.in1 (Builtin.«list.__eq__.loop» ⟨[.ref l, .ref m, rawInt 0, rawInt 2], []⟩) (GQ.FinOf prog w A (wants (fun v s' => v ≠ .notImplemented ∧ Q v s') E)) (fun e s' => wants (fun v s' => v ≠ .notImplemented ∧ Q v s') E (.error e) s') s := by
    have he' := he
    obtain ⟨hp, g, d, tk, os⟩ := s
    wp_walk using wpAny_loadPart' h1, wpAny_loadPart' h2
    rw [show its[Int.toNat 0]? = some x from e0, show jts[Int.toNat 0]? = some y from g0]
    refine wpAny_bind (wpAny_mono he' (fun r s2 ⟨e1, z2⟩ => ?_) fun _ _ e => e)
    subst e1
    obtain ⟨o2, o3⟩ := kp s2 z2
    have q2 := q s2 z2
    cases r with
    | true =>
      have nx := eql_end (prog := prog) (w := w) (A := A) (R := wants (fun v s' => v ≠ .notImplemented ∧ Q v s') E) o2 o3 ⟨(fun z => nomatch z), q2⟩
      obtain ⟨hp2, g2, d2, tk2, os2⟩ := s2
      wp_walk
      exact ⟨plainId_quiet plain_eq_loop _, codeAny_builtin entry_eq_loop (by
        rw [Around.under_plainId plain_eq_loop _]
        exact nx)⟩
    | false =>
      obtain ⟨its2, n3, k1, f0, _⟩ := o2
      obtain ⟨jts2, n4, k2, f1, _⟩ := o3
      obtain ⟨hp2, g2, d2, tk2, os2⟩ := s2
      wp_walk using wpAny_loadPart' k1, wpAny_loadPart' k2
      rw [show its2[Int.toNat 0]? = some x from f0, show jts2[Int.toNat 0]? = some y from f1]
      wp_walk
      exact ⟨(fun z => nomatch z), q2⟩
  refine wpAny_richCompare_same_room (op := .Eq) ⟨_, h1, rfl⟩ ⟨_, h2, rfl⟩ F.slot_list_eq (GQ.call_here F.slot_list_eq ⟨_, h1, rfl⟩ F.entry_list_eq (F.args_list_eq_2 _ _) ?_) hu
  have f3 := AutoSeq1.sub_list_list
  have hne : ¬ (its.size != jts.size) = true := by simp [ez, gz]
  obtain ⟨hp, g, d, tk, os⟩ := s
  wp_walk using wpAny_loadPart' h1, wpAny_loadPart' h2
  exact ⟨plainId_quiet plain_eq_loop _, codeAny_builtin entry_eq_loop (by
    rw [Around.under_plainId plain_eq_loop _]
    exact loop)⟩
end
end WB

set_option Elab.async false
set_option linter.all false
set_option maxRecDepth 100000
set_option maxHeartbeats 4000000
namespace WB
open PySem PySem.Spec PyProof.Rows L2 WG
open TL (tl)
/-! ### != by an own == -/
section
variable {X : Cx} {pins : List (Addr × Obj)} {σ : L2.St} {H : Hp} {s : Shared} {A : Around} {n : Nat}
theorem ne_bound {M : Model} {E : Value → Shared → Prop} {K : PySem.W.Frag} {x C : Addr} {ox : Obj} {od : Option Obj} {args : List Value} {Q : Option Value → Shared → Prop} (kin : K.In s.heap) (J : PySem.W.InstAt s.heap x ox C od) (hn : PySem.W.findIn K (.ref C) "__ne__" = some (some (.builtin "object.__ne__")))
    (h : wpAny M A (call (.builtin "object.__ne__") (.ref x :: args)) (fun v => Q (some v)) E s) : wpAny M A (callSpecialIfBound? (.ref x) "__ne__" args) Q E s := by
  have fin : wpAny M A (call (.builtin "object.__ne__") ([.ref x] ++ args) >>= fun v => pure (some v)) Q E s := wpAny_bind (wpAny_mono h (fun v s' z => wpAny_pure z) fun _ _ z => z)
  simp only [callSpecialIfBound?, bindSpecialIfBound?]
  refine wpAny_holding (wpAny_bind (wpAny_bind (wpAny_bind (J.type.here ((PySem.W.looks_findIn kin hn).here ?_)))))
  refine wpAny_bind (wpAny_askSetting (wpAny_ite ?_))
  split
  · exact wpAny_bind (wpAny_of_eq (F.cmp_object.ne.bind _) (wpAny_pure (by exact fin)))
  · exact wpAny_tryCatch (wpAny_bind (wpAny_of_eq (F.cmp_object.ne.bind _) (wpAny_pure (by exact fin))))
theorem rc_ne {C f a dx : Addr} {fd : FuncData} {sp : Sp} {fs : List (Str × V)} {y : V} {t v : Value} {b : Bool} (O : OwnE X n C f fd sp) (hn : PySem.W.findIn X.K (.ref C) "__ne__" = some (some (.builtin "object.__ne__"))) (hm : PySem.W.mroIn X.K C (.type "object") = some true) (ha : H a = some (.ins C dx fs)) (ov : OV H y t) (nf : PySem.W.notFirst X.K C t = true)
    (h : sp [.ref a, y] H (fun v H' => v = .bl b ∧ H' = H) E0) (sb : Sub X (n + 1) A) (I : Inv X pins σ H s) (ry : RelV y v) : wpAny (model X.prog X.w) A (richCompare .NotEq (.ref a) v) (fun r s' => r = .bool (!b) ∧ Inv X pins σ H s') X.xe s := by
  obtain ⟨mA, J, _⟩ := ins_get I.hok ha
  obtain ⟨od, J, _⟩ := J.look
  have own : wpAny (model X.prog X.w) A.in1 (callSpecialIfBound? (.ref a) "__eq__" [v]) (fun r s' => r = some (.bool b) ∧ Inv X pins σ H s') X.xe s := by
    refine PySem.W.ifBound_K I.kIn J O.hs O.hf (wpAny_mono (run_own O.F O.hb sb.in1 I (show Vals [V.ref a, y] [Value.ref a, v] from .cons rfl (.cons ry .nil)) h) (fun r s' ⟨z1, z2⟩ => ?_) fun _ _ e => e)
    cases z1
    exact ⟨rfl, z2⟩
  have entry : wpAny (model X.prog X.w) A.in1 (Builtin.«object.__ne__» ⟨[.ref a, v], []⟩) (GQ.FinOf X.prog X.w A (wants (fun r s' => r = .bool (!b) ∧ Inv X pins σ H s') X.xe)) (fun e s' => wants (fun r s' => r = .bool (!b) ∧ Inv X pins σ H s') X.xe (.error e) s') s := by
    unfold Builtin.«object.__ne__»
    repeat (first
      | with_reducible refine wpAny_cRoomFor sb.in1.room.units0 ?_
      | (refine wpAny_bind (m := callSpecialIfBound? (.ref a) (Str.ofString "__eq__") [v]) (wpAny_mono own (fun r s' ⟨z1, z2⟩ => ?_) fun _ _ e => e)
         subst z1)
      | exact wpAny_bind (wpAny_truthy_bool (wpAny_pure ⟨rfl, z2⟩))
      | wp_step)
  have one : wpAny (model X.prog X.w) A (tryCompare (.ref a) "__ne__" v) (fun r s' => r = some (.bool (!b)) ∧ Inv X pins σ H s') X.xe s := by
    unfold tryCompare
    refine wpAny_bind (ne_bound I.kIn J hn (wpAny_mono (wpAny_call (codeAny_call_builtin F.cmp_object.ne.plain F.cmpEntry_ne (PySem.W.check_slot F.cmpKind_ne F.cmpSplit_ne (J.type.andThen (PySem.W.looks_mroIn I.kIn hm)) (F.cmpArgs_ne _ _) entry))) (fun r s' ⟨z1, z2⟩ => ?_) fun _ _ e => e))
    subst z1
    exact wpAny_pure ⟨rfl, z2⟩
  unfold richCompare
  simp only [oneThing_ref]
  refine wpAny_holding (wpAny_bind (wpAny_cRoomFor sb.room.units0 ?_))
  refine wpAny_bind (J.type.here (wpAny_bind ((ov.looks I ry).here ?_)))
  have no : PySem.W.subIn X.K t (.ref C) = some false ∨ t = .ref C := by
    rcases Bool.or_eq_true_iff.mp nf with e | e
    · exact .inr (beq_iff_eq.mp e)
    · exact .inl (beq_iff_eq.mp e)
  split
  · rename_i q
    rcases no with no | no
    · refine wpAny_bind ((PySem.W.looks_subIn I.kIn no).here ?_)
      simp only [Bool.false_eq_true, if_false]
      refine wpAny_bind (m := tryCompare (.ref a) _ v) (wpAny_mono one (fun r s2 ⟨z1, z2⟩ => ?_) fun _ _ e => e)
      subst z1
      exact wpAny_pure ⟨rfl, z2⟩
    · rw [no] at q
      exact absurd q (by simp)
  · refine wpAny_bind (wpAny_pure ?_)
    simp only [Bool.false_eq_true, if_false]
    refine wpAny_bind (m := tryCompare (.ref a) _ v) (wpAny_mono one (fun r s2 ⟨z1, z2⟩ => ?_) fun _ _ e => e)
    subst z1
    exact wpAny_pure ⟨rfl, z2⟩
end
end WB

set_option Elab.async false
set_option linter.all false
set_option maxRecDepth 100000
set_option maxHeartbeats 4000000
namespace WB
open PySem PySem.Spec PyProof.Rows L2 WG
open TL (tl)
/-! ### flat values -/
inductive Fl : V → Prop
  | non : Fl .non
  | bl (b : Bool) : Fl (.bl b)
  | str {z : Str} (h : Tx 300 z) : Fl (.str z)
def AllFl (vs : List V) : Prop := ∀ v ∈ vs, Fl v
def dV : V → PyData
  | .bl b => .bool b
  | .str z => .str z
  | _ => .none
theorem Fl.thg {H : Hp} {v : V} (h : Fl v) : Thg H v := by
  cases h with
  | non => exact .non
  | bl b => exact .bl b
  | str h => exact .str h
theorem Fl.dp {K : PySem.W.Frag} {H : Hp} {v : V} (h : Fl v) : Dp K H v (dV v) := by
  cases h with
  | non => exact .non
  | bl b => exact .bl b
  | str h => exact .str _
theorem AllFl.tail {v : V} {vs : List V} (h : AllFl (v :: vs)) : AllFl vs := fun x hx => h x (List.mem_cons_of_mem _ hx)
theorem AllFl.dp {K : PySem.W.Frag} {H : Hp} : ∀ {vs : List V}, AllFl vs → DpAll K H vs (vs.map dV)
  | [], _ => .nil
  | v :: r, h => .cons (h v List.mem_cons_self).dp (AllFl.dp h.tail)
theorem AllFl.lay : ∀ {vs : List V}, AllFl vs → PyData.canLayAll0 (vs.map dV) = true ∧ PyData.depthAll (vs.map dV) = 0
  | [], _ => ⟨by simp [PyData.canLayAll0], by simp [PyData.depthAll]⟩
  | v :: r, h => by
    obtain ⟨h1, h2⟩ := AllFl.lay h.tail
    have hv := h v List.mem_cons_self
    rw [List.map_cons]
    cases hv with
    | non => exact ⟨by simp [dV, PyData.canLayAll0, PyData.canLay0, h1], by simp [dV, PyData.depthAll, PyData.depth, h2]⟩
    | bl b => exact ⟨by simp [dV, PyData.canLayAll0, PyData.canLay0, h1], by simp [dV, PyData.depthAll, PyData.depth, h2]⟩
    | str hz => exact ⟨by simp [dV, PyData.canLayAll0, PyData.canLay0, h1, strOk_of hz.pl], by simp [dV, PyData.depthAll, PyData.depth, h2]⟩
theorem AllFl.shT {vs : List V} (h : AllFl vs) : SeqAt.shaped (.tuple (vs.map dV)) = true := by
  obtain ⟨h1, h2⟩ := h.lay
  unfold SeqAt.shaped
  simp [PyData.canLay0, PyData.depth, h1, h2]
theorem AllFl.shL {vs : List V} (h : AllFl vs) : SeqAt.shaped (.list (vs.map dV)) = true := by
  obtain ⟨h1, h2⟩ := h.lay
  unfold SeqAt.shaped
  simp [PyData.canLay0, PyData.depth, h1, h2]
theorem eqv_fl {v w : V} (h : Fl v) (k : Fl w) : PyData.eqv (dV v) (dV w) = decide (v = w) := by
  cases h with
  | non =>
    cases k with
    | non => simp [dV, PyData.eqv]
    | bl b => simp [dV, PyData.eqv]
    | str _ => simp [dV, PyData.eqv]
  | bl b =>
    cases k with
    | non => simp [dV, PyData.eqv]
    | bl c => cases b <;> cases c <;> simp [dV, PyData.eqv]
    | str _ => simp [dV, PyData.eqv]
  | @str z _ =>
    cases k with
    | non => simp [dV, PyData.eqv]
    | bl b => simp [dV, PyData.eqv]
    | @str y _ =>
      show (z == y) = _
      by_cases e : z = y
      · subst e
        simp
      · rw [decide_eq_false (fun q => e (V.str.inj q))]
        simpa using e
theorem eqvAll_fl : ∀ {vs ws : List V}, AllFl vs → AllFl ws → PyData.eqvAll (vs.map dV) (ws.map dV) = decide (vs = ws)
  | [], [], _, _ => by simp [PyData.eqvAll]
  | [], w :: r, _, _ => by simp [PyData.eqvAll]
  | v :: r, [], _, _ => by simp [PyData.eqvAll]
  | v :: r, w :: t, h, k => by
    rw [List.map_cons, List.map_cons]
    simp only [PyData.eqvAll]
    rw [eqvAll_fl h.tail k.tail, eqv_fl (h v List.mem_cons_self) (k w List.mem_cons_self)]
    by_cases e : v = w
    · subst e
      by_cases e2 : r = t
      · subst e2
        simp
      · simp [e2]
    · simp [e]
theorem eqv_tup {vs ws : List V} (h : AllFl vs) (k : AllFl ws) : PyData.eqv (.tuple (vs.map dV)) (.tuple (ws.map dV)) = decide (vs = ws) := by
  simp only [PyData.eqv]
  exact eqvAll_fl h k
theorem eqv_lst {vs ws : List V} (h : AllFl vs) (k : AllFl ws) : PyData.eqv (.list (vs.map dV)) (.list (ws.map dV)) = decide (vs = ws) := by
  simp only [PyData.eqv]
  exact eqvAll_fl h k
/-! ### what an own == says -/
/-- an instance of C that holds vs -/
def IsT (H : Hp) (C a : Addr) (vs : List V) : Prop := AllFl vs ∧ ∃ dx t, H a = some (.ins C dx [(("held" : Str), .ref t)]) ∧ H t = some (.tup vs)
theorem IsT.same {H H' : Hp} {C a : Addr} {vs : List V} (h : IsT H C a vs) (s : Same H H') : IsT H' C a vs := by
  obtain ⟨f, dx, t, e1, e2⟩ := h
  exact ⟨f, dx, t, s _ _ e1, s _ _ e2⟩
inductive EqTo (K : PySem.W.Frag) (H : Hp) (C : Addr) (us : List V) : V → Bool → Prop
  | same {c : Addr} {ws : List V} (h : IsT H C c ws) : EqTo K H C us (.ref c) (decide (us = ws))
  | other {y : V} {t : Value} (ty : TyX K H y t) (k : PySem.W.kitOne K t (.ref C) = some false) : EqTo K H C us y false
def spEqO (K : PySem.W.Frag) (C : Addr) : Sp := fun vs H Q _ => ∃ (a : Addr) (y : V) (us : List V) (b : Bool), vs = [.ref a, y] ∧ IsT H C a us ∧ EqTo K H C us y b ∧ Q (.bl b) H
/-- the classes with an own == -/
structure EqCl (X : Cx) (n : Nat) (C : Addr) : Prop where
  own : ∃ f fd, OwnE X n C f fd (spEqO X.K C)
  sub : ∀ T ∈ plainT, PySem.W.subIn X.K (.ref C) (.type T) = some false
  nr : ∀ T ∈ plainT, PySem.W.subIn X.K (.type T) (.ref C) = some false
  ne : PySem.W.findIn X.K (.ref C) "__ne__" = some (some (.builtin "object.__ne__"))
  mo : PySem.W.mroIn X.K C (.type "object") = some true
/-- x == y: b -/
inductive EqOp (X : Cx) (n : Nat) (H : Hp) : V → V → Bool → Prop
  | left {C a : Addr} {us : List V} {y : V} {t : Value} {b : Bool} (c : EqCl X n C) (h : IsT H C a us) (ov : OV H y t) (nf : PySem.W.notFirst X.K C t = true) (e : EqTo X.K H C us y b) : EqOp X n H (.ref a) y b
  | right {C a : Addr} {us : List V} {y : V} {T : String} {b : Bool} (c : EqCl X n C) (h : IsT H C a us) (ov : OV H y (.type T)) (e : EqTo X.K H C us y b) : EqOp X n H y (.ref a) b
section
variable {X : Cx} {pins : List (Addr × Obj)} {σ : L2.St} {H : Hp} {s : Shared} {A : Around} {n : Nat}
theorem EqOp.rc {x y : V} {u v : Value} {b : Bool} (e : EqOp X n H x y b) (sb : Sub X n A) (I : Inv X pins σ H s) (rx : RelV x u) (ry : RelV y v) : wpAny (model X.prog X.w) A (richCompare .Eq u v) (fun r s' => r = .bool b ∧ Inv X pins σ H s') X.xe s := by
  cases e with
  | left c h ov nf e =>
    obtain ⟨f, fd, O⟩ := c.own
    obtain ⟨_, dx, t, ea, et⟩ := id h
    cases rx
    exact rc_left O ea ov nf ⟨_, _, _, _, rfl, h, e, rfl, rfl⟩ sb I ry
  | right c h ov e =>
    obtain ⟨f, fd, O⟩ := c.own
    obtain ⟨_, dx, t, ea, et⟩ := id h
    cases ry
    exact rc_right O c.sub ea ov ⟨_, _, _, _, rfl, h, e, rfl, rfl⟩ sb I rx
theorem EqOp.eb {a c : Addr} {b : Bool} (ne : a ≠ c) (e : EqOp X n H (.ref a) (.ref c) b) (sb : Sub X n A) (I : Inv X pins σ H s) : wpAny (model X.prog X.w) A (eqBool (.ref a) (.ref c)) (fun r s' => r = b ∧ Inv X pins σ H s') X.xe s :=
  GQ.eqBool_refG ne (wpAny_mono (e.rc sb I rfl rfl) (fun r s' ⟨z1, z2⟩ => ⟨b, z1, rfl, z2⟩) fun _ _ x => x)
def rEqI (X : Cx) (n : Nat) : R2 := fun x y H Q => ∃ b, EqOp X n H x y b ∧ Q (.bl b) H
theorem op_eqI (hr : Room n X.A) : OpR X (compareOp .Eq) (rEqI X n) := by
  intro pins s σ H x y v u Q I rx ry h
  obtain ⟨b, e, q⟩ := h
  show wpAny (model X.prog X.w) X.A (richCompare .Eq v u) (EP X pins σ Q) X.xe s
  refine wpAny_mono (e.rc ⟨hr, rfl⟩ I rx ry) (fun r s' ⟨z1, z2⟩ => ?_) fun _ _ x => x
  subst z1
  exact ⟨.bl b, H, z2, rfl, q⟩
theorem one_of_list {l : Addr} {x : V} {u : Value} (I : Inv X pins σ H s) (e : H l = some (.lst [x])) (r : ∀ w, RelV x w → w = u) : One s l u := by
  obtain ⟨_, its, n, rv, g⟩ := (show ObjOk _ _ H s.heap l (.lst [x]) from I.hok l _ e)
  cases rv with
  | cons r1 r2 =>
    cases r2
    rw [r _ r1] at g
    exact ⟨_, n, g, rfl, rfl⟩
def rInI (X : Cx) (n : Nat) : R2 := fun x y H Q => ∃ (l a c : Addr) (b : Bool), x = .ref c ∧ y = .ref l ∧ H l = some (.lst [.ref a]) ∧ a ≠ c ∧ EqOp X n H (.ref a) (.ref c) b ∧ Q (.bl b) H
theorem op_inI (hr : Room (n + 1) X.A) : OpR X (compareOp .In) (rInI X n) := by
  intro pins s σ H x y v u Q I rx ry h
  obtain ⟨l, a, c, b, rfl, rfl, el, ne, e, q⟩ := h
  cases rx
  cases ry
  have sb : Sub X (n + 1) X.A := ⟨hr, rfl⟩
  exact in_one (Z := fun s' => Inv X pins σ H s') (one_of_list I el (fun _ z => z)) (e.eb ne sb.in1 I) (fun s' z => one_of_list z el (fun _ w => w)) (fun s' z => ⟨.bl b, H, z, rfl, q⟩)
def rEqL1 (X : Cx) (n : Nat) : R2 := fun x y H Q => ∃ (l m a c : Addr) (b : Bool), x = .ref l ∧ y = .ref m ∧ H l = some (.lst [.ref a]) ∧ H m = some (.lst [.ref c]) ∧ a ≠ c ∧ EqOp X n H (.ref a) (.ref c) b ∧ Q (.bl b) H
theorem op_eqL1 (hr : Room (n + 1) X.A) : OpR X (compareOp .Eq) (rEqL1 X n) := by
  intro pins s σ H x y v u Q I rx ry h
  obtain ⟨l, m, a, c, b, rfl, rfl, el, em, ne, e, q⟩ := h
  cases rx
  cases ry
  have sb : Sub X (n + 1) X.A := ⟨hr, rfl⟩
  exact rc_one (Z := fun s' => Inv X pins σ H s') hr.units0 (one_of_list I el (fun _ z => z)) (one_of_list I em (fun _ z => z)) (e.eb ne sb.in1 I) (fun s' z => ⟨one_of_list z el (fun _ w => w), one_of_list z em (fun _ w => w)⟩) (fun s' z => ⟨.bl b, H, z, rfl, q⟩)
def rNeI (X : Cx) (n : Nat) : R2 := fun x y H Q => ∃ (C a c : Addr) (us ws : List V), x = .ref a ∧ y = .ref c ∧ EqCl X n C ∧ IsT H C a us ∧ IsT H C c ws ∧ Q (.bl (!decide (us = ws))) H
theorem op_neI (hr : Room (n + 1) X.A) : OpR X (compareOp .NotEq) (rNeI X n) := by
  intro pins s σ H x y v u Q I rx ry h
  obtain ⟨C, a, c, us, ws, rfl, rfl, cl, h1, h2, q⟩ := h
  cases rx
  cases ry
  obtain ⟨f, fd, O⟩ := cl.own
  obtain ⟨_, dx, t, ea, et⟩ := id h1
  obtain ⟨_, dx2, t2, ec, et2⟩ := id h2
  show wpAny (model X.prog X.w) X.A (richCompare .NotEq (.ref a) (.ref c)) (EP X pins σ Q) X.xe s
  refine wpAny_mono (rc_ne O cl.ne cl.mo ea (.ins ec) (by simp [PySem.W.notFirst]) ⟨_, _, _, _, rfl, h1, .same h2, rfl, rfl⟩ ⟨hr, rfl⟩ I rfl) (fun r s' ⟨z1, z2⟩ => ?_) fun _ _ x => x
  subst z1
  exact ⟨.bl _, H, z2, rfl, q⟩
end
end WB

set_option Elab.async false
set_option linter.all false
set_option maxRecDepth 100000
set_option maxHeartbeats 4000000
namespace WB
open PySem PySem.Spec PyProof.Rows L2 WG
open TL (tl)
abbrev st_comma_joined : Stmt := topS 14
theorem sc_comma_joined : FnScope ["values", "value"] ["values"] (defScope st_comma_joined) := ⟨rfl, rfl, rfl, by decide +kernel, rfl, by decide +kernel, by decide +kernel⟩
abbrev st_Option_eq : Stmt := inClass (topS 24) 9
theorem sc_Option_eq : FnScope ["self", "other"] ["self", "other"] (defScope st_Option_eq) := ⟨rfl, rfl, rfl, by decide +kernel, rfl, by decide +kernel, by decide +kernel⟩
abbrev st_Place_eq : Stmt := inClass (topS 25) 6
theorem sc_Place_eq : FnScope ["self", "other"] ["self", "other"] (defScope st_Place_eq) := ⟨rfl, rfl, rfl, by decide +kernel, rfl, by decide +kernel, by decide +kernel⟩
abbrev st_Option_repr : Stmt := inClass (topS 24) 10
theorem sc_Option_repr : FnScope ["self"] ["self"] (defScope st_Option_repr) := ⟨rfl, rfl, rfl, by decide +kernel, rfl, by decide +kernel, by decide +kernel⟩
abbrev st_Place_repr : Stmt := inClass (topS 25) 7
theorem sc_Place_repr : FnScope ["self"] ["self"] (defScope st_Place_repr) := ⟨rfl, rfl, rfl, by decide +kernel, rfl, by decide +kernel, by decide +kernel⟩
/-! ### repr of a flat value -/
def rp : V → Str
  | .bl b => if b then Str.ofString "True" else Str.ofString "False"
  | .str z => reprText z
  | _ => Str.ofString "None"
theorem Fl.len {v : V} (h : Fl v) : (rp v).length ≤ 3002 := by
  cases h with
  | non => decide +kernel
  | bl b => cases b <;> decide +kernel
  | str h => exact repr_tx h
def rReprF : List V → Hp → VK → Prop := fun xs H Q => ∃ v : V, xs = [v] ∧ Fl v ∧ Q (.str (rp v)) H
theorem call_reprF {X : Cx} : CallR X (.builtin "repr") rReprF := by
  intro pins s σ H xs us Q I rels ask
  obtain ⟨v, rfl, fl, q⟩ := ask
  obtain ⟨u, rfl, rel⟩ := vals1 rels
  have sl : sizeLine = 16777216 := sizeLine_eq
  have fin : ∀ {x : Str}, x = rp v → EP X pins σ Q (.str x s.toks) { s with toks := s.toks + 1 } := fun {x} e => ⟨.str x, H, I.tok _, ⟨_, rfl⟩, by rw [e]; exact q⟩
  have ln := fl.len
  cases fl with
  | non =>
    cases rel
    exact P.repr_of_none (fin rfl)
  | bl b =>
    cases rel
    refine P.repr_of_bool (fin ?_)
    cases b <;> rfl
  | str h =>
    obtain ⟨t, rfl⟩ := rel
    refine P.repr_of_str (fin rfl) ?_
    have : (reprText _).length ≤ 3002 := ln
    omega
def cj (vs : List V) : Str := Txt.join (Str.ofString ", ") (vs.map rp)
theorem sum_rp : ∀ {vs : List V}, AllFl vs → ((vs.map rp).map (·.length)).sum ≤ vs.length * 3002
  | [], _ => Nat.le_refl _
  | v :: r, h => by
    have h1 := sum_rp h.tail
    have h2 := (h v List.mem_cons_self).len
    rw [List.map_cons, List.map_cons, List.sum_cons, List.length_cons, Nat.succ_mul]
    omega
theorem cj_len {vs : List V} (h : AllFl vs) (l : vs.length ≤ 20) : (cj vs).length ≤ 70000 := by
  unfold cj
  rw [TL.join_eq]
  have e := StrLaws.join_length_le (Str.ofString ", ") (vs.map rp)
  have e2 := sum_rp h
  have e3 : (Str.ofString ", ").length = 2 := by decide +kernel
  rw [e3, List.length_map] at e
  omega
section
variable {P : Program} {w : World} {K : PySem.W.Frag} {mg : Str → Option Value} {base : Heap}
def spComma (K : PySem.W.Frag) : Sp := fun xs H Q _ => ∃ (t : Addr) (vs : List V), xs = [.ref t] ∧ H t = some (.tup vs) ∧ AllFl vs ∧ vs.length ≤ 20 ∧ ∀ H', Same H H' → Q (.str (cj vs)) H'
theorem ok_comma {f : Addr} {fd : FuncData} {k : Nat} (F : Fun K "comma_joined" "comma_joined" st_comma_joined f fd) (m_repr : mg "repr" = none) : FnOk P w K mg base CX0 (k + 1) f fd ["values"] (spComma K) := by
  refine F.ok sc_comma_joined (fun vs H Q E h => ?_) (fun cdv A outer s H vs Q E hr h => ?_)
  · obtain ⟨t, ws, rfl, _⟩ := h
    rfl
  · obtain ⟨t, ws, rfl, et, fl, le, q⟩ := h
    have sl : sizeLine = 16777216 := sizeLine_eq
    refine ⟨_, pss_one (ps_ret (pe_join pe_str (pe_lc (own := [("value", 1)]) (g := gName 1) (tt := tYes) rfl sc_comma_joined.nd (pi_tup (pv 0)) (blkOk_by (N := ["values", "value"]) (sc := defScope st_comma_joined) (by decide +kernel)) (fun _ _ _ _ _ => (pg_name (i := 1) sc_comma_joined.nd rfl (Or.inl rfl))) (fun _ _ _ _ _ => pts_nil) (fun _ _ _ _ _ => (pe_callB (r := rReprF) call_reprF (by rfl) m_repr (by decide +kernel) (pa_cons (pv 1) pa_nil)))))), ?_⟩
    refine ⟨⟨_, rfl⟩, .ref t, rfl, t, rfl, ⟨_, SqT.of et⟩, fun D nD => ?_⟩
    refine lc_tup (K := K) (a := t) (xs := ws) (fun i Hc => Same H Hc ∧ Hc D = some (.lst (((ws.take i).map rp).map V.str))) ⟨same_upd nD, upd_same⟩ (fun i Hc _ h => SqT.of (h.1 _ _ et)) (fun i v Hc hv ⟨sc, eD⟩ => ?_) (fun Hc ⟨sc, eD⟩ => ?_)
    · refine ⟨rfl, v, rfl, v, rfl, fl v (List.mem_of_getElem? hv), _, eD, ?_, ?_, ?_⟩
      · rw [List.length_map, List.length_map, List.length_take]
        omega
      · intro b o e
        rw [upd_ne (ne_of_none e nD)]
        exact sc b o e
      · rw [upd_same, List.take_add_one, hv, List.map_append, List.map_append]
        rfl
    · rw [List.take_length] at eD
      refine ⟨_, D, ws.map rp, rfl, rfl, .inl (SqL.of eD), ?_, q _ sc⟩
      have e2 := sum_rp fl
      have e3 : (Str.ofString ", ").length = 2 := by decide +kernel
      rw [e3, List.length_map]
      omega
theorem held_look {t : Addr} : List.lookup ("held" : Str) [(("held" : Str), V.ref t)] = some (.ref t) := by simp [List.lookup]
/-- what isinstance asks of the class -/
structure IsiC (K : PySem.W.Frag) (C : Addr) : Prop where
  ca : PySem.W.findIn K (.ref C) "__class__" = some (some (.builtin "object.__class__"))
  cn : PySem.W.specialIn K (.builtin "object.__class__") "__get__" = some (some (.builtin "getset_descriptor.__get__"))
  ct : PySem.W.takesIn K (.builtin "object.__class__") = some true
  cm : PySem.W.mroIn K C (.type "object") = some true
theorem isi_ty {H : Hp} {C a : Addr} {vs : List V} (T : ClsT K C) (c : IsiC K C) (h : IsT H C a vs) : TyX K H (.ref a) (.ref C) := by
  obtain ⟨_, dx, t, ea, _⟩ := h
  exact .base (.ins ea T.cl c.ca c.cn c.ct c.cm)
theorem ok_eqO {C f : Addr} {fd : FuncData} {k : Nat} (F : Fun K "__eq__" "Option.__eq__" st_Option_eq f fd) (T : ClsT K C) (IC : IsiC K C) (gC : mg "Option" = some (.ref C)) (m_isinstance : mg "isinstance" = none) : FnOk P w K mg base CX0 (k + 1) f fd ["self", "other"] (spEqO K C) := by
  refine F.ok sc_Option_eq (fun vs H Q E h => ?_) (fun cdv A outer s H vs Q E hr h => ?_)
  · obtain ⟨a, y, us, b, rfl, _⟩ := h
    rfl
  · obtain ⟨a, y, us, b, rfl, ht, eq, q⟩ := h
    refine ⟨_, pss_one (ps_ret (pe_and (pe_callB call_isi (by rfl) m_isinstance (by decide +kernel) (pa_cons (pv 1) (pa_cons (pe_glob (v := .ref C) rfl gC rfl) pa_nil))) (pe_one (pe_cmpR (op_eqD hr.units) (pe_fld (pv 0) rfl) (pe_fld (pv 1) rfl) (nomark _))))), ?_⟩
    cases eq with
    | same h2 =>
      refine ⟨_, rfl, _, _, _, _, true, rfl, ClsV.own C, isi_ty T IC h2, by unfold PySem.W.kitOne; rw [if_pos (beq_self_eq_true _)], _, rfl, ?_⟩
      obtain ⟨f1, dx, t, ea, et⟩ := ht
      obtain ⟨f2, dx2, t2, ec, et2⟩ := h2
      refine ⟨.ref a, rfl, a, C, dx, _, _, rfl, ea, T.cl, T.nh, held_look, _, rfl, _, C, dx2, _, _, rfl, ec, T.cl, T.nh, held_look, _, _, .tup (SqT.of et) f1.dp, .tup (SqT.of et2) f2.dp, f1.shT, f2.shT, ?_⟩
      rw [eqv_tup f1 f2]
      exact q
    | other ty kk =>
      exact ⟨_, rfl, _, _, _, _, false, rfl, ClsV.own C, ty, kk, _, rfl, q⟩
theorem ok_eqP {C f : Addr} {fd : FuncData} {k : Nat} (F : Fun K "__eq__" "Place.__eq__" st_Place_eq f fd) (T : ClsT K C) (IC : IsiC K C) (gC : mg "Place" = some (.ref C)) (m_isinstance : mg "isinstance" = none) : FnOk P w K mg base CX0 (k + 1) f fd ["self", "other"] (spEqO K C) := by
  refine F.ok sc_Place_eq (fun vs H Q E h => ?_) (fun cdv A outer s H vs Q E hr h => ?_)
  · obtain ⟨a, y, us, b, rfl, _⟩ := h
    rfl
  · obtain ⟨a, y, us, b, rfl, ht, eq, q⟩ := h
    refine ⟨_, pss_one (ps_ret (pe_and (pe_callB call_isi (by rfl) m_isinstance (by decide +kernel) (pa_cons (pv 1) (pa_cons (pe_glob (v := .ref C) rfl gC rfl) pa_nil))) (pe_one (pe_cmpR (op_eqD hr.units) (pe_fld (pv 0) rfl) (pe_fld (pv 1) rfl) (nomark _))))), ?_⟩
    cases eq with
    | same h2 =>
      refine ⟨_, rfl, _, _, _, _, true, rfl, ClsV.own C, isi_ty T IC h2, by unfold PySem.W.kitOne; rw [if_pos (beq_self_eq_true _)], _, rfl, ?_⟩
      obtain ⟨f1, dx, t, ea, et⟩ := ht
      obtain ⟨f2, dx2, t2, ec, et2⟩ := h2
      refine ⟨.ref a, rfl, a, C, dx, _, _, rfl, ea, T.cl, T.nh, held_look, _, rfl, _, C, dx2, _, _, rfl, ec, T.cl, T.nh, held_look, _, _, .tup (SqT.of et) f1.dp, .tup (SqT.of et2) f2.dp, f1.shT, f2.shT, ?_⟩
      rw [eqv_tup f1 f2]
      exact q
    | other ty kk =>
      exact ⟨_, rfl, _, _, _, _, false, rfl, ClsV.own C, ty, kk, _, rfl, q⟩
/-! ### repr -/
def shw (nm : String) (vs : List V) : Str := Str.empty ++ Str.ofString nm ++ cj vs ++ Str.ofString ")"
def spRepr (C : Addr) (nm : String) : Sp := fun xs H Q _ => ∃ (a : Addr) (vs : List V), xs = [.ref a] ∧ IsT H C a vs ∧ vs.length ≤ 20 ∧ ∀ H', Same H H' → Q (.str (shw nm vs)) H'
theorem ok_reprO {C f fC : Addr} {fd fdC : FuncData} {k : Nat} (F : Fun K "__repr__" "Option.__repr__" st_Option_repr f fd) (T : ClsT K C) (D_comma_joined : Df K mg "comma_joined" st_comma_joined ["values"] fC fdC) (m_repr : mg "repr" = none) : FnOk P w K mg base CX0 (k + 2) f fd ["self"] (spRepr C "Option(") := by
  have G_comma_joined : FnOk P w K mg base CX0 (k + 1) fC fdC ["values"] (spComma K) := ok_comma D_comma_joined.F m_repr
  refine F.ok sc_Option_repr (fun vs H Q E h => ?_) (fun cdv A outer s H vs Q E hr h => ?_)
  · obtain ⟨a, us, rfl, _⟩ := h
    rfl
  · obtain ⟨a, us, rfl, ht, le, q⟩ := h
    have sl : sizeLine = 16777216 := sizeLine_eq
    refine ⟨_, pss_one (ps_ret (pe_joined (.cons pe_str (.cons (pe_fmt (pe_call G_comma_joined hr (by rfl) D_comma_joined.g D_comma_joined.F.kp D_comma_joined.b .nil pass0 (pa_cons (pe_fld (pv 0) rfl) pa_nil))) (.cons pe_str .nil))))), ?_⟩
    obtain ⟨f1, dx, t, ea, et⟩ := ht
    have l1 := cj_len f1 le
    have l2 : (Str.empty ++ Str.ofString "Option(").length = 7 := by decide +kernel
    have l3 : (Str.ofString ")").length = 1 := by decide +kernel
    refine ⟨_, rfl, by rw [l2]; omega, .ref a, rfl, a, C, dx, _, _, rfl, ea, T.cl, T.nh, held_look, t, us, rfl, et, f1, le, fun H' s' => .inl ⟨_, rfl, by omega, _, rfl, by rw [Str.length_append, l2]; omega, _, rfl, by rw [Str.length_append, Str.length_append, l2, l3]; omega, q H' s'⟩⟩
theorem ok_reprP {C f fC : Addr} {fd fdC : FuncData} {k : Nat} (F : Fun K "__repr__" "Place.__repr__" st_Place_repr f fd) (T : ClsT K C) (D_comma_joined : Df K mg "comma_joined" st_comma_joined ["values"] fC fdC) (m_repr : mg "repr" = none) : FnOk P w K mg base CX0 (k + 2) f fd ["self"] (spRepr C "Place(") := by
  have G_comma_joined : FnOk P w K mg base CX0 (k + 1) fC fdC ["values"] (spComma K) := ok_comma D_comma_joined.F m_repr
  refine F.ok sc_Place_repr (fun vs H Q E h => ?_) (fun cdv A outer s H vs Q E hr h => ?_)
  · obtain ⟨a, us, rfl, _⟩ := h
    rfl
  · obtain ⟨a, us, rfl, ht, le, q⟩ := h
    have sl : sizeLine = 16777216 := sizeLine_eq
    refine ⟨_, pss_one (ps_ret (pe_joined (.cons pe_str (.cons (pe_fmt (pe_call G_comma_joined hr (by rfl) D_comma_joined.g D_comma_joined.F.kp D_comma_joined.b .nil pass0 (pa_cons (pe_fld (pv 0) rfl) pa_nil))) (.cons pe_str .nil))))), ?_⟩
    obtain ⟨f1, dx, t, ea, et⟩ := ht
    have l1 := cj_len f1 le
    have l2 : (Str.empty ++ Str.ofString "Place(").length = 6 := by decide +kernel
    have l3 : (Str.ofString ")").length = 1 := by decide +kernel
    refine ⟨_, rfl, by rw [l2]; omega, .ref a, rfl, a, C, dx, _, _, rfl, ea, T.cl, T.nh, held_look, t, us, rfl, et, f1, le, fun H' s' => .inl ⟨_, rfl, by omega, _, rfl, by rw [Str.length_append, l2]; omega, _, rfl, by rw [Str.length_append, Str.length_append, l2, l3]; omega, q H' s'⟩⟩
end
end WB

set_option Elab.async false
set_option linter.all false
set_option maxRecDepth 100000
set_option maxHeartbeats 4000000
namespace WB
open PySem PySem.Spec PyProof.Rows L2 WG
open TL (tl)
/-! ### repr of instances -/
section
variable {X : Cx} {pins : List (Addr × Obj)} {σ : L2.St} {H : Hp} {s : Shared} {A : Around} {n : Nat} {E : Value → Shared → Prop}
theorem run_ownQ {f : Addr} {fd : FuncData} {ps : List Str} {sp : Sp} {xs : List V} {us : List Value} {want : VK} (F : FnOk X.prog X.w X.K X.mg X.base CX0 n f fd ps sp) (hb : Binds X.K fd ps []) (sb : Sub X n A) (I : Inv X pins σ H s) (r : Vals xs us) (h : sp xs H want E0) :
    wpAny (model X.prog X.w) A (call (.ref f) us) (fun w s' => ∃ v H', RelV v w ∧ Inv X pins σ H' s' ∧ want v H') E s := by
  have e0 : Env0 X.prog X.w X.K X.mg X.base A X.stack s H := by
    have e := I.env0
    exact ⟨by rw [sb.fr]; exact e.frames, e.mod, e.bs, e.bsz, e.funs, e.frf, e.hok, e.bare⟩
  have hl := F.len _ _ _ _ h
  have bb := hb s us I.kIn (by rw [List.append_nil, ← r.length]; exact hl)
  rw [List.append_nil] at bb
  refine wpAny_call (codeAny_mono (F.run A X.stack s H ⟨us, []⟩ us xs _ E0 sb.room e0 bb r h) fun q s' got => ?_)
  cases q with
  | error e => exact got.elim
  | ok fl =>
    cases fl with
    | ret w =>
      obtain ⟨z, H', I', rz, ez⟩ := I.after got
      exact ⟨z, H', rz, I', ez⟩
    | next => exact got.elim
    | brk => exact got.elim
    | cont => exact got.elim
/-- the instance at a is shown as t, by an own repr -/
def RpI (X : Cx) (n : Nat) (H : Hp) (a : Addr) (t : Str) : Prop := ∃ (C f dx : Addr) (fd : FuncData) (sp : Sp) (fs : List (Str × V)), FnOk X.prog X.w X.K X.mg X.base CX0 n f fd ["self"] sp ∧ Binds X.K fd ["self"] [] ∧ PySem.W.findIn X.K (.ref C) "__repr__" = some (some (.ref f)) ∧ PySem.W.isFn X.K (.ref f) = true ∧
  H a = some (.ins C dx fs) ∧ ∀ H1, Same H H1 → sp [.ref a] H1 (fun v H2 => v = .str t ∧ Same H1 H2) E0
theorem RpI.same {H' : Hp} {a : Addr} {t : Str} (h : RpI X n H a t) (s' : Same H H') : RpI X n H' a t := by
  obtain ⟨C, f, dx, fd, sp, fs, h1, h2, h3, h4, h5, h6⟩ := h
  exact ⟨C, f, dx, fd, sp, fs, h1, h2, h3, h4, s' _ _ h5, fun H1 s1 => h6 H1 (s'.trans s1)⟩
theorem RpI.call {a : Addr} {t : Str} (h : RpI X n H a t) (sb : Sub X n A) (I : Inv X pins σ H s) : ∃ (C f : Addr) (ox : Obj) (od : Option Obj), PySem.W.InstAt s.heap a ox C od ∧ PySem.W.findIn X.K (.ref C) "__repr__" = some (some (.ref f)) ∧ PySem.W.isFn X.K (.ref f) = true ∧
    wpAny (model X.prog X.w) A (call (.ref f) [.ref a]) (fun w s' => ∃ u H', w = .str t u ∧ Inv X pins σ H' s' ∧ Same H H') E s := by
  obtain ⟨C, f, dx, fd, sp, fs, h1, h2, h3, h4, h5, h6⟩ := h
  obtain ⟨mA, J, _⟩ := ins_get I.hok h5
  obtain ⟨od, J, _⟩ := J.look
  refine ⟨C, f, _, _, J, h3, h4, wpAny_mono (run_ownQ h1 h2 sb I (show Vals [V.ref a] [Value.ref a] from .cons rfl .nil) (h6 H (Same.refl _))) (fun w s' ⟨v, H', rv, I', ev, sm⟩ => ?_) fun _ _ e => e⟩
  subst ev
  obtain ⟨u, rfl⟩ := rv
  exact ⟨u, H', rfl, I', sm⟩
def rReprI (X : Cx) (n : Nat) : List V → Hp → VK → Prop := fun xs H Q => ∃ (a : Addr) (t : Str), xs = [.ref a] ∧ RpI X n H a t ∧ ∀ H', Same H H' → Q (.str t) H'
theorem call_reprI (hr : Room (n + 1) X.A) : CallR X (.builtin "repr") (rReprI X n) := by
  intro pins s σ H xs us Q I rels ask
  obtain ⟨a, t, rfl, rp, q⟩ := ask
  obtain ⟨u, rfl, rel⟩ := vals1 rels
  cases rel
  have sb : Sub X (n + 1) X.A := ⟨hr, rfl⟩
  obtain ⟨C, f, ox, od, J, h3, h4, run⟩ := rp.call (E := X.xe) sb.in1 I
  obtain ⟨m, hF⟩ := I.fr
  refine PySem.W.repr_K sb.in1.room.units0 hF I.ok.mod.kin J h3 h4 (wpAny_mono run (fun w s' ⟨u, H', ew, I', sm⟩ => ?_) fun _ _ e => e)
  subst ew
  exact ⟨.str t, H', I', ⟨u, rfl⟩, q H' sm⟩
theorem under_own {a : Addr} {t : Str} {b : Nat} (h : RpI X n H a t) (hb : b ≤ sizeLine) (sb : Sub X n A) (I : Inv X pins σ H s) : wpAny (model X.prog X.w) A (pyReprUnder b (.ref a)) (fun r s' => r = t ∧ ∃ H', Inv X pins σ H' s' ∧ Same H H') E s := by
  obtain ⟨C, f, ox, od, J, h3, h4, run⟩ := h.call (E := E) sb I
  refine wpAny_pyReprUnder_ref hb ?_
  unfold pyReprObjUnder pyReprObjBy
  refine wpAny_bind (wpAny_cRoomFor sb.room.units0 ?_)
  have look : PySem.W.Looks (model X.prog X.w) s.heap (specialOf (.ref a) "__repr__") (some (.ref f)) := J.type.andThen (PySem.W.looks_findIn I.kIn h3)
  refine wpAny_bind (look.here ?_)
  refine wpAny_bind ?_
  simp only [callSpecialIfBoundBy?, bindSpecialIfBound?]
  refine wpAny_holding (wpAny_bind (wpAny_bind (look.here ?_)))
  refine wpAny_bind (wpAny_askSetting (wpAny_ite ?_))
  have fin : wpAny (model X.prog X.w) A (call (.ref f) ([.ref a] ++ []) >>= fun v => pure (some v)) (fun r s' => wpAny (model X.prog X.w) A (match r with
      | some r => do
        if ← isInstance r (.type "str") then pure r else raiseError "TypeError" s!"__repr__ returned non-string (type {← typeNameOf r})"
      | none => unsupported "repr:special-get-raises") (fun v s' => ∃ x u, v = .str x u ∧ x = t ∧ ∃ H', Inv X pins σ H' s' ∧ Same H H') E s') E s := by
    refine wpAny_bind (wpAny_mono run (fun w s' ⟨u, H', ew, I', sm⟩ => wpAny_pure ?_) fun _ _ e => e)
    subst ew
    exact wpAny_bind (wpAny_isInstance (T := "str") (b := true) rfl isSubtype_str_str (wpAny_pure ⟨_, _, rfl, rfl, H', I', sm⟩))
  split
  · exact wpAny_bind ((PySem.W.bind_fn I.kIn _ (beq_iff_eq.mp h4)).here (wpAny_pure (by exact fin)))
  · exact wpAny_tryCatch (wpAny_bind ((PySem.W.bind_fn I.kIn _ (beq_iff_eq.mp h4)).here (wpAny_pure (by exact fin))))
end
end WB

set_option Elab.async false
set_option linter.all false
set_option maxRecDepth 100000
set_option maxHeartbeats 4000000
namespace WB
open PySem PySem.Spec PyProof.Rows L2 WG
open Builtin Builtin.List
open TL (tl)
theorem vals_texts : ∀ {ts : List Str} {its : List Value}, Vals (ts.map V.str) its → ∃ done : List (Str × Tok), its = strValues done ∧ done.map (·.1) = ts
  | [], _, .nil => ⟨[], rfl, rfl⟩
  | t :: r, _, .cons h1 h2 => by
    obtain ⟨u, rfl⟩ := h1
    obtain ⟨done, rfl, e⟩ := vals_texts h2
    exact ⟨(t, u) :: done, rfl, by rw [List.map_cons, e]⟩
section
variable {X : Cx} {pins : List (Addr × Obj)} {σ : L2.St} {H : Hp} {A : Around} {n : Nat}
theorem sub_loop {args : Args} (sb : Sub X (n + 1) A) : Sub X n (A.under (.builtin "list.__repr__.loop" args)) := by
  refine ⟨⟨?_, ?_, ?_⟩, ?_⟩
  · have := sb.room.hd
    first | exact this | simpa [Around.under] using this
  · have h1 := sb.room.dp
    have h2 : (A.under (.builtin "list.__repr__.loop" args)).depth ≤ A.depth + 1 := by
      first
      | exact Nat.le_succ _
      | exact Nat.le_refl _
      | simp [Around.under, Code.weight, Code.isCreation, Code.isGuard, Code.isCaller, Code.frames, Code.isFrame, guardIds]
    omega
  · have h1 := sb.room.un
    rw [units_under_list_loop]
    omega
  · have := sb.fr
    first | exact this | simpa [Around.under, Code.frames, Code.isFrame] using this
/-- the turns of a list's repr, its items instances -/
theorem loopI {R : Result → Shared → Prop} {l P : Addr} {as : List Addr} {ts : List Str} (sb : Sub X (n + 1) A) (hlp : l ≠ P) (el : H l = some (.lst (as.map V.ref))) (hlen : ts.length = as.length) (hT : ∀ (i : Nat) (a : Addr), as[i]? = some a → ∃ t, ts[i]? = some t ∧ RpI X n H a t) (hsz : (listText ts).length ≤ sizeLine)
    (hR : ∀ s' u H', Inv X pins σ H' s' → Same H H' → R (.ok (.ret (.str (listText ts) u))) s') :
    ∀ (k i : Nat) (s : Shared) (Hi : Hp), as.length - i = k → i ≤ as.length → Inv X pins σ Hi s → Same H Hi → H P = none → Hi P = some (.lst ((ts.take i).map V.str)) →
      codeAny (model X.prog X.w) A (.builtin "list.__repr__.loop" ⟨[.ref l, rawInt i, .ref P, rawInt ((piled (ts.take i) : Nat) : Int)], []⟩) R s := by
  have hX : (listText ts).length = (textFrom 0 "[" ts).length + 1 := by
    show (textFrom 0 "[" ts ++ "]").length = _
    rw [strLen_append]
    rfl
  have hL := textFrom_len ts 0 "["
  have many : as.length ≤ sizeLine := by
    have h1 := hL.1
    rw [if_neg (Nat.lt_irrefl 0)] at h1
    omega
  have short : ∀ t ∈ ts, t.length ≤ sizeLine := fun t ht => by
    have h2 := hL.2.1 t ht
    omega
  have pile := piled_le_listText ts
  intro k
  induction k with
  | zero =>
    intro i s Hi hk hi I sm hPn eP
    have hin : i = as.length := by omega
    obtain ⟨its, rv, ⟨o, no, ho, hc, hdx, hd⟩, _⟩ := I.list (SqL.of (sm _ _ el))
    obtain ⟨_, jts, nP, rP, gP⟩ := (show ObjOk _ _ Hi s.heap P (.lst _) from I.hok P _ eP)
    obtain ⟨done, rfl, ed⟩ := vals_texts rP
    have il : its.length = as.length := by
      have := rv.length
      rw [List.length_map] at this
      exact this.symm
    refine codeAny_builtin F.entry_list_repr_loop ?_
    show wpAny _ _ («list.__repr__.loop» ⟨[.ref l, .int i 0, .ref P, .int ((piled (ts.take i) : Nat) : Int) 0], []⟩) _ _ s
    rw [repr_loop_tree]
    refine wpAny_bind (wpAny_listItems ho hd ?_)
    have hnone : its.toArray[(i : Int).toNat]? = none := by simp; omega
    simp only [hnone]
    unfold reprEnd
    refine wpAny_bind (wpAny_listItems gP rfl ?_)
    show wpAny _ _ (forIn (strValues done).zipIdx _ reprBody >>= _) _ _ _
    rw [repr_fold]
    refine wpAny_bind (wpAny_pure ?_)
    rw [ed, hin, ← hlen, List.take_length]
    exact wpAny_bind (wpAny_mkStr (wpAny_pure (hR _ _ Hi (I.tok _) sm)) hsz)
  | succ k ih =>
    intro i s Hi hk hi I sm hPn eP
    have lt : i < as.length := by omega
    obtain ⟨its, rv, ⟨o, no, ho, hc, hdx, hd⟩, _⟩ := I.list (SqL.of (sm _ _ el))
    obtain ⟨t, ht, rp⟩ := hT i as[i] (List.getElem?_eq_getElem lt)
    have ea : (as.map V.ref)[i]? = some (.ref as[i]) := by rw [List.getElem?_map, List.getElem?_eq_getElem lt]; rfl
    obtain ⟨u, eu, ru⟩ := rv.get ea
    cases ru
    have step := piled_take_succ ht
    have most := piled_take_le ts (i + 1)
    refine codeAny_builtin F.entry_list_repr_loop ?_
    show wpAny _ _ («list.__repr__.loop» ⟨[.ref l, .int i 0, .ref P, .int ((piled (ts.take i) : Nat) : Int) 0], []⟩) _ _ s
    rw [repr_loop_tree]
    refine wpAny_bind (wpAny_listItems ho hd ?_)
    have hsome : its.toArray[(i : Int).toNat]? = some (.ref as[i]) := by simpa using eu
    simp only [hsome]
    rw [Int.toNat_natCast]
    refine wpAny_bind (wpAny_holding (wpAny_mono (under_own (rp.same sm) (by omega) (sub_loop sb) I) (fun r s2 ⟨er, H2, I2, sm2⟩ => ?_) fun _ _ e => e))
    subst er
    refine wpAny_bind (wpAny_mkStr ?_ (short r (List.mem_of_getElem? ht)))
    refine wpAny_bind ?_
    show wpAny _ _ (updateSeq P _) _ _ _
    have eP2 := sm2 _ _ eP
    obtain ⟨zl, jts, nP, rP, gP⟩ := (show ObjOk _ _ H2 s2.heap P (.lst _) from I2.hok P _ eP2)
    have jl := rP.length
    rw [List.length_map, List.length_take] at jl
    refine wpAny_updateSeq (s := { s2 with toks := s2.toks + 1 }) gP rfl (wpAny_pure ⟨F.quiet_list_repr_loop _, ?_⟩) (by rw [List.size_toArray]; omega)
    have e1 : ((i : Int) + 1) = ((i + 1 : Nat) : Int) := by omega
    have e2 : piled (ts.take i) + (r.length + 2) = piled (ts.take (i + 1)) := by omega
    rw [e1, e2]
    have I3 : Inv X pins σ (upd H2 P (.lst ((ts.take i).map V.str ++ [.str r]))) { s2 with heap := s2.heap.update P (Obj.mapSeq fun xs => xs.push (.str r s2.toks)), toks := s2.toks + 1 } :=
      I2.lset (its' := jts ++ [.str r s2.toks]) eP2 gP (by simp) (rP.append (.cons ⟨_, rfl⟩ .nil)) (by rw [List.length_append, List.length_map, List.length_take]; show _ + 1 ≤ _; omega)
    refine ih (i + 1) _ _ (by omega) lt I3 (fun b ob e => ?_) hPn ?_
    · rw [upd_ne (ne_of_none e hPn)]
      exact sm2 _ _ (sm _ _ e)
    · rw [upd_same, List.take_add_one, ht, List.map_append]
      rfl
def rReprIs (X : Cx) (n : Nat) : List V → Hp → VK → Prop := fun xs H Q => ∃ (l : Addr) (as : List Addr) (ts : List Str), xs = [.ref l] ∧ H l = some (.lst (as.map V.ref)) ∧ as ≠ [] ∧ ts.length = as.length ∧ (∀ (i : Nat) (a : Addr), as[i]? = some a → ∃ t, ts[i]? = some t ∧ RpI X n H a t) ∧ (listText ts).length ≤ sizeLine ∧ ∀ H', Same H H' → Q (.str (listText ts)) H'
/-- repr of a list of instances -/
theorem call_reprIs (hg : X.A.guards = some []) (hr : Room (n + 2) X.A) : CallR X (.builtin "repr") (rReprIs X n) := by
  intro pins s σ H xs us Q I rels ask
  obtain ⟨l, as, ts, rfl, el, ne, hlen, hT, hsz, q⟩ := ask
  obtain ⟨u, rfl, rel⟩ := vals1 rels
  cases rel
  have sb : Sub X (n + 2) X.A := ⟨hr, rfl⟩
  obtain ⟨its, rv, ⟨o, no, ho, hc, hdx, hd⟩, _⟩ := I.list (SqL.of el)
  cases its with
  | nil =>
    have := rv.length
    rw [List.length_map] at this
    exact absurd (List.length_eq_zero_iff.mp this) ne
  | cons x xl =>
    refine call_repr_slot (T := "list") (idr := "list.__repr__") (by have := hr.un; omega) ⟨o, ho, hc⟩ F.slot_list_repr.toG ?_
    refine wpAny_call (codeAny_call_builtin F.slot_list_repr.plain F.entry_list_repr (F.slot_list_repr.check _ _ _ _ _ _ _ _ ⟨o, ho, hc⟩ (F.args_list_repr_1 _) ?_))
    refine wpAny_list_repr_head (A := X.A.in1.in1) (g := []) (b := 0) hg (fun v rest kw hm => nomatch hm) ho hd ?_
    refine wpAny_bind (m := newList []) (wpAny_newObj_type ?_)
    refine wpAny_pure ⟨F.quiet_list_repr_loop _, ?_⟩
    have hPn : H s.heap.objs.size = none := I.hok.fresh (Nat.le_refl _)
    have lt : l < s.heap.objs.size := Heap.lt_size ho
    have I1 : Inv X pins σ (upd H s.heap.objs.size (.lst [])) { s with heap := s.heap.push { cls := .type "list", data := .seq ([] : List Value).toArray }, toks := s.toks } := I.lnew .nil (Nat.zero_le _)
    exact loopI (R := callEnd _ _) sb.in1 (Nat.ne_of_lt lt) el hlen hT hsz (fun s' u H' I' sm => ⟨_, _, rfl, .str _, H', I', ⟨u, rfl⟩, q H' sm⟩) _ 0 _ _ rfl (Nat.zero_le _) I1 (same_upd hPn) hPn upd_same
end
end WB

set_option Elab.async false
set_option linter.all false
set_option maxRecDepth 100000
set_option maxHeartbeats 4000000
namespace WB
open PySem PySem.Spec PyProof.Rows L2 WG
open TL (tl)
abbrev st_option : Stmt := topS 34
theorem sc_option : FnScope ["_law_pot_here", "_law_letters", "_law_takes", "_law_short", "_law_default", "_law_needed", "_law_off"] ["_law_pot_here"] (defScope st_option) := ⟨rfl, rfl, rfl, by decide +kernel, rfl, by decide +kernel, by decide +kernel⟩
abbrev st_place : Stmt := topS 35
theorem sc_place : FnScope ["_law_pot_here", "_law_many", "_law_default"] ["_law_pot_here"] (defScope st_place) := ⟨rfl, rfl, rfl, by decide +kernel, rfl, by decide +kernel, by decide +kernel⟩
theorem ev_gen {t : TE} {σ : L2.St} {H : Hp} (D : V → Hp → Prop) {R : VK} (e : ∀ R : VK, (∀ v H', D v H' → R v H') → t σ H R) (c : ∀ v H', D v H' → R v H') : t σ H R := e R c
theorem ts_gen {t : TS} {κ : L2.Ends} {σ : L2.St} {H : Hp} (D : L2.St → Hp → Prop) (e : ∀ κ : L2.Ends, (∀ σ' H', D σ' H' → κ.nx σ' H') → t κ σ H) (c : ∀ σ' H', D σ' H' → κ.nx σ' H') : t κ σ H := e κ c
/-! ### arguments as they may be -/
def isDf (v : V) : Prop := v = .non ∨ ∃ y, v = .str y ∧ Tx 60 y
def isBl (v : V) : Prop := ∃ b, v = .bl b
def okO : Nat → V → Prop
  | 0, v => isNm v = true
  | 1, v => isSh v = true
  | 2, v => among v takesL = true
  | 3, v => isNm v = true
  | 4, v => isDf v
  | 5, v => isBl v
  | 6, v => isBl v
  | _, v => isAb v = true
def okP : Nat → V → Prop
  | 0, v => isNm v = true
  | 1, v => among v WP.manies = true
  | 2, v => isNm v = true
  | 3, v => isDf v
  | _, v => isAb v = true
structure Fd (n : Nat) (ok : Nat → V → Prop) (vs : List V) : Prop where
  len : vs.length = n
  at_ : ∀ i v, vs[i]? = some v → ok i v ∧ Fl v
theorem Fd.fl {n : Nat} {ok : Nat → V → Prop} {vs : List V} (h : Fd n ok vs) : AllFl vs := fun v hv => by
  obtain ⟨i, hi, e⟩ := List.mem_iff_getElem.mp hv
  exact (h.at_ i v (by rw [List.getElem?_eq_getElem hi, e])).2
theorem Fd.set {n : Nat} {ok : Nat → V → Prop} {vs : List V} (h : Fd n ok vs) {i : Nat} {v : V} (hv : ok i v ∧ Fl v) : Fd n ok (vs.set i v) := by
  refine ⟨by rw [List.length_set]; exact h.len, fun j w e => ?_⟩
  by_cases q : j = i
  · subst q
    by_cases lt : j < vs.length
    · rw [List.getElem?_set_self lt] at e
      cases e
      exact hv
    · rw [List.getElem?_eq_none (by rw [List.length_set]; omega)] at e
      cases e
  · rw [List.getElem?_set_ne (Ne.symm q)] at e
    exact h.at_ j w e
def crossO (v2 v4 v5 v6 : V) : Prop := (v4 = .non ∨ single v2 = true) ∧ (v6 = .bl true → plain v2 = true) ∧ (v5 = .bl true → plain v2 = false ∧ v4 = .non)
def crossP (v1 v3 : V) : Prop := v3 = .non ∨ v1 = .str (Str.ofString "maybe")
def OptV (vs : List V) : Prop := Fd 8 okO vs ∧ ∃ v0 v1 v2 v3 v4 v5 v6 v7, vs = [v0, v1, v2, v3, v4, v5, v6, v7] ∧ crossO v2 v4 v5 v6
def PlcV (vs : List V) : Prop := Fd 5 okP vs ∧ ∃ v0 v1 v2 v3 v4, vs = [v0, v1, v2, v3, v4] ∧ crossP v1 v3
theorem dflt_ok {v : V} {b : Bool} (h : isDf v) (k : v = .non ∨ b = true) : dflt v b = true := by
  unfold dflt
  rcases h with rfl | ⟨y, rfl, ty⟩
  · rw [decide_eq_true rfl, Bool.true_or]
  · rcases k with k | k
    · cases k
    · rw [k, show within (.str y) 60 = true from decide_eq_true (by have := ty.le; omega), Bool.true_and, Bool.or_true]
theorem OptV.right {v0 v1 v2 v3 v4 v5 v6 v7 : V} (h : OptV [v0, v1, v2, v3, v4, v5, v6, v7]) : wrongF v0 v1 v2 v3 v4 v5 v6 v7 = Str.ofString "" := by
  obtain ⟨fd, _, _, _, _, _, _, _, _, e, c1, c2, c3⟩ := h
  cases e
  have h0 : isNm v0 = true := (fd.at_ 0 v0 rfl).1
  have h1 : isSh v1 = true := (fd.at_ 1 v1 rfl).1
  have h2 : among v2 takesL = true := (fd.at_ 2 v2 rfl).1
  have h3 : isNm v3 = true := (fd.at_ 3 v3 rfl).1
  have h4 : isDf v4 := (fd.at_ 4 v4 rfl).1
  obtain ⟨b5, e5⟩ : isBl v5 := (fd.at_ 5 v5 rfl).1
  obtain ⟨b6, e6⟩ : isBl v6 := (fd.at_ 6 v6 rfl).1
  have h7 : isAb v7 = true := (fd.at_ 7 v7 rfl).1
  have d4 := dflt_ok h4 c1
  have t5 : trth v5 (!plain v2 && decide (v4 = .non)) = true := by
    rw [e5]
    cases b5 with
    | false => show (_ || true) = true; rw [Bool.or_true]
    | true =>
      obtain ⟨q1, q2⟩ := c3 e5
      show (_ || _) = true
      rw [q1, decide_eq_true q2]
      rfl
  have t6 : trth v6 (plain v2) = true := by
    rw [e6]
    cases b6 with
    | false => show (_ || true) = true; rw [Bool.or_true]
    | true =>
      show (_ || _) = true
      rw [c2 e6]
      rfl
  unfold wrongF
  rw [h0, h1, h2, h3, d4, t5, t6, h7]
  rfl
theorem PlcV.right {v0 v1 v2 v3 v4 : V} (h : PlcV [v0, v1, v2, v3, v4]) : WP.wrongF v0 v1 v2 v3 v4 = Str.ofString "" := by
  obtain ⟨fd, _, _, _, _, _, e, c1⟩ := h
  cases e
  have h0 : isNm v0 = true := (fd.at_ 0 v0 rfl).1
  have h1 : among v1 WP.manies = true := (fd.at_ 1 v1 rfl).1
  have h2 : isNm v2 = true := (fd.at_ 2 v2 rfl).1
  have h3 : isDf v3 := (fd.at_ 3 v3 rfl).1
  have h4 : isAb v4 = true := (fd.at_ 4 v4 rfl).1
  have d3 := dflt_ok (b := WP.isMb v1) h3 (c1.elim .inl fun e => .inr (decide_eq_true e))
  unfold WP.wrongF
  rw [h0, h1, h2, d3, h4]
  rfl
theorem nm_fl {y : Str} (h : nm (tl y) = true) : Fl (.str y) := by
  unfold nm at h
  simp only [Bool.and_eq_true, decide_eq_true_eq] at h
  refine .str ⟨by rw [TL.len_tl]; have := h.1.1.1.1.2; omega, fun c hc => ?_⟩
  have := of_decide_eq_true (List.all_eq_true.mp h.2 c hc)
  exact (by decide +kernel : ∀ c ∈ tl nameSet, c < 256) c this
theorem mem_8 {α : Type} {P : Nat → α → Prop} {a0 a1 a2 a3 a4 a5 a6 a7 : α} (h0 : P 0 a0) (h1 : P 1 a1) (h2 : P 2 a2) (h3 : P 3 a3) (h4 : P 4 a4) (h5 : P 5 a5) (h6 : P 6 a6) (h7 : P 7 a7) : ∀ i v, [a0, a1, a2, a3, a4, a5, a6, a7][i]? = some v → P i v := by
  intro i v e
  match i, e with
  | 0, e => cases e; exact h0
  | 1, e => cases e; exact h1
  | 2, e => cases e; exact h2
  | 3, e => cases e; exact h3
  | 4, e => cases e; exact h4
  | 5, e => cases e; exact h5
  | 6, e => cases e; exact h6
  | 7, e => cases e; exact h7
theorem mem_5 {α : Type} {P : Nat → α → Prop} {a0 a1 a2 a3 a4 : α} (h0 : P 0 a0) (h1 : P 1 a1) (h2 : P 2 a2) (h3 : P 3 a3) (h4 : P 4 a4) : ∀ i v, [a0, a1, a2, a3, a4][i]? = some v → P i v := by
  intro i v e
  match i, e with
  | 0, e => cases e; exact h0
  | 1, e => cases e; exact h1
  | 2, e => cases e; exact h2
  | 3, e => cases e; exact h3
  | 4, e => cases e; exact h4
theorem let_in : ∀ c ∈ tl letters, inLet ⟨#[c]⟩ = true := by decide +kernel
theorem let_short {c : Nat} {m : Nat} {y : Str} (hc : c ∈ tl letters) (hm : m ≤ 1) (hy : y.length = m) (hyc : ∀ d ∈ tl y, d ∈ [c]) : isSh (.str y) = true := by
  show (decide ((y.length : Int) ≤ 1) && inLet y) = true
  rw [decide_eq_true (by omega), Bool.true_and]
  have hl := TL.len_tl y
  cases ht : tl y with
  | nil =>
    have e : y = Str.ofString "" := TL.ext_tl (by rw [ht]; decide +kernel)
    rw [e]
    decide +kernel
  | cons d r =>
    rw [ht] at hl hyc
    have r0 : r = [] := by
      cases r with
      | nil => rfl
      | cons a b =>
        have : (d :: a :: b).length = b.length + 2 := rfl
        omega
    have d0 : d = c := List.mem_singleton.mp (hyc d List.mem_cons_self)
    have e : y = ⟨#[c]⟩ := TL.ext_tl (by rw [ht, r0, d0])
    rw [e]
    exact let_in c hc
theorem takes_facts : ∀ z ∈ takesL, among (.str z) takesL = true ∧ (inV (.str z) [.str (Str.ofString "one"), .str (Str.ofString "last"), .str (Str.ofString "each")] = true → plain (.str z) = false) ∧ z.length ≤ 300 ∧ ∀ c ∈ tl z, c < 256 := by decide +kernel
theorem manies_facts : ∀ z ∈ WP.manies, among (.str z) WP.manies = true ∧ z.length ≤ 300 ∧ ∀ c ∈ tl z, c < 256 := by decide +kernel
section
variable {P : Program} {w : World} {K : PySem.W.Frag} {mg : Str → Option Value} {base : Heap}
def spArgs (V' : List V → Prop) : Sp := fun vs H Q _ => ∃ p : Addr, vs = [.ref p] ∧ Pot H p ∧ ∀ H' l (us : List V), But p H H' → Pot H' p → H l = none → l ≠ p → H' l = some (.lst us) → V' us → Q (.ref l) H'
theorem ok_option {f fT fN fA fX fS : Addr} {fd fdT fdN fdA fdX fdS : FuncData} {k : Nat} (F : Fun K "_law_option" "_law_option" st_option f fd) (D_take : Df K mg "_law_take" sTake ["_law_pot_here", "_law_room"] fT fdT) (D_name : Df K mg "_law_name" sName ["_law_pot_here"] fN fdN)
    (D_about : Df K mg "_law_about" sAbout ["_law_pot_here"] fA fdA) (D_text : Df K mg "_law_text" sText ["_law_pot_here"] fX fdX) (D_signs : Df K mg "_law_signs" sSigns ["_law_pot_here", "_law_most"] fS fdS) (m_len : mg "len" = none) (m_range : mg "range" = none) :
    FnOk P w K mg base CX0 (k + 4) f fd ["_law_pot_here"] (spArgs OptV) := by
  have G_take : FnOk P w K mg base CX0 (k + 3) fT fdT ["_law_pot_here", "_law_room"] spTake := ok_take D_take.F
  have G_name : FnOk P w K mg base CX0 (k + 3) fN fdN ["_law_pot_here"] spNm := ok_nm D_name.F D_take m_len m_range
  have G_about : FnOk P w K mg base CX0 (k + 3) fA fdA ["_law_pot_here"] spAb := ok_ab D_about.F D_take D_signs m_len m_range
  have G_text : FnOk P w K mg base CX0 (k + 3) fX fdX ["_law_pot_here"] (spDrawn 60) := ok_text D_text.F D_take D_signs m_len m_range
  refine F.ok sc_option (fun vs H Q E h => ?_) (fun cdv A outer s H vs Q E hr h => ?_)
  · obtain ⟨p, rfl, _⟩ := h
    rfl
  · obtain ⟨p, rfl, hp, q⟩ := h
    refine ⟨_, pss_cons (ps_set (i := 1) sc_option.nd rfl (.inl rfl) pe_str)
      (pss_cons (ps_set (i := 2) sc_option.nd rfl (.inl rfl) (pe_ix ix_list (pe_lst (pa_cons pe_str (pa_cons pe_str (pa_cons pe_str (pa_cons pe_str (pa_cons pe_str pa_nil)))))) (pe_call G_take hr (by rfl) D_take.g D_take.F.kp D_take.b .nil pass0 (pa_cons (pv 0) (pa_cons pe_int pa_nil))) (fun _ _ => rfl)))
      (pss_cons (ps_set (i := 3) sc_option.nd rfl (.inl rfl) (pe_op op_mul_str (pe_ix ix_str (pv 1) (pe_call G_take hr (by rfl) D_take.g D_take.F.kp D_take.b .nil pass0 (pa_cons (pv 0) (pa_cons pe_int pa_nil))) (fun _ _ => rfl)) (pe_call G_take hr (by rfl) D_take.g D_take.F.kp D_take.b .nil pass0 (pa_cons (pv 0) (pa_cons pe_int pa_nil)))))
      (pss_cons (ps_set (i := 4) sc_option.nd rfl (.inl rfl) pe_non)
      (pss_cons (ps_if (PW.pt (pw_and (pt_cmpR op_in_seq (pv 2) (pe_tup (pa_cons pe_str (pa_cons pe_str pa_nil))) (by rfl)) (pw_and1 (pt_cmpR op_eq (pe_call G_take hr (by rfl) D_take.g D_take.F.kp D_take.b .nil pass0 (pa_cons (pv 0) (pa_cons pe_int pa_nil))) pe_int (nomark _))))) (pss_one (ps_set (i := 4) sc_option.nd rfl (.inl rfl) (pe_call G_text hr (by rfl) D_text.g D_text.F.kp D_text.b .nil pass0 (pa_cons (pv 0) pa_nil)))) pss_nil)
      (pss_cons (ps_set (i := 5) sc_option.nd rfl (.inl rfl) (pe_and (pe_cmpR op_in_seq (pv 2) (pe_tup (pa_cons pe_str (pa_cons pe_str (pa_cons pe_str pa_nil)))) (by rfl)) (pe_and (pe_cmpR op_isN (pv 4) pe_non (nomark _)) (pe_one (pe_cmpR op_eq (pe_call G_take hr (by rfl) D_take.g D_take.F.kp D_take.b .nil pass0 (pa_cons (pv 0) (pa_cons pe_int pa_nil))) pe_int (nomark _))))))
      (pss_cons (ps_set (i := 6) sc_option.nd rfl (.inl rfl) (pe_and (pe_cmpR op_in_seq (pv 2) (pe_tup (pa_cons pe_str (pa_cons pe_str pa_nil))) (by rfl)) (pe_one (pe_cmpR op_eq (pe_call G_take hr (by rfl) D_take.g D_take.F.kp D_take.b .nil pass0 (pa_cons (pv 0) (pa_cons pe_int pa_nil))) pe_int (nomark _)))))
      (pss_one (ps_ret (pe_lst (pa_cons (pe_call G_name hr (by rfl) D_name.g D_name.F.kp D_name.b .nil pass0 (pa_cons (pv 0) pa_nil)) (pa_cons (pv 3) (pa_cons (pv 2) (pa_cons (pe_call G_name hr (by rfl) D_name.g D_name.F.kp D_name.b .nil pass0 (pa_cons (pv 0) pa_nil)) (pa_cons (pv 4) (pa_cons (pv 5) (pa_cons (pv 6) (pa_cons (pe_call G_about hr (by rfl) D_about.g D_about.F.kp D_about.b .nil pass0 (pa_cons (pv 0) pa_nil)) pa_nil))))))))))))))))), ?_⟩
    refine ⟨by decide +kernel, fun l1 n1 => ?_⟩
    have p1 := hp.new (o := .lst (takesL.map V.str)) n1
    have nl1 := hp.ne n1
    refine ⟨.ref p, rfl, p, 5, rfl, p1, by decide, by decide, fun H2 d2 b2 p2 d20 d21 => ?_⟩
    obtain ⟨z, hzm, hze⟩ := at_strs takesL d2 d20 (by show d2 < 5; exact d21)
    obtain ⟨zam, znp, zl, zc⟩ := takes_facts z hzm
    have tz : Tx 300 z := ⟨zl, zc⟩
    have bb2 : But p H H2 := (But.new n1).trans b2
    refine ⟨l1, _, d2, .str z, rfl, rfl, SqL.of (b2 _ _ nl1.symm upd_same), hze, ?_⟩
    have hlen : letters.length = 52 := by decide +kernel
    have hltl : ∀ c ∈ tl letters, c < 256 := by decide +kernel
    refine ⟨.str letters, rfl, .ref p, rfl, p, 52, rfl, p2, by decide, by decide, fun H3 d3 b3 p3 d30 d31 => ?_⟩
    obtain ⟨n, rfl⟩ := Int.eq_ofNat_of_zero_le d30
    have hn : n < letters.cps.toList.length := by
      have e : letters.cps.toList.length = letters.length := by simp [Str.length]
      omega
    refine ⟨letters, n, letters.cps.toList[n], rfl, rfl, by rw [hlen]; decide, atI_nat (List.getElem?_eq_getElem hn), ?_⟩
    have hcm : letters.cps.toList[n] ∈ tl letters := List.getElem_mem hn
    refine ⟨.ref p, rfl, p, 2, rfl, p3, by decide, by decide, fun H4 d4 b4 p4 d40 d41 => ?_⟩
    obtain ⟨m, rfl⟩ := Int.eq_ofNat_of_zero_le d40
    refine ⟨_, m, rfl, rfl, by omega, by show 1 ≤ 1000; decide, fun y hy hyc => ?_⟩
    have hy1 : y.length = m := by rw [hy]; show 1 * m = m; omega
    have shY : isSh (.str y) = true := let_short hcm (by omega) hy1 (fun d hd => hyc d hd)
    have ty : Tx 300 y := ⟨by omega, fun c h => by
      have e : c ∈ [letters.cps.toList[n]] := hyc c h
      rw [List.mem_singleton.mp e]
      exact hltl _ hcm⟩
    have bb4 : But p H H4 := (bb2.trans b3).trans b4
    dsimp only [tSeq, tAsg, tC, gName]
    refine ts_gen (t := tIfS _ _ _) (fun σ' H' => But p H H' ∧ Pot H' p ∧ ∃ v4 : V, (isDf v4 ∧ (v4 = .non ∨ single (.str z) = true)) ∧ σ' = [some (.ref p), some (.str letters), some (.str z), some (.str y), some v4, none, none]) (fun κ c => ?_) ?_
    · refine ⟨_, rfl, by show 2 ≤ sizeLine; decide, fun t nt => ?_⟩
      refine ⟨t, _, rfl, .inr (SqT.of upd_same), rfl, rfl, _, rfl, ite2 (fun e => ?_) (fun e => ?_)⟩
      · refine ⟨.ref p, rfl, p, 2, rfl, p4.new nt, by decide, by decide, fun H5 d5 b5 p5 d50 d51 => ⟨rfl, _, rfl, ite2 (fun e2 => ?_) (fun e2 => ?_)⟩⟩
        · exact ⟨.ref p, rfl, p, rfl, p5, fun H6 y6 b6 p6 t6 => c _ _ ⟨((bb4.trans (But.new nt)).trans b5).trans b6, p6, .str y6, ⟨.inr ⟨y6, rfl, t6⟩, .inr e⟩, rfl⟩⟩
        · exact c _ _ ⟨(bb4.trans (But.new nt)).trans b5, p5, .non, ⟨.inl rfl, .inl rfl⟩, rfl⟩
      · exact c _ _ ⟨bb4.trans (But.new nt), p4.new nt, .non, ⟨.inl rfl, .inl rfl⟩, rfl⟩
    rintro σ5 H5 ⟨bb5, p5, v4, ⟨df4, cr4⟩, rfl⟩
    dsimp only
    refine ev_gen (t := tAndV _ _) (fun v H' => But p H H' ∧ Pot H' p ∧ ∃ b, v = .bl b ∧ (b = true → plain (.str z) = false ∧ v4 = .non)) (fun R c => ?_) ?_
    · refine ⟨_, rfl, by show 3 ≤ sizeLine; decide, fun t nt => ?_⟩
      refine ⟨t, _, rfl, .inr (SqT.of upd_same), rfl, rfl, _, rfl, ite2 (fun e => ?_) (fun e => ?_)⟩
      · refine ⟨v4, rfl, rfl, _, rfl, ite2 (fun e4 => ?_) (fun e4 => ?_)⟩
        · exact ⟨.ref p, rfl, p, 3, rfl, p5.new nt, by decide, by decide, fun H6 d6 b6 p6 d60 d61 => ⟨rfl, c _ _ ⟨(bb5.trans (But.new nt)).trans b6, p6, _, rfl, fun _ => ⟨znp e, of_decide_eq_true e4⟩⟩⟩⟩
        · exact c _ _ ⟨bb5.trans (But.new nt), p5.new nt, _, rfl, fun z => by cases z⟩
      · exact c _ _ ⟨bb5.trans (But.new nt), p5.new nt, _, rfl, fun z => by cases z⟩
    rintro _ H6 ⟨bb6, p6, b6', rfl, c6⟩
    dsimp only [tSeq, tAsg, tC, gName]
    refine ev_gen (t := tAndV _ _) (fun v H' => But p H H' ∧ Pot H' p ∧ ∃ b, v = .bl b ∧ (b = true → plain (.str z) = true)) (fun R c => ?_) ?_
    · refine ⟨_, rfl, by show 2 ≤ sizeLine; decide, fun t nt => ?_⟩
      refine ⟨t, _, rfl, .inr (SqT.of upd_same), rfl, rfl, _, rfl, ite2 (fun e => ?_) (fun e => ?_)⟩
      · exact ⟨.ref p, rfl, p, 2, rfl, p6.new nt, by decide, by decide, fun H7 d7 b7 p7 d70 d71 => ⟨rfl, c _ _ ⟨(bb6.trans (But.new nt)).trans b7, p7, _, rfl, fun _ => e⟩⟩⟩
      · exact c _ _ ⟨bb6.trans (But.new nt), p6.new nt, _, rfl, fun z => by cases z⟩
    rintro _ H7 ⟨bb7, p7, b7', rfl, c7⟩
    refine ⟨.ref p, rfl, p, rfl, p7, fun H8 y8 b8 p8 t8 => ⟨_, rfl, _, rfl, .ref p, rfl, p, rfl, p8, fun H9 y9 b9 p9 t9 => ⟨_, rfl, _, rfl, _, rfl, .ref p, rfl, p, rfl, p9, fun H10 y10 b10 p10 t10 a10 => ⟨by show 8 ≤ sizeLine; decide, fun l nl => ?_⟩⟩⟩⟩
    have bb : But p H H10 := ((bb7.trans b8).trans b9).trans b10
    have nlp : l ≠ p := (p10.ne nl).symm
    have fr : H l = none := by
      cases e : H l with
      | none => rfl
      | some o =>
        rw [bb l o nlp e] at nl
        cases nl
    have f4 : Fl v4 := by
      rcases df4 with rfl | ⟨x, rfl, tx⟩
      · exact .non
      · exact .str (tx.mono (by decide))
    refine q _ l _ (bb.trans (But.new nl)) (p10.new nl) fr nlp upd_same ⟨⟨rfl, mem_8 ⟨t8, nm_fl t8⟩ ⟨shY, .str ty⟩ ⟨zam, .str tz⟩ ⟨t9, nm_fl t9⟩ ⟨df4, f4⟩ ⟨⟨_, rfl⟩, .bl _⟩ ⟨⟨_, rfl⟩, .bl _⟩ ⟨a10, .str t10⟩⟩, _, _, _, _, _, _, _, _, rfl, cr4, fun e => c7 (V.bl.inj e), fun e => c6 (V.bl.inj e)⟩
theorem ok_place {f fT fN fA fX fS : Addr} {fd fdT fdN fdA fdX fdS : FuncData} {k : Nat} (F : Fun K "_law_place" "_law_place" st_place f fd) (D_take : Df K mg "_law_take" sTake ["_law_pot_here", "_law_room"] fT fdT) (D_name : Df K mg "_law_name" sName ["_law_pot_here"] fN fdN)
    (D_about : Df K mg "_law_about" sAbout ["_law_pot_here"] fA fdA) (D_text : Df K mg "_law_text" sText ["_law_pot_here"] fX fdX) (D_signs : Df K mg "_law_signs" sSigns ["_law_pot_here", "_law_most"] fS fdS) (m_len : mg "len" = none) (m_range : mg "range" = none) :
    FnOk P w K mg base CX0 (k + 4) f fd ["_law_pot_here"] (spArgs PlcV) := by
  have G_take : FnOk P w K mg base CX0 (k + 3) fT fdT ["_law_pot_here", "_law_room"] spTake := ok_take D_take.F
  have G_name : FnOk P w K mg base CX0 (k + 3) fN fdN ["_law_pot_here"] spNm := ok_nm D_name.F D_take m_len m_range
  have G_about : FnOk P w K mg base CX0 (k + 3) fA fdA ["_law_pot_here"] spAb := ok_ab D_about.F D_take D_signs m_len m_range
  have G_text : FnOk P w K mg base CX0 (k + 3) fX fdX ["_law_pot_here"] (spDrawn 60) := ok_text D_text.F D_take D_signs m_len m_range
  refine F.ok sc_place (fun vs H Q E h => ?_) (fun cdv A outer s H vs Q E hr h => ?_)
  · obtain ⟨p, rfl, _⟩ := h
    rfl
  · obtain ⟨p, rfl, hp, q⟩ := h
    refine ⟨_, pss_cons (ps_set (i := 1) sc_place.nd rfl (.inl rfl) (pe_ix ix_list (pe_lst (pa_cons pe_str (pa_cons pe_str (pa_cons pe_str (pa_cons pe_str pa_nil))))) (pe_call G_take hr (by rfl) D_take.g D_take.F.kp D_take.b .nil pass0 (pa_cons (pv 0) (pa_cons pe_int pa_nil))) (fun _ _ => rfl)))
      (pss_cons (ps_set (i := 2) sc_place.nd rfl (.inl rfl) pe_non)
      (pss_cons (ps_if (PW.pt (pw_and (pt_cmpR op_eq (pv 1) pe_str (nomark _)) (pw_and1 (pt_cmpR op_eq (pe_call G_take hr (by rfl) D_take.g D_take.F.kp D_take.b .nil pass0 (pa_cons (pv 0) (pa_cons pe_int pa_nil))) pe_int (nomark _))))) (pss_one (ps_set (i := 2) sc_place.nd rfl (.inl rfl) (pe_call G_text hr (by rfl) D_text.g D_text.F.kp D_text.b .nil pass0 (pa_cons (pv 0) pa_nil)))) pss_nil)
      (pss_one (ps_ret (pe_lst (pa_cons (pe_call G_name hr (by rfl) D_name.g D_name.F.kp D_name.b .nil pass0 (pa_cons (pv 0) pa_nil)) (pa_cons (pv 1) (pa_cons (pe_call G_name hr (by rfl) D_name.g D_name.F.kp D_name.b .nil pass0 (pa_cons (pv 0) pa_nil)) (pa_cons (pv 2) (pa_cons (pe_call G_about hr (by rfl) D_about.g D_about.F.kp D_about.b .nil pass0 (pa_cons (pv 0) pa_nil)) pa_nil)))))))))), ?_⟩
    refine ⟨by decide +kernel, fun l1 n1 => ?_⟩
    have p1 := hp.new (o := .lst (WP.manies.map V.str)) n1
    have nl1 := hp.ne n1
    refine ⟨.ref p, rfl, p, 4, rfl, p1, by decide, by decide, fun H2 d2 b2 p2 d20 d21 => ?_⟩
    obtain ⟨z, hzm, hze⟩ := at_strs WP.manies d2 d20 (by show d2 < 4; exact d21)
    obtain ⟨zam, zl, zc⟩ := manies_facts z hzm
    have bb2 : But p H H2 := (But.new n1).trans b2
    refine ⟨l1, _, d2, .str z, rfl, rfl, SqL.of (b2 _ _ nl1.symm upd_same), hze, ?_⟩
    dsimp only [tSeq, tAsg, tC, gName]
    refine ts_gen (t := tIfS _ _ _) (fun σ' H' => But p H H' ∧ Pot H' p ∧ ∃ v2 : V, (isDf v2 ∧ (v2 = .non ∨ V.str z = .str (Str.ofString "maybe"))) ∧ σ' = [some (.ref p), some (.str z), some v2]) (fun κ c => ?_) ?_
    · refine ⟨_, rfl, rfl, _, rfl, ite2 (fun e => ?_) (fun e => ?_)⟩
      · refine ⟨.ref p, rfl, p, 2, rfl, p2, by decide, by decide, fun H5 d5 b5 p5 d50 d51 => ⟨rfl, _, rfl, ite2 (fun e2 => ?_) (fun e2 => ?_)⟩⟩
        · exact ⟨.ref p, rfl, p, rfl, p5, fun H6 y6 b6 p6 t6 => c _ _ ⟨(bb2.trans b5).trans b6, p6, .str y6, ⟨.inr ⟨y6, rfl, t6⟩, .inr (of_decide_eq_true e)⟩, rfl⟩⟩
        · exact c _ _ ⟨bb2.trans b5, p5, .non, ⟨.inl rfl, .inl rfl⟩, rfl⟩
      · exact c _ _ ⟨bb2, p2, .non, ⟨.inl rfl, .inl rfl⟩, rfl⟩
    rintro σ5 H5 ⟨bb5, p5, v2, ⟨df2, cr2⟩, rfl⟩
    dsimp only
    refine ⟨.ref p, rfl, p, rfl, p5, fun H8 y8 b8 p8 t8 => ⟨_, rfl, .ref p, rfl, p, rfl, p8, fun H9 y9 b9 p9 t9 => ⟨_, rfl, .ref p, rfl, p, rfl, p9, fun H10 y10 b10 p10 t10 a10 => ⟨by show 5 ≤ sizeLine; decide, fun l nl => ?_⟩⟩⟩⟩
    have bb : But p H H10 := ((bb5.trans b8).trans b9).trans b10
    have nlp : l ≠ p := (p10.ne nl).symm
    have fr : H l = none := by
      cases e : H l with
      | none => rfl
      | some o =>
        rw [bb l o nlp e] at nl
        cases nl
    have f2 : Fl v2 := by
      rcases df2 with rfl | ⟨x, rfl, tx⟩
      · exact .non
      · exact .str (tx.mono (by decide))
    exact q _ l _ (bb.trans (But.new nl)) (p10.new nl) fr nlp upd_same ⟨⟨rfl, mem_5 ⟨t8, nm_fl t8⟩ ⟨zam, .str ⟨zl, zc⟩⟩ ⟨t9, nm_fl t9⟩ ⟨df2, f2⟩ ⟨a10, .str t10⟩⟩, _, _, _, _, _, rfl, cr2⟩
end
end WB

set_option Elab.async false
set_option linter.all false
set_option maxRecDepth 100000
set_option maxHeartbeats 4000000
namespace WB
open PySem PySem.Spec PyProof.Rows L2 WG
open TL (tl)
abbrev st_fits : Stmt := topS 36
theorem sc_fits : FnScope ["_law_told", "_law_takes", "_law_default", "_law_needed", "_law_off"] ["_law_told"] (defScope st_fits) := ⟨rfl, rfl, rfl, by decide +kernel, rfl, by decide +kernel, by decide +kernel⟩
abbrev st_twin : Stmt := topS 37
theorem sc_twin : FnScope ["_law_pot_here", "_law_told", "_law_anew", "_law_found", "_law_turn", "_law_at"] ["_law_pot_here", "_law_told", "_law_anew"] (defScope st_twin) := ⟨rfl, rfl, rfl, by decide +kernel, rfl, by decide +kernel, by decide +kernel⟩
abbrev st_made : Stmt := topS 38
theorem sc_made : FnScope ["_law_told"] ["_law_told"] (defScope st_made) := ⟨rfl, rfl, rfl, by decide +kernel, rfl, by decide +kernel, by decide +kernel⟩
abbrev st_shown : Stmt := topS 39
theorem sc_shown : FnScope ["_law_told", "_law_one"] ["_law_told"] (defScope st_shown) := ⟨rfl, rfl, rfl, by decide +kernel, rfl, by decide +kernel, by decide +kernel⟩
theorem passF {X : Cx} : Passes (L2.CX X.prog X.w) X (fun _ _ _ => False) := by
  intro pins σ H s e s' inv got
  obtain ⟨_, _, _, _, _, _, _, _, _, _, _, _, no⟩ := got
  exact no.elim
theorem Fd.eight {ok : Nat → V → Prop} {vs : List V} (h : Fd 8 ok vs) : ∃ v0 v1 v2 v3 v4 v5 v6 v7, vs = [v0, v1, v2, v3, v4, v5, v6, v7] := by
  match vs, h.len with
  | [v0, v1, v2, v3, v4, v5, v6, v7], _ => exact ⟨_, _, _, _, _, _, _, _, rfl⟩
theorem Fd.five {ok : Nat → V → Prop} {vs : List V} (h : Fd 5 ok vs) : ∃ v0 v1 v2 v3 v4, vs = [v0, v1, v2, v3, v4] := by
  match vs, h.len with
  | [v0, v1, v2, v3, v4], _ => exact ⟨_, _, _, _, _, rfl⟩
theorem among_str {v : V} {l : List Str} (h : among v l = true) : ∃ z, v = .str z := by
  cases v with
  | str z => exact ⟨z, rfl⟩
  | _ => cases h
theorem tt_gen {t : TT} {σ : L2.St} {H : Hp} {R : Bool → Hp → Prop} (D : Bool → Hp → Prop) (e : ∀ R : Bool → Hp → Prop, (∀ v H', D v H' → R v H') → t σ H R) (c : ∀ v H', D v H' → R v H') : t σ H R := e R c
section
variable {P : Program} {w : World} {K : PySem.W.Frag} {mg : Str → Option Value} {base : Heap}
def spFits : Sp := fun xs H Q _ => ∃ (l : Addr) (vs : List V), xs = [.ref l] ∧ H l = some (.lst vs) ∧ Fd 8 okO vs ∧ ∀ H' b, Same H H' → (b = true → OptV vs) → Q (.bl b) H'
theorem ok_fits {f : Addr} {fd : FuncData} {k : Nat} (F : Fun K "_law_fits" "_law_fits" st_fits f fd) : FnOk P w K mg base CX0 (k + 1) f fd ["_law_told"] spFits := by
  refine F.ok sc_fits (fun vs H Q E h => ?_) (fun cdv A outer s H vs Q E hr h => ?_)
  · obtain ⟨l, us, rfl, _⟩ := h
    rfl
  · obtain ⟨l, us, rfl, el, fdu, q⟩ := h
    refine ⟨_, pss_cons (ps_asg (pe_tup (pa_cons (pe_ix ix_list (pv 0) pe_int (fun _ _ => rfl)) (pa_cons (pe_ix ix_list (pv 0) pe_int (fun _ _ => rfl)) (pa_cons (pe_ix ix_list (pv 0) pe_int (fun _ _ => rfl)) (pa_cons (pe_ix ix_list (pv 0) pe_int (fun _ _ => rfl)) pa_nil))))) (pg_tup rfl (pgs_cons (pg_name (i := 1) sc_fits.nd rfl (Or.inl rfl)) (pgs_cons (pg_name (i := 2) sc_fits.nd rfl (Or.inl rfl)) (pgs_cons (pg_name (i := 3) sc_fits.nd rfl (Or.inl rfl)) (pgs_cons (pg_name (i := 4) sc_fits.nd rfl (Or.inl rfl)) pgs_nil))))))
      (pss_cons (ps_if (PW.pt (pw_or (PW.pt (pw_and (pt_cmpR op_notN (pv 2) pe_non (nomark _)) (pw_and1 (pt_cmpR op_notIn_seq (pv 1) (pe_tup (pa_cons pe_str (pa_cons pe_str pa_nil))) (by rfl))))) (pw_or1 (PW.pt (pw_and (pt_val (pv 4)) (pw_and1 (pt_cmpR op_notIn_seq (pv 1) (pe_tup (pa_cons pe_str (pa_cons pe_str pa_nil))) (by rfl)))))))) (pss_one (ps_ret pe_bl)) pss_nil)
      (pss_one (ps_ret (pe_or (pe_not (pv 3)) (pe_one (pe_and (pe_cmpR op_notIn_seq (pv 1) (pe_tup (pa_cons pe_str (pa_cons pe_str pa_nil))) (by rfl)) (pe_one (pe_cmpR op_isN (pv 2) pe_non (nomark _))))))))), ?_⟩
    obtain ⟨v0, v1, v2, v3, v4, v5, v6, v7, rfl⟩ := fdu.eight
    obtain ⟨z, rfl⟩ := among_str (fdu.at_ 2 v2 rfl).1
    have h4 : isDf v4 := (fdu.at_ 4 v4 rfl).1
    obtain ⟨b5, rfl⟩ : isBl v5 := (fdu.at_ 5 v5 rfl).1
    obtain ⟨b6, rfl⟩ : isBl v6 := (fdu.at_ 6 v6 rfl).1
    refine ⟨.ref l, rfl, l, _, 2, .str z, rfl, rfl, SqL.of el, rfl, .ref l, rfl, l, _, 4, v4, rfl, rfl, SqL.of el, rfl, .ref l, rfl, l, _, 5, .bl b5, rfl, rfl, SqL.of el, rfl, .ref l, rfl, l, _, 6, .bl b6, rfl, rfl, SqL.of el, rfl, ?_⟩
    refine ⟨by show 4 ≤ sizeLine; decide, fun t nt => ⟨t, _, rfl, SqT.of upd_same, rfl, ?_⟩⟩
    have s1 : Same H (upd H t (.tup [.str z, v4, .bl b5, .bl b6])) := same_upd nt
    revert s1
    generalize upd H t (.tup [.str z, v4, .bl b5, .bl b6]) = H1
    intro s1
    refine ⟨_, _, rfl, _, _, rfl, _, _, rfl, _, _, rfl, rfl, ?_⟩
    dsimp only [gCons, gName, gNil, tSeq, tIfS, tC]
    refine tt_gen (t := tOr _ _) (fun b H' => Same H H' ∧ (b = false → (v4 = .non ∨ single (.str z) = true) ∧ (b6 = true → plain (.str z) = true))) (fun R c => ?_) ?_
    · refine tt_gen (t := tAnd _ _) (fun b H' => Same H H' ∧ (b = false → (v4 = .non ∨ single (.str z) = true))) (fun R c => ?_) ?_
      · refine ⟨v4, rfl, rfl, _, rfl, ite2 (fun e4 => ?_) (fun e4 => ?_)⟩
        · refine ⟨.str z, rfl, by show 2 ≤ sizeLine; decide, fun t2 nt2 => ⟨t2, _, rfl, .inr (SqT.of upd_same), rfl, rfl, _, rfl, c _ _ ⟨s1.trans (same_upd nt2), fun e => .inr ?_⟩⟩⟩
          have e' : (!inV (.str z) [.str (Str.ofString "one"), .str (Str.ofString "last")]) = false := e
          rw [Bool.not_eq_false'] at e'
          exact e'
        · refine c _ _ ⟨s1, fun _ => .inl ?_⟩
          by_cases q4 : v4 = .non
          · exact q4
          · exact absurd (by rw [decide_eq_false q4]; rfl) e4
      · rintro b H2 ⟨s2, c2⟩
        cases b with
        | true => exact c _ _ ⟨s2, fun z => by cases z⟩
        | false =>
          refine ⟨_, rfl, b6, rfl, ite2 (fun e6 => ?_) (fun e6 => ?_)⟩
          · refine ⟨.str z, rfl, by show 2 ≤ sizeLine; decide, fun t2 nt2 => ⟨t2, _, rfl, .inr (SqT.of upd_same), rfl, rfl, _, rfl, c _ _ ⟨s2.trans (same_upd nt2), fun e => ⟨c2 rfl, fun _ => ?_⟩⟩⟩⟩
            have e' : (!inV (.str z) [.str (Str.ofString "flag"), .str (Str.ofString "count")]) = false := e
            rw [Bool.not_eq_false'] at e'
            exact e'
          · exact c _ _ ⟨s2, fun _ => ⟨c2 rfl, fun z => absurd z e6⟩⟩
    · rintro b H2 ⟨s2, c2⟩
      cases b with
      | true => exact q _ _ s2 (fun z => by cases z)
      | false =>
        obtain ⟨c3, c4⟩ := c2 rfl
        have op : ∀ h : b5 = true → plain (.str z) = false ∧ v4 = .non, OptV [v0, v1, .str z, v3, v4, .bl b5, .bl b6, v7] := fun h => ⟨fdu, _, _, _, _, _, _, _, _, rfl, c3, fun e => c4 (V.bl.inj e), fun e => h (V.bl.inj e)⟩
        refine ⟨.bl b5, rfl, b5, rfl, _, rfl, ite2 (fun e => ?_) (fun e => ?_)⟩
        · exact q _ _ s2 (fun _ => op fun z => by rw [z] at e; cases e)
        · refine ⟨.str z, rfl, by show 2 ≤ sizeLine; decide, fun t2 nt2 => ⟨t2, _, rfl, .inr (SqT.of upd_same), rfl, rfl, _, rfl, ite2 (fun e2 => ?_) (fun e2 => ?_)⟩⟩
          · refine ⟨v4, rfl, rfl, q _ _ (s2.trans (same_upd nt2)) (fun e3 => op fun _ => ⟨?_, of_decide_eq_true e3⟩)⟩
            have e' : (!inV (.str z) [.str (Str.ofString "flag"), .str (Str.ofString "count")]) = true := e2
            rw [Bool.not_eq_true'] at e'
            exact e'
          · exact q _ _ (s2.trans (same_upd nt2)) (fun z => by cases z)
/-! ### the twin -/
def nK : Bool → Nat
  | true => 8
  | false => 5
def okK : Bool → Nat → V → Prop
  | true => okO
  | false => okP
def TV : Bool → List V → Prop
  | true => OptV
  | false => PlcV
theorem TV.fd {o : Bool} {vs : List V} (h : TV o vs) : Fd (nK o) (okK o) vs := by
  cases o with
  | true => exact h.1
  | false => exact h.1
theorem TV.fl {o : Bool} {vs : List V} (h : TV o vs) : AllFl vs := h.fd.fl
theorem nK_le (o : Bool) : 1 ≤ nK o ∧ nK o ≤ 8 := by cases o <;> decide
def spTwin (o : Bool) : Sp := fun xs H Q _ => ∃ (p l m : Addr) (vs ws : List V), xs = [.ref p, .ref l, .ref m] ∧ Pot H p ∧ H l = some (.lst vs) ∧ l ≠ p ∧ TV o vs ∧ H m = some (.lst ws) ∧ m ≠ p ∧ TV o ws ∧ ∀ H' t us, But p H H' → Pot H' p → H t = none → t ≠ p → H' t = some (.lst us) → TV o us → Q (.ref t) H'
theorem ok_twin {o : Bool} {f fT fF : Addr} {fd fdT fdF : FuncData} {k : Nat} (F : Fun K "_law_twin" "_law_twin" st_twin f fd) (D_take : Df K mg "_law_take" sTake ["_law_pot_here", "_law_room"] fT fdT) (D_fits : Df K mg "_law_fits" st_fits ["_law_told"] fF fdF) (m_len : mg "len" = none) (m_range : mg "range" = none) (m_list : mg "list" = none) :
    FnOk P w K mg base CX0 (k + 2) f fd ["_law_pot_here", "_law_told", "_law_anew"] (spTwin o) := by
  have G_take : FnOk P w K mg base CX0 (k + 1) fT fdT ["_law_pot_here", "_law_room"] spTake := ok_take D_take.F
  have G_fits : FnOk P w K mg base CX0 (k + 1) fF fdF ["_law_told"] spFits := ok_fits D_fits.F
  refine F.ok sc_twin (fun vs H Q E h => ?_) (fun cdv A outer s H vs Q E hr h => ?_)
  · obtain ⟨p, l, m, us, ws, rfl, _⟩ := h
    rfl
  · obtain ⟨p, l, m, us, ws, rfl, hp, el, nlp, tu, em, nmp, tw, q⟩ := h
    refine ⟨_, pss_cons (ps_set (i := 3) sc_twin.nd rfl (.inl rfl) (pe_callTy call_list_of (by rfl) m_list (by decide +kernel) (pa_cons (pv 1) pa_nil)))
      (pss_cons (ps_for PassesOwn.never rfl (pi_range1 rfl m_range (pa_cons (pe_call G_take hr (by rfl) D_take.g D_take.F.kp D_take.b .nil pass0 (pa_cons (pv 0) (pa_cons pe_int pa_nil))) pa_nil)) (pg_name (i := 4) sc_twin.nd rfl (Or.inl rfl)) (pss_cons (ps_set (i := 5) sc_twin.nd rfl (.inl rfl) (pe_call G_take hr (by rfl) D_take.g D_take.F.kp D_take.b .nil pass0 (pa_cons (pv 0) (pa_cons (pe_callB call_len_seq (by rfl) m_len PySem.boot_len (pa_cons (pv 1) pa_nil)) pa_nil))))
      (pss_one (ps_asg (pe_ix ix_list (pv 2) (pv 5) (fun _ _ => rfl)) (pg_sub (pv 3) (pv 5) set_list)))))
      (pss_cons (ps_if (pt_cmpR op_eq (pe_callB call_len_seq (by rfl) m_len PySem.boot_len (pa_cons (pv 1) pa_nil)) pe_int (nomark _)) (pss_one (ps_ret (pe_ifExp (pt_val (pe_call G_fits hr (by rfl) D_fits.g D_fits.F.kp D_fits.b .nil pass0 (pa_cons (pv 3) pa_nil))) (pv 3) (pe_callTy call_list_of (by rfl) m_list (by decide +kernel) (pa_cons (pv 1) pa_nil))))) pss_nil)
      (pss_one (ps_ret (pe_ifExp (PW.pt (pw_or (pt_cmpR op_isN (pe_ix ix_list (pv 3) pe_int (fun _ _ => rfl)) pe_non (nomark _)) (pw_or1 (pt_cmpR op_eq (pe_ix ix_list (pv 3) pe_int (fun _ _ => rfl)) pe_str (nomark _))))) (pv 3) (pe_callTy call_list_of (by rfl) m_list (by decide +kernel) (pa_cons (pv 1) pa_nil))))))), ?_⟩
    refine ⟨.ref l, rfl, l, us, rfl, .inl (SqL.of el), fun x nx => ?_⟩
    have nxp : x ≠ p := (hp.ne nx).symm
    have lu := tu.fd.len
    have lw := tw.fd.len
    have ln := nK_le o
    refine ⟨.ref p, rfl, p, 3, rfl, hp.new nx, by decide, by decide, fun H1 d1 b1 p1 d10 d11 => ?_⟩
    refine ⟨d1, rfl, by omega, by omega, for_range (lo := 0) (n := d1.toNat) (fun i σ H' => But p H H' ∧ Pot H' p ∧ ∃ (fs : List V) (x4 x5 : Option V), σ = [some (.ref p), some (.ref l), some (.ref m), some (.ref x), x4, x5] ∧ H' x = some (.lst fs) ∧ Fd (nK o) (okK o) fs)
      ⟨(But.new nx).trans b1, p1, us, none, none, rfl, b1 _ _ nxp upd_same, tu.fd⟩ ?_ ?_⟩
    · rintro i σ H5 hi ⟨b5, p5, fs, x4, x5, rfl, ex, fdx⟩
      refine ⟨.ref p, rfl, .ref l, rfl, l, us, rfl, .inl (SqL.of (b5 _ _ nlp el)), p, us.length, rfl, p5, by omega, by omega, fun H6 d6 b6 p6 d60 d61 => ?_⟩
      obtain ⟨n, rfl⟩ := Int.eq_ofNat_of_zero_le d60
      have hnw : n < ws.length := by omega
      have hnf : n < fs.length := by rw [fdx.len]; omega
      refine ⟨.ref m, rfl, _, rfl, m, ws, n, ws[n], rfl, rfl, SqL.of (b6 _ _ nmp (b5 _ _ nmp em)), atI_nat (List.getElem?_eq_getElem hnw), .ref x, rfl, _, rfl, x, fs, n, n, rfl, rfl, b6 _ _ nxp ex, ?_, ?_⟩
      · unfold ixN
        rw [if_pos d60, if_pos (by omega), Int.toNat_natCast]
      · refine ⟨fun b ob nb eb => ?_, ?_, _, _, _, rfl, upd_same, fdx.set (tw.fd.at_ n _ (List.getElem?_eq_getElem hnw))⟩
        · have nbx : b ≠ x := ne_of_none eb nx
          rw [upd_ne nbx]
          exact b6 _ _ nb (b5 _ _ nb eb)
        · obtain ⟨i1, j1, e1, r1⟩ := p6
          exact ⟨i1, j1, by rw [upd_ne nxp.symm]; exact e1, r1⟩
    · rintro σ H5 ⟨b5, p5, fs, x4, x5, rfl, ex, fdx⟩
      have el5 := b5 _ _ nlp el
      refine ⟨.ref l, rfl, l, us, rfl, .inl (SqL.of el5), rfl, _, rfl, ?_⟩
      have old : ∀ H6, Same H5 H6 → ∀ y, H6 y = none → Q (.ref y) (upd H6 y (.lst us)) := fun H6 s6 y ny => by
        have ny5 : H5 y = none := by
          cases e : H5 y with
          | none => rfl
          | some ob => rw [s6 _ _ e] at ny; cases ny
        have nyp : y ≠ p := (p5.ne ny5).symm
        have nyH : H y = none := by
          cases e : H y with
          | none => rfl
          | some ob => rw [b5 _ _ nyp e] at ny5; cases ny5
        refine q _ y us (fun b ob nb eb => ?_) ?_ nyH nyp upd_same tu
        · rw [upd_ne (ne_of_none eb nyH)]
          exact s6 _ _ (b5 _ _ nb eb)
        · obtain ⟨i1, j1, e1, r1⟩ := p5
          exact ⟨i1, j1, by rw [upd_ne nyp.symm]; exact s6 _ _ e1, r1⟩
      cases o with
      | true =>
        have e8 : us.length = 8 := lu
        rw [e8]
        refine ⟨.ref x, rfl, x, fs, rfl, ex, fdx, fun H6 b s6 hb => ⟨_, rfl, ?_⟩⟩
        cases b with
        | true =>
          obtain ⟨i1, j1, e1, r1⟩ := p5
          exact ⟨.ref x, rfl, q _ x fs (fun b ob nb eb => s6 _ _ (b5 _ _ nb eb)) ⟨i1, j1, s6 _ _ e1, r1⟩ nx nxp (s6 _ _ ex) (hb rfl)⟩
        | false => exact ⟨.ref l, rfl, l, us, rfl, .inl (SqL.of (s6 _ _ el5)), fun y ny => old H6 s6 y ny⟩
      | false =>
        have e8 : us.length = 5 := lu
        rw [e8]
        obtain ⟨v0, v1, v2, v3, v4, rfl⟩ := fdx.five
        obtain ⟨z, rfl⟩ := among_str (fdx.at_ 1 v1 rfl).1
        have ok : crossP (.str z) v3 → TV false [v0, .str z, v2, v3, v4] := fun h => ⟨fdx, _, _, _, _, _, rfl, h⟩
        refine ⟨.ref x, rfl, x, _, 3, v3, rfl, rfl, SqL.of ex, rfl, rfl, _, rfl, ite2 (fun e => ?_) (fun e => ?_)⟩
        · exact ⟨.ref x, rfl, q _ x _ b5 p5 nx nxp ex (ok (.inl (of_decide_eq_true e)))⟩
        · refine ⟨.ref x, rfl, x, _, 1, .str z, rfl, rfl, SqL.of ex, rfl, rfl, _, rfl, ?_⟩
          cases b1' : decide (V.str z = V.str (Str.ofString "maybe")) with
          | true => exact ⟨.ref x, rfl, q _ x _ b5 p5 nx nxp ex (ok (.inr (of_decide_eq_true b1')))⟩
          | false => exact ⟨.ref l, rfl, l, us, rfl, .inl (SqL.of el5), fun y ny => old H5 (Same.refl _) y ny⟩
end
end WB

set_option Elab.async false
set_option linter.all false
set_option maxRecDepth 100000
set_option maxHeartbeats 4000000
namespace WB
open PySem PySem.Spec PyProof.Rows L2 WG
open TL (tl)
section
variable {P : Program} {w : World} {K : PySem.W.Frag} {mg : Str → Option Value} {base : Heap}
def CK (CO CP : Addr) : Bool → Addr
  | true => CO
  | false => CP
def nmK : Bool → String
  | true => "Option("
  | false => "Place("
def wK : Bool → Str
  | true => Str.ofString "Option"
  | false => Str.ofString "Place"
/-- a thing is made, and it holds what it was told -/
theorem initO {C CN : Addr} {H1 : Hp} {Q : VK} {v0 v1 v2 v3 v4 v5 v6 v7 : V} (h : TV true [v0, v1, v2, v3, v4, v5, v6, v7]) (q : ∀ H' x, Same H1 H' → H1 x = none → IsT H' C x [v0, v1, v2, v3, v4, v5, v6, v7] → Q (.ref x) H') : ∀ x dx, H1 x = none → H1 dx = none → dx ≠ x →
    spInit C CN [.ref x, v0, v1, v2, v3, v4, v5, v6, v7] (upd (upd H1 dx (.own x)) x (.ins C dx [])) (fun v H2 => v = .non ∧ Q (.ref x) H2) (fun _ _ _ => False) := by
  intro x dx nx ndx ne
  have fd := h.fd
  have th : ∀ {Hx : Hp} i v, [v0, v1, v2, v3, v4, v5, v6, v7][i]? = some v → Thg Hx v := fun i v e => (fd.at_ i v e).2.thg
  refine ⟨x, dx, v0, v1, v2, v3, v4, v5, v6, v7, rfl, upd_same, ⟨th 0 _ rfl, th 1 _ rfl, th 2 _ rfl, th 3 _ rfl, th 4 _ rfl, th 5 _ rfl, th 6 _ rfl, th 7 _ rfl⟩, fun _ H' t b ex et => ⟨rfl, q H' x (fun a o e => ?_) nx ⟨h.fl, dx, t, ex, et⟩⟩, fun z => absurd (OptV.right h) z⟩
  have n1 : a ≠ x := ne_of_none e nx
  have n2 : a ≠ dx := ne_of_none e ndx
  refine b a o n1 ?_
  rw [upd_ne n1, upd_ne n2]
  exact e
theorem initP {C CN : Addr} {H1 : Hp} {Q : VK} {v0 v1 v2 v3 v4 : V} (h : TV false [v0, v1, v2, v3, v4]) (q : ∀ H' x, Same H1 H' → H1 x = none → IsT H' C x [v0, v1, v2, v3, v4] → Q (.ref x) H') : ∀ x dx, H1 x = none → H1 dx = none → dx ≠ x →
    WP.spInit C CN [.ref x, v0, v1, v2, v3, v4] (upd (upd H1 dx (.own x)) x (.ins C dx [])) (fun v H2 => v = .non ∧ Q (.ref x) H2) (fun _ _ _ => False) := by
  intro x dx nx ndx ne
  have fd := h.fd
  have th : ∀ {Hx : Hp} i v, [v0, v1, v2, v3, v4][i]? = some v → Thg Hx v := fun i v e => (fd.at_ i v e).2.thg
  refine ⟨x, dx, v0, v1, v2, v3, v4, rfl, upd_same, ⟨th 0 _ rfl, th 1 _ rfl, th 2 _ rfl, th 3 _ rfl, th 4 _ rfl⟩, fun _ H' t b ex et => ⟨rfl, q H' x (fun a o e => ?_) nx ⟨h.fl, dx, t, ex, et⟩⟩, fun z => absurd (PlcV.right h) z⟩
  have n1 : a ≠ x := ne_of_none e nx
  have n2 : a ≠ dx := ne_of_none e ndx
  refine b a o n1 ?_
  rw [upd_ne n1, upd_ne n2]
  exact e
def spMade (CO CP : Addr) (o : Bool) : Sp := fun xs H Q _ => ∃ (l : Addr) (vs : List V), xs = [.ref l] ∧ H l = some (.lst vs) ∧ TV o vs ∧ ∀ H' x, Same H H' → H x = none → IsT H' (CK CO CP o) x vs → Q (.ref x) H'
abbrev optPs : List Str := ["self", "long", "short", "takes", "maker", "default", "needed", "off", "about"]
abbrev plcPs : List Str := ["self", "name", "many", "maker", "default", "about"]
theorem ok_made {o : Bool} {CO CP CNo CNp f fIo fIp : Addr} {fd fdIo fdIp : FuncData} {k : Nat} (F : Fun K "_law_made" "_law_made" st_made f fd) (MKo : L2.Mk K CO fIo) (GIo : FnOk P w K mg base (L2.CX P w) (k + 3) fIo fdIo optPs (spInit CO CNo)) (gO : mg "Option" = some (.ref CO)) (b8 : Binds K fdIo optPs [])
    (MKp : L2.Mk K CP fIp) (GIp : FnOk P w K mg base (L2.CX P w) (k + 3) fIp fdIp plcPs (WP.spInit CP CNp)) (gP : mg "Place" = some (.ref CP)) (b5 : Binds K fdIp plcPs []) (m_len : mg "len" = none) :
    FnOk P w K mg base CX0 (k + 5) f fd ["_law_told"] (spMade CO CP o) := by
  refine F.ok sc_made (fun vs H Q E h => ?_) (fun cdv A outer s H vs Q E hr h => ?_)
  · obtain ⟨l, us, rfl, _⟩ := h
    rfl
  · obtain ⟨l, us, rfl, el, tu, q⟩ := h
    refine ⟨_, pss_cons (ps_if (pt_cmpR op_eq (pe_callB call_len_seq (by rfl) m_len PySem.boot_len (pa_cons (pv 0) pa_nil)) pe_int (nomark _)) (pss_one (ps_ret (pe_make MKo GIo (hr.mono (by omega)) (by rfl) gO b8 .nil passF (pa_cons (pe_ix ix_list (pv 0) pe_int (fun _ _ => rfl)) (pa_cons (pe_ix ix_list (pv 0) pe_int (fun _ _ => rfl)) (pa_cons (pe_ix ix_list (pv 0) pe_int (fun _ _ => rfl)) (pa_cons (pe_ix ix_list (pv 0) pe_int (fun _ _ => rfl)) (pa_cons (pe_ix ix_list (pv 0) pe_int (fun _ _ => rfl)) (pa_cons (pe_ix ix_list (pv 0) pe_int (fun _ _ => rfl)) (pa_cons (pe_ix ix_list (pv 0) pe_int (fun _ _ => rfl)) (pa_cons (pe_ix ix_list (pv 0) pe_int (fun _ _ => rfl)) pa_nil))))))))))) pss_nil)
      (pss_one (ps_ret (pe_make MKp GIp (hr.mono (by omega)) (by rfl) gP b5 .nil passF (pa_cons (pe_ix ix_list (pv 0) pe_int (fun _ _ => rfl)) (pa_cons (pe_ix ix_list (pv 0) pe_int (fun _ _ => rfl)) (pa_cons (pe_ix ix_list (pv 0) pe_int (fun _ _ => rfl)) (pa_cons (pe_ix ix_list (pv 0) pe_int (fun _ _ => rfl)) (pa_cons (pe_ix ix_list (pv 0) pe_int (fun _ _ => rfl)) pa_nil)))))))), ?_⟩
    have sq : SqL K H l us := SqL.of el
    refine ⟨.ref l, rfl, l, us, rfl, .inl sq, rfl, _, rfl, ?_⟩
    cases o with
    | true =>
      obtain ⟨v0, v1, v2, v3, v4, v5, v6, v7, rfl⟩ := tu.fd.eight
      refine ⟨.ref l, rfl, l, _, 0, v0, rfl, rfl, sq, rfl, .ref l, rfl, l, _, 1, v1, rfl, rfl, sq, rfl, .ref l, rfl, l, _, 2, v2, rfl, rfl, sq, rfl, .ref l, rfl, l, _, 3, v3, rfl, rfl, sq, rfl, .ref l, rfl, l, _, 4, v4, rfl, rfl, sq, rfl, .ref l, rfl, l, _, 5, v5, rfl, rfl, sq, rfl, .ref l, rfl, l, _, 6, v6, rfl, rfl, sq, rfl, .ref l, rfl, l, _, 7, v7, rfl, rfl, sq, rfl, ?_⟩
      delta tNil
      exact initO tu q
    | false =>
      obtain ⟨v0, v1, v2, v3, v4, rfl⟩ := tu.fd.five
      refine ⟨.ref l, rfl, l, _, 0, v0, rfl, rfl, sq, rfl, .ref l, rfl, l, _, 1, v1, rfl, rfl, sq, rfl, .ref l, rfl, l, _, 2, v2, rfl, rfl, sq, rfl, .ref l, rfl, l, _, 3, v3, rfl, rfl, sq, rfl, .ref l, rfl, l, _, 4, v4, rfl, rfl, sq, rfl, ?_⟩
      delta tNil
      exact initP tu q
def spShown (o : Bool) : Sp := fun xs H Q _ => ∃ (l : Addr) (vs : List V), xs = [.ref l] ∧ H l = some (.lst vs) ∧ TV o vs ∧ ∀ H', Same H H' → Q (.str (shw (nmK o) vs)) H'
theorem shw_len {o : Bool} {vs : List V} (h : TV o vs) : (shw (nmK o) vs).length ≤ 70010 := by
  have l1 := cj_len h.fl (by rw [h.fd.len]; have := nK_le o; omega)
  have l2 : (Str.empty ++ Str.ofString (nmK o)).length ≤ 7 := by cases o <;> decide +kernel
  have l3 : (Str.ofString ")").length = 1 := by decide +kernel
  unfold shw
  rw [Str.length_append, Str.length_append, l3]
  omega
theorem ok_shown {o : Bool} {f : Addr} {fd : FuncData} {k : Nat} (F : Fun K "_law_shown" "_law_shown" st_shown f fd) (m_len : mg "len" = none) (m_int : mg "int" = none) (m_repr : mg "repr" = none) : FnOk P w K mg base CX0 (k + 1) f fd ["_law_told"] (spShown o) := by
  refine F.ok sc_shown (fun vs H Q E h => ?_) (fun cdv A outer s H vs Q E hr h => ?_)
  · obtain ⟨l, us, rfl, _⟩ := h
    rfl
  · obtain ⟨l, us, rfl, el, tu, q⟩ := h
    have sl : sizeLine = 16777216 := sizeLine_eq
    have lu := tu.fd.len
    have ln := nK_le o
    refine ⟨_, pss_one (ps_ret (pe_op op_add_str (pe_op op_add_str (pe_op op_add_str (pe_ix ix_list (pe_lst (pa_cons pe_str (pa_cons pe_str pa_nil))) (pe_callTy call_int1 (by rfl) m_int (by decide +kernel) (pa_cons (pe_cmpR op_eq (pe_callB call_len_seq (by rfl) m_len PySem.boot_len (pa_cons (pv 0) pa_nil)) pe_int (nomark _)) pa_nil)) (fun _ _ => rfl)) pe_str) (pe_join pe_str (pe_lc (own := [("_law_one", 1)]) (g := gName 1) (tt := tYes) rfl sc_shown.nd (pi_list (pv 0)) (blkOk_by (N := ["_law_told", "_law_one"]) (sc := defScope st_shown) (by decide +kernel)) (fun _ _ _ _ _ => (pg_name (i := 1) sc_shown.nd rfl (Or.inl rfl))) (fun _ _ _ _ _ => pts_nil) (fun _ _ _ _ _ => (pe_callB (r := rReprF) call_reprF (by rfl) m_repr (by decide +kernel) (pa_cons (pv 1) pa_nil)))))) pe_str)), ?_⟩
    refine ⟨by show 2 ≤ sizeLine; decide, fun t nt => ?_⟩
    have s1 : Same H (upd H t (.lst [.str (Str.ofString "Place"), .str (Str.ofString "Option")])) := same_upd nt
    refine ⟨.ref l, rfl, l, us, rfl, .inl (SqL.of (s1 _ _ el)), rfl, .inr ⟨_, rfl, ?_⟩⟩
    revert s1
    have e1 : (upd H t (.lst [.str (Str.ofString "Place"), .str (Str.ofString "Option")])) t = some (.lst [.str (Str.ofString "Place"), .str (Str.ofString "Option")]) := upd_same
    revert e1
    generalize upd H t (.lst [.str (Str.ofString "Place"), .str (Str.ofString "Option")]) = H1
    intro e1 s1
    have ha : atI [V.str (Str.ofString "Place"), V.str (Str.ofString "Option")] (if decide (V.int ↑us.length = V.int 8) = true then 1 else 0) = some (.str (wK o)) := by
      rw [lu]
      cases o with
      | true => decide +kernel
      | false => decide +kernel
    have l0 : (wK o).length ≤ 6 := by cases o <;> decide +kernel
    have l2 : (Str.ofString "(").length = 1 := by decide +kernel
    have l3 : (Str.ofString ")").length = 1 := by decide +kernel
    have lc := cj_len tu.fl (by omega)
    refine ⟨t, _, _, .str (wK o), rfl, rfl, SqL.of e1, ha, _, _, rfl, rfl, by omega, ?_⟩
    refine ⟨⟨_, rfl⟩, .ref l, rfl, l, rfl, ⟨_, SqL.of (s1 _ _ el)⟩, fun D nD => ?_⟩
    refine lc_list (K := K) (a := l) (xs := us) (fun i Hc => Same H1 Hc ∧ Hc D = some (.lst (((us.take i).map rp).map V.str))) ⟨same_upd nD, upd_same⟩ (fun i Hc _ h => SqL.of (h.1 _ _ (s1 _ _ el))) (fun i v Hc hv ⟨sc, eD⟩ => ?_) (fun Hc ⟨sc, eD⟩ => ?_)
    · refine ⟨rfl, v, rfl, v, rfl, tu.fl v (List.mem_of_getElem? hv), _, eD, ?_, ?_, ?_⟩
      · rw [List.length_map, List.length_map, List.length_take]
        omega
      · intro b o e
        rw [upd_ne (ne_of_none e nD)]
        exact sc b o e
      · rw [upd_same, List.take_add_one, hv, List.map_append, List.map_append]
        rfl
    · rw [List.take_length] at eD
      refine ⟨_, D, us.map rp, rfl, rfl, .inl (SqL.of eD), ?_, ?_⟩
      · have e2 := sum_rp tu.fl
        have e3 : (Str.ofString ", ").length = 2 := by decide +kernel
        rw [e3, List.length_map]
        omega
      · have fin : (wK o ++ Str.ofString "(") ++ cj us ++ Str.ofString ")" = shw (nmK o) us := by
          unfold shw
          rw [show wK o ++ Str.ofString "(" = Str.empty ++ Str.ofString (nmK o) from by cases o <;> decide +kernel]
        rw [← fin] at q
        exact ⟨_, _, rfl, rfl, by rw [Str.length_append]; show _ + (cj us).length ≤ _; omega, _, _, rfl, rfl, by rw [Str.length_append, Str.length_append, l3]; show _ + (cj us).length + _ ≤ _; omega, q _ (s1.trans sc)⟩
end
end WB

set_option Elab.async false
set_option linter.all false
set_option maxRecDepth 100000
set_option maxHeartbeats 4000000
namespace WB
open PySem PySem.Spec PyProof.Rows L2 WG
open TL (tl)
open Builtin.Str (reprChar)
/-! ### what is shown tells what is held -/
theorem fold_repr (q : Nat) : ∀ (l : List Nat) (acc : Array Nat), (l.foldl (fun out c => out ++ (reprChar q c).toArray) acc).toList = acc.toList ++ l.flatMap (reprChar q)
  | [], acc => by simp
  | c :: r, acc => by
    rw [List.foldl_cons, fold_repr q r, List.flatMap_cons]
    simp
theorem tl_repr (x : Str) : tl (reprText x) = reprQuote x :: ((tl x).flatMap (reprChar (reprQuote x)) ++ [reprQuote x]) := by
  unfold reprText
  show ((x.cps.foldl (fun out c => out ++ (reprChar (reprQuote x) c).toArray) #[reprQuote x]).push (reprQuote x)).toList = _
  rw [Array.toList_push, ← Array.foldl_toList, fold_repr]
  rfl
theorem quote_cases (x : Str) : reprQuote x = 34 ∨ reprQuote x = 39 := by
  unfold reprQuote
  split
  · exact .inl rfl
  · exact .inr rfl
theorem char_ne (q c : Nat) : reprChar q c ≠ [] := by
  unfold reprChar
  dsimp only
  repeat' split
  all_goals simp
/-- a text without quotes or signs that are shown otherwise -/
def Pl (v : V) : Prop := ∃ y, v = .str y ∧ ∀ c ∈ tl y, reprChar 39 c = [c] ∧ c ≠ 39
theorem flat_pl : ∀ {l : List Nat}, (∀ c ∈ l, reprChar 39 c = [c] ∧ c ≠ 39) → l.flatMap (reprChar 39) = l
  | [], _ => rfl
  | c :: r, h => by
    rw [List.flatMap_cons, (h c List.mem_cons_self).1, flat_pl (fun d hd => h d (List.mem_cons_of_mem _ hd))]
    rfl
theorem pl_repr {y : Str} (h : ∀ c ∈ tl y, reprChar 39 c = [c] ∧ c ≠ 39) : tl (reprText y) = 39 :: (tl y ++ [39]) := by
  have q : reprQuote y = 39 := by
    unfold reprQuote
    have e : y.cps.contains 39 = false := by
      cases e : y.cps.contains 39 with
      | false => rfl
      | true =>
        have m : 39 ∈ y.cps := by simpa using e
        exact absurd rfl (h 39 (Array.mem_toList_iff.mpr m)).2
    rw [e]
    rfl
  rw [tl_repr, q, flat_pl h]
theorem cut39 : ∀ {a b x y : List Nat}, (∀ c ∈ a, c ≠ 39) → (∀ c ∈ b, c ≠ 39) → a ++ 39 :: x = b ++ 39 :: y → a = b ∧ x = y
  | [], [], x, y, _, _, e => ⟨rfl, (List.cons.inj e).2⟩
  | [], d :: b, x, y, _, hb, e => absurd (List.cons.inj e).1.symm (hb d List.mem_cons_self)
  | c :: a, [], x, y, ha, _, e => absurd (List.cons.inj e).1 (ha c List.mem_cons_self)
  | c :: a, d :: b, x, y, ha, hb, e => by
    obtain ⟨e1, e2⟩ := List.cons.inj e
    obtain ⟨e3, e4⟩ := cut39 (fun c h => ha c (List.mem_cons_of_mem _ h)) (fun c h => hb c (List.mem_cons_of_mem _ h)) e2
    exact ⟨by rw [e1, e3], e4⟩
theorem pl_cut {v w : V} {x y : List Nat} (hv : Pl v) (hw : Pl w) (e : tl (rp v) ++ x = tl (rp w) ++ y) : v = w ∧ x = y := by
  obtain ⟨a, rfl, ha⟩ := hv
  obtain ⟨b, rfl, hb⟩ := hw
  change tl (reprText a) ++ x = tl (reprText b) ++ y at e
  rw [pl_repr ha, pl_repr hb, List.cons_append, List.cons_append, List.append_assoc, List.append_assoc] at e
  obtain ⟨e1, e2⟩ := cut39 (fun c h => (ha c h).2) (fun c h => (hb c h).2) (List.cons.inj e).2
  exact ⟨by rw [TL.ext_tl e1], e2⟩
theorem non_cut {v : V} {x y : List Nat} (hv : isDf v) (e : tl (rp v) ++ x = tl (rp .non) ++ y) : v = .non ∧ x = y := by
  rcases hv with rfl | ⟨z, rfl, _⟩
  · exact ⟨rfl, List.append_cancel_left e⟩
  · change tl (reprText z) ++ x = _ at e
    rw [tl_repr, show tl (rp .non) = [78, 111, 110, 101] from by decide +kernel] at e
    have := (List.cons.inj e).1
    rcases quote_cases z with q | q <;> rw [q] at this <;> cases this
theorem fls_cut {v : V} {x y : List Nat} (hv : isBl v) (e : tl (rp v) ++ x = tl (rp (.bl false)) ++ y) : v = .bl false ∧ x = y := by
  obtain ⟨b, rfl⟩ := hv
  cases b with
  | false => exact ⟨rfl, List.append_cancel_left e⟩
  | true =>
    rw [show tl (rp (.bl true)) = [84, 114, 117, 101] from by decide +kernel, show tl (rp (.bl false)) = [70, 97, 108, 115, 101] from by decide +kernel] at e
    cases (List.cons.inj e).1
theorem emp_cut {z : Str} {r : List Nat} (e : tl (reprText z) ++ r = tl (reprText (Str.ofString "")) ++ r) : z = Str.ofString "" := by
  have e1 := List.append_cancel_right e
  rw [tl_repr, show tl (reprText (Str.ofString "")) = [39, 39] from by decide +kernel] at e1
  have e2 := congrArg List.length e1
  simp only [List.length_cons, List.length_append, List.length_nil] at e2
  have e3 : (tl z).flatMap (reprChar (reprQuote z)) = [] := List.length_eq_zero_iff.mp (by omega)
  cases ht : tl z with
  | nil => exact TL.ext_tl (by rw [ht]; decide +kernel)
  | cons c r' =>
    rw [ht, List.flatMap_cons] at e3
    exact absurd (List.append_eq_nil_iff.mp e3).1 (char_ne _ _)
theorem plain_name : ∀ c ∈ tl nameSet, reprChar 39 c = [c] ∧ c ≠ 39 := by decide +kernel
theorem plain_let : ∀ c, c < 256 → inLet ⟨#[c]⟩ = true → reprChar 39 c = [c] ∧ c ≠ 39 := by decide +kernel
theorem plain_takes : ∀ z ∈ takesL, ∀ c ∈ tl z, reprChar 39 c = [c] ∧ c ≠ 39 := by decide +kernel
theorem plain_manies : ∀ z ∈ WP.manies, ∀ c ∈ tl z, reprChar 39 c = [c] ∧ c ≠ 39 := by decide +kernel
theorem nm_pl {v : V} (h : isNm v = true) : Pl v := by
  cases v with
  | str z =>
    refine ⟨z, rfl, fun c hc => plain_name c ?_⟩
    change nm (tl z) = true at h
    unfold nm at h
    simp only [Bool.and_eq_true, decide_eq_true_eq] at h
    exact of_decide_eq_true (List.all_eq_true.mp h.2 c hc)
  | _ => cases h
theorem sh_pl {v : V} (h : isSh v = true) (f : Fl v) : Pl v := by
  cases f with
  | @str z tz =>
    refine ⟨z, rfl, fun c hc => ?_⟩
    have h2 : (decide ((z.length : Int) ≤ 1) && inLet z) = true := h
    simp only [Bool.and_eq_true, decide_eq_true_eq] at h2
    have hl := TL.len_tl z
    cases ht : tl z with
    | nil => rw [ht] at hc; cases hc
    | cons d r =>
      rw [ht] at hl hc
      have r0 : r = [] := by
        cases r with
        | nil => rfl
        | cons a b =>
          have : (d :: a :: b).length = b.length + 2 := rfl
          omega
      rw [r0] at hc ht
      have e : z = ⟨#[d]⟩ := TL.ext_tl ht
      rw [List.mem_singleton.mp hc]
      exact plain_let d (tz.pl d (by rw [ht]; exact List.mem_singleton.mpr rfl)) (by rw [← e]; exact h2.2)
  | _ => cases h
theorem among_mem {v : V} {l : List Str} (h : among v l = true) : ∃ z ∈ l, v = .str z := by
  cases v with
  | str z =>
    refine ⟨z, ?_, rfl⟩
    change inV (.str z) (l.map V.str) = true at h
    obtain ⟨y, hy, e⟩ := List.any_eq_true.mp h
    obtain ⟨x, hx, rfl⟩ := List.mem_map.mp hy
    have e' : decide (x = z) = true := e
    rw [← of_decide_eq_true e']
    exact hx
  | _ => cases h
theorem takes_pl {v : V} (h : among v takesL = true) : Pl v := by
  obtain ⟨z, hz, rfl⟩ := among_mem h
  exact ⟨z, rfl, plain_takes z hz⟩
theorem manies_pl {v : V} (h : among v WP.manies = true) : Pl v := by
  obtain ⟨z, hz, rfl⟩ := among_mem h
  exact ⟨z, rfl, plain_manies z hz⟩
theorem ab_str {v : V} (h : isAb v = true) : ∃ z, v = .str z := by
  cases v with
  | str z => exact ⟨z, rfl⟩
  | _ => cases h
def dK : Bool → List V
  | true => [.str (Str.ofString "a"), .str (Str.ofString ""), .str (Str.ofString "flag"), .str (Str.ofString "word"), .non, .bl false, .bl false, .str (Str.ofString "")]
  | false => [.str (Str.ofString "a"), .str (Str.ofString "one"), .str (Str.ofString "word"), .non, .str (Str.ofString "")]
theorem str_fl {s : String} (h : (Str.ofString s).length ≤ 300 ∧ ∀ c ∈ tl (Str.ofString s), c < 256) : Fl (.str (Str.ofString s)) := .str ⟨h.1, h.2⟩
theorem dO_ok {v : V} (nv : isNm v = true) (fv : Fl v) : TV true [v, .str (Str.ofString ""), .str (Str.ofString "flag"), .str (Str.ofString "word"), .non, .bl false, .bl false, .str (Str.ofString "")] :=
  ⟨⟨rfl, mem_8 ⟨nv, fv⟩ ⟨by show isSh (.str (Str.ofString "")) = true; decide +kernel, str_fl (by decide +kernel)⟩ ⟨by show among (.str (Str.ofString "flag")) takesL = true; decide +kernel, str_fl (by decide +kernel)⟩ ⟨by show isNm (.str (Str.ofString "word")) = true; decide +kernel, str_fl (by decide +kernel)⟩ ⟨.inl rfl, .non⟩ ⟨⟨_, rfl⟩, .bl _⟩ ⟨⟨_, rfl⟩, .bl _⟩ ⟨by show isAb (.str (Str.ofString "")) = true; decide +kernel, str_fl (by decide +kernel)⟩⟩,
    _, _, _, _, _, _, _, _, rfl, .inl rfl, (fun e => by cases e), fun e => by cases e⟩
theorem dP_ok {v : V} (nv : isNm v = true) (fv : Fl v) : TV false [v, .str (Str.ofString "one"), .str (Str.ofString "word"), .non, .str (Str.ofString "")] :=
  ⟨⟨rfl, mem_5 ⟨nv, fv⟩ ⟨by show among (.str (Str.ofString "one")) WP.manies = true; decide +kernel, str_fl (by decide +kernel)⟩ ⟨by show isNm (.str (Str.ofString "word")) = true; decide +kernel, str_fl (by decide +kernel)⟩ ⟨.inl rfl, .non⟩ ⟨by show isAb (.str (Str.ofString "")) = true; decide +kernel, str_fl (by decide +kernel)⟩⟩, _, _, _, _, _, rfl, .inl rfl⟩
theorem dK_ok (o : Bool) : TV o (dK o) := by
  cases o with
  | true => exact dO_ok (by decide +kernel) (str_fl (by decide +kernel))
  | false => exact dP_ok (by decide +kernel) (str_fl (by decide +kernel))
theorem tl_shw (o : Bool) (vs : List V) : tl (shw (nmK o) vs) = tl (Str.ofString (nmK o)) ++ (TL.joinL [44, 32] ((vs.map rp).map tl) ++ [41]) := by
  unfold shw cj
  rw [TL.tl_append, TL.tl_append, TL.tl_append, TL.join_eq, TL.tl_join]
  rw [show tl Str.empty = [] from rfl, show tl (Str.ofString ", ") = [44, 32] from by decide +kernel, show tl (Str.ofString ")") = [41] from by decide +kernel]
  simp
theorem comma_cut {x y : List Nat} (e : (([44, 32] : List Nat) ++ x) = [44, 32] ++ y) : x = y := List.append_cancel_left e
theorem shown_inj {o o' : Bool} {vs : List V} (h : TV o vs) (e : shw (nmK o') (dK o') = shw (nmK o) vs) : o = o' ∧ vs = dK o' := by
  have e1 := (congrArg tl e).symm
  rw [tl_shw, tl_shw] at e1
  have oo : o = o' := by
    cases o <;> cases o' <;> first | rfl | (rw [show tl (Str.ofString (nmK true)) = [79, 112, 116, 105, 111, 110, 40] from by decide +kernel, show tl (Str.ofString (nmK false)) = [80, 108, 97, 99, 101, 40] from by decide +kernel] at e1; cases (List.cons.inj e1).1)
  subst oo
  refine ⟨rfl, ?_⟩
  have e2 := List.append_cancel_left e1
  have fd := h.fd
  have fdd := (dK_ok o).fd
  cases o with
  | true =>
    obtain ⟨v0, v1, v2, v3, v4, v5, v6, v7, rfl⟩ := fd.eight
    simp only [dK, List.map_cons, List.map_nil, TL.joinL, List.append_assoc] at e2
    obtain ⟨rfl, e3⟩ := pl_cut (nm_pl (fd.at_ 0 _ rfl).1) (nm_pl (fdd.at_ 0 _ rfl).1) e2
    obtain ⟨rfl, e4⟩ := pl_cut (sh_pl (fd.at_ 1 _ rfl).1 (fd.at_ 1 _ rfl).2) (sh_pl (fdd.at_ 1 _ rfl).1 (fdd.at_ 1 _ rfl).2) (comma_cut e3)
    obtain ⟨rfl, e5⟩ := pl_cut (takes_pl (fd.at_ 2 _ rfl).1) (takes_pl (fdd.at_ 2 _ rfl).1) (comma_cut e4)
    obtain ⟨rfl, e6⟩ := pl_cut (nm_pl (fd.at_ 3 _ rfl).1) (nm_pl (fdd.at_ 3 _ rfl).1) (comma_cut e5)
    obtain ⟨rfl, e7⟩ := non_cut (fd.at_ 4 _ rfl).1 (comma_cut e6)
    obtain ⟨rfl, e8⟩ := fls_cut (fd.at_ 5 _ rfl).1 (comma_cut e7)
    obtain ⟨rfl, e9⟩ := fls_cut (fd.at_ 6 _ rfl).1 (comma_cut e8)
    obtain ⟨z, rfl⟩ := ab_str (fd.at_ 7 _ rfl).1
    have := emp_cut (comma_cut e9)
    subst this
    rfl
  | false =>
    obtain ⟨v0, v1, v2, v3, v4, rfl⟩ := fd.five
    simp only [dK, List.map_cons, List.map_nil, TL.joinL, List.append_assoc] at e2
    obtain ⟨rfl, e3⟩ := pl_cut (nm_pl (fd.at_ 0 _ rfl).1) (nm_pl (fdd.at_ 0 _ rfl).1) e2
    obtain ⟨rfl, e4⟩ := pl_cut (manies_pl (fd.at_ 1 _ rfl).1) (manies_pl (fdd.at_ 1 _ rfl).1) (comma_cut e3)
    obtain ⟨rfl, e5⟩ := pl_cut (nm_pl (fd.at_ 2 _ rfl).1) (nm_pl (fdd.at_ 2 _ rfl).1) (comma_cut e4)
    obtain ⟨rfl, e6⟩ := non_cut (fd.at_ 3 _ rfl).1 (comma_cut e5)
    obtain ⟨z, rfl⟩ := ab_str (fd.at_ 4 _ rfl).1
    have := emp_cut (comma_cut e6)
    subst this
    rfl
end WB

set_option Elab.async false
set_option linter.all false
set_option maxRecDepth 100000
set_option maxHeartbeats 4000000
namespace WB
open PySem PySem.Spec PyProof.Rows L2 WG
open TL (tl)
/-! ### two classes with an own == and an own repr -/
structure EqD (P : Program) (w : World) (K : PySem.W.Frag) (mg : Str → Option Value) (base : Heap) (n : Nat) (C : Addr) : Prop where
  own : ∃ f fd, FnOk P w K mg base CX0 n f fd ["self", "other"] (spEqO K C) ∧ Binds K fd ["self", "other"] [] ∧ PySem.W.findIn K (.ref C) "__eq__" = some (some (.ref f)) ∧ PySem.W.isFn K (.ref f) = true
  sub : ∀ T ∈ plainT, PySem.W.subIn K (.ref C) (.type T) = some false
  nr : ∀ T ∈ plainT, PySem.W.subIn K (.type T) (.ref C) = some false
  ne : PySem.W.findIn K (.ref C) "__ne__" = some (some (.builtin "object.__ne__"))
  mo : PySem.W.mroIn K C (.type "object") = some true
structure Two (P : Program) (w : World) (K : PySem.W.Frag) (mg : Str → Option Value) (base : Heap) (n : Nat) (CO CP : Addr) : Prop where
  eq : ∀ o, EqD P w K mg base n (CK CO CP o)
  cls : ∀ o, ClsT K (CK CO CP o)
  isi : ∀ o, IsiC K (CK CO CP o)
  kp : ∀ o, ∀ T ∈ plainT, PySem.W.kitOne K (.type T) (.ref (CK CO CP o)) = some false
  kx : ∀ o, PySem.W.kitOne K (.ref (CK CO CP (!o))) (.ref (CK CO CP o)) = some false
  sx : ∀ o, PySem.W.subIn K (.ref (CK CO CP (!o))) (.ref (CK CO CP o)) = some false
  rp : ∀ o, ∃ f fd, FnOk P w K mg base CX0 n f fd ["self"] (spRepr (CK CO CP o) (nmK o)) ∧ Binds K fd ["self"] [] ∧ PySem.W.findIn K (.ref (CK CO CP o)) "__repr__" = some (some (.ref f)) ∧ PySem.W.isFn K (.ref f) = true
/-- a thing that may be compared: none where it is no instance -/
inductive Th (K : PySem.W.Frag) (CO CP : Addr) (H : Hp) : V → Option (Bool × List V) → Prop
  | plain {y : V} {T : String} (ov : OV H y (.type T)) (ty : TyX K H y (.type T)) (m : T ∈ plainT) : Th K CO CP H y none
  | ins {c : Addr} {o : Bool} {ws : List V} (h : IsT H (CK CO CP o) c ws) : Th K CO CP H (.ref c) (some (o, ws))
section
variable {X : Cx} {n : Nat} {CO CP : Addr} {H : Hp}
theorem EqD.at {C : Addr} (d : EqD X.prog X.w X.K X.mg X.base n C) : EqCl X n C := by
  obtain ⟨f, fd, h1, h2, h3, h4⟩ := d.own
  exact ⟨⟨f, fd, h1, h2, h3, h4⟩, d.sub, d.nr, d.ne, d.mo⟩
theorem Two.any (t : Two X.prog X.w X.K X.mg X.base n CO CP) {a : Addr} {o : Bool} {us : List V} {y : V} {d : Option (Bool × List V)} (h : IsT H (CK CO CP o) a us) (th : Th X.K CO CP H y d) :
    EqOp X n H (.ref a) y (decide (d = some (o, us))) ∧ EqOp X n H y (.ref a) (decide (d = some (o, us))) := by
  obtain ⟨_, dx, t1, ea, et⟩ := id h
  cases th with
  | plain ov ty m =>
    have e : EqTo X.K H (CK CO CP o) us y false := .other ty (t.kp o _ m)
    rw [decide_eq_false (by intro z; cases z)]
    refine ⟨.left (t.eq o).at h ov ?_ e, .right (t.eq o).at h ov e⟩
    unfold PySem.W.notFirst
    rw [(t.eq o).nr _ m]
    simp
  | @ins c o' ws h' =>
    obtain ⟨_, dx2, t2, ec, et2⟩ := id h'
    by_cases q : o' = o
    · subst q
      have nf : PySem.W.notFirst X.K (CK CO CP o') (.ref (CK CO CP o')) = true := by
        unfold PySem.W.notFirst
        simp
      have e1 : decide (some (o', ws) = some (o', us)) = decide (us = ws) := decide_eq_decide.mpr ⟨fun e => by cases e; rfl, fun e => by rw [e]⟩
      have e2 : decide (some (o', ws) = some (o', us)) = decide (ws = us) := decide_eq_decide.mpr ⟨fun e => by cases e; rfl, fun e => by rw [e]⟩
      exact ⟨by rw [e1]; exact .left (t.eq o').at h (.ins ec) nf (.same h'), by rw [e2]; exact .left (t.eq o').at h' (.ins ea) nf (.same h)⟩
    · have eo : o' = !o := by cases o <;> cases o' <;> first | rfl | exact absurd rfl q
      subst eo
      have e1 : decide (some (!o, ws) = some (o, us)) = false := decide_eq_false (fun e => q (Prod.mk.inj (Option.some.inj e)).1)
      have kx' := t.kx (!o)
      have sx' := t.sx (!o)
      rw [Bool.not_not] at kx' sx'
      rw [e1]
      refine ⟨.left (t.eq o).at h (.ins ec) ?_ (.other (isi_ty (t.cls _) (t.isi _) h') (t.kx o)), .left (t.eq (!o)).at h' (.ins ea) ?_ (.other (isi_ty (t.cls _) (t.isi _) h) kx')⟩
      · unfold PySem.W.notFirst
        rw [t.sx o]
        simp
      · unfold PySem.W.notFirst
        rw [sx']
        simp
theorem Two.show (t : Two X.prog X.w X.K X.mg X.base n CO CP) {a : Addr} {o : Bool} {us : List V} (h : IsT H (CK CO CP o) a us) (le : us.length ≤ 20) : RpI X n H a (shw (nmK o) us) := by
  obtain ⟨f, fd, h1, h2, h3, h4⟩ := t.rp o
  obtain ⟨_, dx, t1, ea, et⟩ := id h
  exact ⟨_, f, dx, fd, _, _, h1, h2, h3, h4, ea, fun H1 s1 => ⟨a, us, rfl, h.same s1, le, fun H' s' => ⟨rfl, s'⟩⟩⟩
end
/-! ### the same, where the context is not named -/
section
variable {P : Program} {w : World} {K : PySem.W.Frag} {mg : Str → Option Value} {base : Heap} {n : Nat} {CO CP : Addr} {H : Hp}
def EqOk (P : Program) (w : World) (K : PySem.W.Frag) (mg : Str → Option Value) (base : Heap) (n : Nat) (H : Hp) (x y : V) (b : Bool) : Prop := ∀ X : Cx, X.prog = P → X.w = w → X.K = K → X.mg = mg → X.base = base → EqOp X n H x y b
def RpOk (P : Program) (w : World) (K : PySem.W.Frag) (mg : Str → Option Value) (base : Heap) (n : Nat) (H : Hp) (a : Addr) (t : Str) : Prop := ∀ X : Cx, X.prog = P → X.w = w → X.K = K → X.mg = mg → X.base = base → RpI X n H a t
theorem Two.ok (t : Two P w K mg base n CO CP) {a : Addr} {o : Bool} {us : List V} {y : V} {d : Option (Bool × List V)} (h : IsT H (CK CO CP o) a us) (th : Th K CO CP H y d) :
    EqOk P w K mg base n H (.ref a) y (decide (d = some (o, us))) ∧ EqOk P w K mg base n H y (.ref a) (decide (d = some (o, us))) := by
  constructor
  · rintro X rfl rfl rfl rfl rfl
    exact (t.any h th).1
  · rintro X rfl rfl rfl rfl rfl
    exact (t.any h th).2
theorem Two.rok (t : Two P w K mg base n CO CP) {a : Addr} {o : Bool} {us : List V} (h : IsT H (CK CO CP o) a us) (le : us.length ≤ 20) : RpOk P w K mg base n H a (shw (nmK o) us) := by
  rintro X rfl rfl rfl rfl rfl
  exact t.show h le
def rEqJ (P : Program) (w : World) (K : PySem.W.Frag) (mg : Str → Option Value) (base : Heap) (n : Nat) : R2 := fun x y H Q => ∃ b, EqOk P w K mg base n H x y b ∧ Q (.bl b) H
def rReprJ (P : Program) (w : World) (K : PySem.W.Frag) (mg : Str → Option Value) (base : Heap) (n : Nat) : List V → Hp → VK → Prop := fun xs H Q => ∃ (a : Addr) (t : Str), xs = [.ref a] ∧ RpOk P w K mg base n H a t ∧ ∀ H', Same H H' → Q (.str t) H'
end
section
variable {X : Cx} {n : Nat}
theorem op_eqJ (hr : Room n X.A) : OpR X (compareOp .Eq) (rEqJ X.prog X.w X.K X.mg X.base n) := by
  intro pins s σ H x y v u Q I rx ry h
  obtain ⟨b, e, q⟩ := h
  exact op_eqI hr pins s σ H x y v u Q I rx ry ⟨b, e X rfl rfl rfl rfl rfl, q⟩
theorem call_reprJ (hr : Room (n + 1) X.A) : CallR X (.builtin "repr") (rReprJ X.prog X.w X.K X.mg X.base n) := by
  intro pins s σ H xs us Q I rels ask
  obtain ⟨a, t, e, rp, q⟩ := ask
  exact call_reprI hr pins s σ H xs us Q I rels ⟨a, t, e, rp X rfl rfl rfl rfl rfl, q⟩
theorem eqBool_self {M : Model} {A : Around} {E : Value → Shared → Prop} {s : Shared} {a : Addr} {Q : Bool → Shared → Prop} (q : Q true s) : wpAny M A (eqBool (.ref a) (.ref a)) Q E s := by
  unfold eqBool
  refine wpAny_holding ?_
  refine wpAny_ite_split (fun hab => ?_) (fun hab => absurd (beq_self_eq_true _) hab)
  wp_walk
  exact q
/-- lists of the very same things -/
def rEqS : R2 := fun x y H Q => ∃ (l m : Addr) (xs : List V), x = .ref l ∧ y = .ref m ∧ H l = some (.lst xs) ∧ H m = some (.lst xs) ∧ (xs = [] ∨ ∃ a, xs = [.ref a]) ∧ Q (.bl true) H
theorem op_eqS (hu : X.A.units + 64 < cLine) : OpR X (compareOp .Eq) rEqS := by
  intro pins s σ H x y v u Q I rx ry h
  obtain ⟨l, m, xs, rfl, rfl, el, em, hx, q⟩ := h
  rcases hx with rfl | ⟨a, rfl⟩
  · exact op_eqD hu pins s σ H _ _ v u Q I rx ry ⟨.list [], .list [], .lst (SqL.of el) .nil, .lst (SqL.of em) .nil, by decide +kernel, by decide +kernel, by simpa [PyData.eqv, PyData.eqvAll] using q⟩
  · cases rx
    cases ry
    exact rc_one (b := true) (Z := fun s' => Inv X pins σ H s') (by omega) (one_of_list I el (fun _ z => z)) (one_of_list I em (fun _ z => z)) (eqBool_self ⟨rfl, I⟩) (fun s' z => ⟨one_of_list z el (fun _ w => w), one_of_list z em (fun _ w => w)⟩) (fun s' z => ⟨.bl true, H, z, rfl, q⟩)
end
theorem text_two (x y : Str) : listText [x, y] = Str.ofString "[" ++ x ++ Str.ofString ", " ++ y ++ Str.ofString "]" := by
  refine TL.ext_tl ?_
  show tl ((((Str.ofString "[" ++ Str.ofString "") ++ x) ++ Str.ofString ", ") ++ y ++ Str.ofString "]") = _
  simp only [TL.tl_append]
  rw [show tl (Str.ofString "") = [] from by decide +kernel]
  simp
end WB

set_option Elab.async false
set_option linter.all false
set_option maxRecDepth 100000
set_option maxHeartbeats 4000000
namespace WB
open PySem PySem.Spec PyProof.Rows L2 WG
open TL (tl)
abbrev st_right : Stmt := topS 40
theorem sc_right : FnScope ["_law_told", "_law_twin_here", "_law_one", "_law_other", "_law_alike", "_law_found", "_law_strange", "_law_same", "_law_thing", "_law_truth"] ["_law_told", "_law_twin_here"] (defScope st_right) := ⟨rfl, rfl, rfl, by decide +kernel, rfl, by decide +kernel, by decide +kernel⟩
abbrev dvO : List V := [.str (Str.ofString ""), .str (Str.ofString "flag"), .str (Str.ofString "word"), .non, .bl false, .bl false, .str (Str.ofString "")]
abbrev dvP : List V := [.str (Str.ofString "one"), .str (Str.ofString "word"), .non, .str (Str.ofString "")]
theorem cons_makeO {C CN : Addr} {ta : TA} {σ : L2.St} {H : Hp} {Q : List V → Hp → Prop} (q : ∀ H' x, Same H H' → H x = none → IsT H' C x (dK true) → ta σ H' fun xs H3 => Q (.ref x :: xs) H3) :
    tCons (tMake C (spInit C CN) dvO (fun _ _ _ => False) (tCons (tC (.str (Str.ofString "a"))) tNil)) ta σ H Q :=
  initO (Q := fun v H' => ta σ H' fun xs H3 => Q (v :: xs) H3) (dO_ok (v := .str (Str.ofString "a")) (by decide +kernel) (str_fl (by decide +kernel))) q
theorem cons_makeP {C CN : Addr} {ta : TA} {σ : L2.St} {H : Hp} {Q : List V → Hp → Prop} (q : ∀ H' x, Same H H' → H x = none → IsT H' C x (dK false) → ta σ H' fun xs H3 => Q (.ref x :: xs) H3) :
    tCons (tMake C (WP.spInit C CN) dvP (fun _ _ _ => False) (tCons (tC (.str (Str.ofString "a"))) tNil)) ta σ H Q :=
  initP (Q := fun v H' => ta σ H' fun xs H3 => Q (v :: xs) H3) (dP_ok (v := .str (Str.ofString "a")) (by decide +kernel) (str_fl (by decide +kernel))) q
/-! ### lists that are sifted -/
def sift (L : List (V × Bool)) : List V := (L.filter (·.2)).map (·.1)
theorem pair_get {L : List (V × Bool)} {i : Nat} {v : V} (h : (L.map (·.1))[i]? = some v) : ∃ b, L[i]? = some (v, b) := by
  rw [List.getElem?_map] at h
  obtain ⟨⟨x, b⟩, h1, h2⟩ := Option.map_eq_some_iff.mp h
  exact ⟨b, by rw [h1, ← h2]⟩
theorem sift_on {L : List (V × Bool)} {i : Nat} {v : V} (h : L[i]? = some (v, true)) : sift (L.take (i + 1)) = sift (L.take i) ++ [v] := by
  unfold sift
  rw [List.take_add_one, h, List.filter_append, List.map_append]
  rfl
theorem sift_off {L : List (V × Bool)} {i : Nat} {v : V} (h : L[i]? = some (v, false)) : sift (L.take (i + 1)) = sift (L.take i) := by
  unfold sift
  rw [List.take_add_one, h, List.filter_append, List.map_append]
  simp
theorem sift_len (L : List (V × Bool)) : (sift L).length ≤ L.length := by
  unfold sift
  rw [List.length_map]
  exact List.length_filter_le _ _
def isDO (o : Bool) (us : List V) : Bool := decide (some (true, dK true) = some (o, us))
def isDP (o : Bool) (us : List V) : Bool := decide (some (false, dK false) = some (o, us))
def strange (o : Bool) (us : List V) (l tp lo x8 x9 : Addr) (tt y0 : Str) : List (V × Bool) := [(.non, false), (.ref l, false), (.ref tp, false), (.str tt, false), (.str y0, false), (.bl true, false), (.int 0, false), (.ref lo, false), (.ref x8, isDO o us), (.ref x9, isDP o us)]
theorem strange_ok {K : PySem.W.Frag} {CO CP : Addr} {H : Hp} {o : Bool} {us : List V} {l tp lo x8 x9 a : Addr} {tt y0 : Str} (el : H l = some (.lst us)) (etp : H tp = some (.tup us)) (elo : H lo = some (.lst [.ref a])) (t8 : IsT H (CK CO CP true) x8 (dK true)) (t9 : IsT H (CK CO CP false) x9 (dK false)) :
    ∀ p ∈ strange o us l tp lo x8 x9 tt y0, ∃ d, Th K CO CP H p.1 d ∧ p.2 = decide (d = some (o, us)) := by
  intro p hp
  have no : false = decide ((none : Option (Bool × List V)) = some (o, us)) := (decide_eq_false (fun z => by cases z)).symm
  unfold strange at hp
  simp only [List.mem_cons, List.not_mem_nil, or_false] at hp
  rcases hp with rfl | rfl | rfl | rfl | rfl | rfl | rfl | rfl | rfl | rfl
  · exact ⟨none, .plain .non (.base .non) (by decide), no⟩
  · exact ⟨none, .plain (.lst el) (.base (.lst el)) (by decide), no⟩
  · exact ⟨none, .plain (.tup etp) (.base (.tup etp)) (by decide), no⟩
  · exact ⟨none, .plain (.str _) (.base (.str _)) (by decide), no⟩
  · exact ⟨none, .plain (.str _) (.base (.str _)) (by decide), no⟩
  · exact ⟨none, .plain (.bl _) (.base (.bl _)) (by decide), no⟩
  · exact ⟨none, .plain (.int _) (.base (.int _)) (by decide), no⟩
  · exact ⟨none, .plain (.lst elo) (.base (.lst elo)) (by decide), no⟩
  · exact ⟨_, .ins t8, rfl⟩
  · exact ⟨_, .ins t9, rfl⟩
theorem strange_sift (o : Bool) (us : List V) (l tp lo x8 x9 : Addr) (tt y0 : Str) : sift (strange o us l tp lo x8 x9 tt y0) = sift [(.ref x8, isDO o us), (.ref x9, isDP o us)] := rfl
theorem sift_two (o : Bool) (us : List V) (x8 x9 : Addr) : sift [(.ref x8, isDO o us), (.ref x9, isDP o us)] = [] ∨ ∃ a, sift [(.ref x8, isDO o us), (.ref x9, isDP o us)] = [.ref a] := by
  cases h8 : isDO o us with
  | false =>
    cases h9 : isDP o us with
    | false => exact .inl rfl
    | true => exact .inr ⟨_, rfl⟩
  | true =>
    cases h9 : isDP o us with
    | false => exact .inr ⟨_, rfl⟩
    | true =>
      have e1 := of_decide_eq_true h8
      have e2 := of_decide_eq_true h9
      rw [← e2] at e1
      cases e1
theorem shown_b8 {o : Bool} {us : List V} (tu : TV o us) : decide (V.str (shw (nmK true) (dK true)) = V.str (shw (nmK o) us)) = isDO o us :=
  decide_eq_decide.mpr ⟨fun e => by obtain ⟨e1, e2⟩ := shown_inj tu (V.str.inj e); rw [e1, e2], fun e => by cases e; rfl⟩
theorem shown_b9 {o : Bool} {us : List V} (tu : TV o us) : decide (V.str (shw (nmK false) (dK false)) = V.str (shw (nmK o) us)) = isDP o us :=
  decide_eq_decide.mpr ⟨fun e => by obtain ⟨e1, e2⟩ := shown_inj tu (V.str.inj e); rw [e1, e2], fun e => by cases e; rfl⟩
theorem at0 {us : List V} {v : V} {r : List V} (h : us = v :: r) : atI us 0 = some v := by
  rw [h]
  exact atI_nat (xs := v :: r) (j := 0) rfl
theorem TV.head {o : Bool} {us : List V} (tu : TV o us) : ∃ y0 r0, us = .str y0 :: r0 ∧ isNm (.str y0) = true := by
  have nm : ∀ {v : V}, isNm v = true → ∃ y, v = .str y := fun {v} h => by
    cases v with
    | str y => exact ⟨y, rfl⟩
    | _ => cases h
  cases o with
  | true =>
    obtain ⟨v0, v1, v2, v3, v4, v5, v6, v7, rfl⟩ := tu.fd.eight
    have h := (tu.fd.at_ 0 v0 rfl).1
    obtain ⟨y, rfl⟩ := nm h
    exact ⟨y, _, rfl, h⟩
  | false =>
    obtain ⟨v0, v1, v2, v3, v4, rfl⟩ := tu.fd.five
    have h := (tu.fd.at_ 0 v0 rfl).1
    obtain ⟨y, rfl⟩ := nm h
    exact ⟨y, _, rfl, h⟩
section
variable {P : Program} {w : World} {K : PySem.W.Frag} {mg : Str → Option Value} {base : Heap}
def spRight (o : Bool) : Sp := fun xs H Q _ => ∃ (l m : Addr) (us ws : List V), xs = [.ref l, .ref m] ∧ H l = some (.lst us) ∧ TV o us ∧ H m = some (.lst ws) ∧ TV o ws ∧ ∀ H', Same H H' → Q (.bl true) H'
theorem ok_right {o : Bool} {CO CP CNo CNp f fM fS fIo fIp : Addr} {fd fdM fdS fdIo fdIp : FuncData} {k : Nat} {d1o d1p : List Value} (F : Fun K "_law_right" "_law_right" st_right f fd) (D_made : Df K mg "_law_made" st_made ["_law_told"] fM fdM) (D_shown : Df K mg "_law_shown" st_shown ["_law_told"] fS fdS) (two : Two P w K mg base (k + 3) CO CP)
    (MKo : L2.Mk K CO fIo) (GIo : FnOk P w K mg base (L2.CX P w) (k + 3) fIo fdIo optPs (spInit CO CNo)) (gO : mg "Option" = some (.ref CO)) (b8 : Binds K fdIo optPs []) (b1o : Binds K fdIo optPs d1o) (hv1o : Vals dvO d1o)
    (MKp : L2.Mk K CP fIp) (GIp : FnOk P w K mg base (L2.CX P w) (k + 3) fIp fdIp plcPs (WP.spInit CP CNp)) (gP : mg "Place" = some (.ref CP)) (b5 : Binds K fdIp plcPs []) (b1p : Binds K fdIp plcPs d1p) (hv1p : Vals dvP d1p)
    (m_len : mg "len" = none) (m_int : mg "int" = none) (m_repr : mg "repr" = none) (m_isinstance : mg "isinstance" = none) (m_bool : mg "bool" = none) (m_tuple : mg "tuple" = none) :
    GOk P w K mg base CX0 (k + 6) f fd ["_law_told", "_law_twin_here"] (spRight o) := by
  have G_made : FnOk P w K mg base CX0 (k + 5) fM fdM ["_law_told"] (spMade CO CP o) := ok_made D_made.F MKo GIo gO b8 MKp GIp gP b5 m_len
  have G_shown : FnOk P w K mg base CX0 (k + 5) fS fdS ["_law_told"] (spShown o) := ok_shown D_shown.F m_len m_int m_repr
  refine gfun_ok F sc_right (fun vs H Q E h => ?_) (fun cdv A outer s H vs Q E hgd hr h => ?_)
  · obtain ⟨l, m, us, ws, rfl, _⟩ := h
    rfl
  · obtain ⟨l, m, us, ws, rfl, el, tu, em, tw, q⟩ := h
    have sl : sizeLine = 16777216 := sizeLine_eq
    have lu : us.length ≤ 8 := by rw [tu.fd.len]; exact (nK_le o).2
    have lw : ws.length ≤ 8 := by rw [tw.fd.len]; exact (nK_le o).2
    refine ⟨_, PSs.nox (pss_cons (ps_set (i := 2) sc_right.nd rfl (.inr rfl) (pe_call G_made hr (by rfl) D_made.g D_made.F.kp D_made.b .nil pass0 (pa_cons (pv 0) pa_nil)))
      (pss_cons (ps_set (i := 3) sc_right.nd rfl (.inl rfl) (pe_call G_made hr (by rfl) D_made.g D_made.F.kp D_made.b .nil pass0 (pa_cons (pv 1) pa_nil)))
      (pss_cons (ps_set (i := 4) sc_right.nd rfl (.inl rfl) (pe_cmpR (op_eqD hr.units) (pv 0) (pv 1) (nomark _)))
      (pss_cons (ps_set (i := 5) sc_right.nd rfl (.inl rfl) (pe_lst (pa_cons (pe_cmpR (r := rEqJ P w K mg base (k + 3)) (op_eqJ (hr.mono (by omega))) (pv 2) (pv 3) (nomark _)) (pa_cons (pe_cmpR (r := rEqJ P w K mg base (k + 3)) (op_eqJ (hr.mono (by omega))) (pv 3) (pv 2) (nomark _)) (pa_cons (pe_cmpR (op_inI (n := k + 3) (hr.mono (by omega))) (pv 3) (pe_lst (pa_cons (pv 2) pa_nil)) (by rfl)) (pa_cons (pe_cmpR (op_eqL1 (n := k + 3) (hr.mono (by omega))) (pe_lst (pa_cons (pv 2) pa_nil)) (pe_lst (pa_cons (pv 3) pa_nil)) (nomark _)) (pa_cons (pe_not (pe_cmpR (op_neI (n := k + 3) (hr.mono (by omega))) (pv 2) (pv 3) (nomark _))) (pa_cons (pe_cmpR (r := rEqJ P w K mg base (k + 3)) (op_eqJ (hr.mono (by omega))) (pv 2) (pe_call G_made hr (by rfl) D_made.g D_made.F.kp D_made.b .nil pass0 (pa_cons (pv 0) pa_nil)) (nomark _)) pa_nil))))))))
      (pss_cons (ps_if (PW.pt (pw_or (pt_cmpR (op_neD hr.units) (pe_lc (own := [("_law_truth", 9)]) (g := gName 9) rfl sc_right.nd (pi_list (pv 5)) (blkOk_by (N := ["_law_told", "_law_twin_here", "_law_one", "_law_other", "_law_alike", "_law_found", "_law_strange", "_law_same", "_law_thing", "_law_truth"]) (sc := defScope st_right) (by decide +kernel)) (fun _ _ _ _ _ => (pg_name (i := 9) sc_right.nd rfl (Or.inl rfl))) (fun _ _ _ _ _ => pts_one (pt_not (pt_val (pe_callB (r := rIsi K) call_isi (by rfl) m_isinstance (by decide +kernel) (pa_cons (pv 9) (pa_cons (pe_bltn (v := .ty "bool") (by rfl) m_bool (by decide +kernel) rfl) pa_nil)))))) (fun _ _ _ _ _ => (pv 9))) (pe_lst pa_nil) (nomark _)) (pw_or1 (pt_cmpR (op_neD hr.units) (pv 5) (pe_op op_cat (pe_op op_rep (pe_lst (pa_cons (pv 4) pa_nil)) pe_int) (pe_lst (pa_cons pe_bl pa_nil))) (nomark _))))) (pss_one (ps_ret pe_bl)) pss_nil)
      (pss_cons (ps_if (PW.pt (pw_or (pt_cmpR op_ne (pe_callB (r := rReprJ P w K mg base (k + 3)) (call_reprJ (hr.mono (by omega))) (by rfl) m_repr (by decide +kernel) (pa_cons (pv 2) pa_nil)) (pe_call G_shown hr (by rfl) D_shown.g D_shown.F.kp D_shown.b .nil pass0 (pa_cons (pv 0) pa_nil)) (nomark _)) (pw_or1 (pt_cmpR op_ne (pe_callB (call_reprIs (n := k + 3) hgd (hr.mono (by omega))) (by rfl) m_repr (by decide +kernel) (pa_cons (pe_lst (pa_cons (pv 2) (pa_cons (pv 3) pa_nil))) pa_nil)) (pe_op op_add_str (pe_op op_add_str (pe_op op_add_str (pe_op op_add_str pe_str (pe_call G_shown hr (by rfl) D_shown.g D_shown.F.kp D_shown.b .nil pass0 (pa_cons (pv 0) pa_nil))) pe_str) (pe_call G_shown hr (by rfl) D_shown.g D_shown.F.kp D_shown.b .nil pass0 (pa_cons (pv 1) pa_nil))) pe_str) (nomark _))))) (pss_one (ps_ret pe_bl)) pss_nil)
      (pss_cons (ps_set (i := 6) sc_right.nd rfl (.inl rfl) (pe_lst (pa_cons pe_non (pa_cons (pv 0) (pa_cons (pe_callTy call_tuple_of (by rfl) m_tuple (by decide +kernel) (pa_cons (pv 0) pa_nil)) (pa_cons (pe_call G_shown hr (by rfl) D_shown.g D_shown.F.kp D_shown.b .nil pass0 (pa_cons (pv 0) pa_nil)) (pa_cons (pe_ix ix_list (pv 0) pe_int (fun _ _ => rfl)) (pa_cons pe_bl (pa_cons pe_int (pa_cons (pe_lst (pa_cons (pv 2) pa_nil)) (pa_cons (pe_make MKo GIo (hr.mono (by omega)) (by rfl) gO b1o hv1o passF (pa_cons pe_str pa_nil)) (pa_cons (pe_make MKp GIp (hr.mono (by omega)) (by rfl) gP b1p hv1p passF (pa_cons pe_str pa_nil)) pa_nil))))))))))))
      (pss_cons (ps_setLc (i := 7) (own := [("_law_thing", 8)]) (g := gName 8)  rfl sc_right.nd rfl rfl (sw_true rfl rfl rfl (by decide +kernel)) (pi_list (pv 6)) (blkOk_by (N := ["_law_told", "_law_twin_here", "_law_one", "_law_other", "_law_alike", "_law_found", "_law_strange", "_law_same", "_law_thing", "_law_truth"]) (sc := defScope st_right) (by decide +kernel)) (fun _ _ _ _ _ => (pg_name (i := 8) sc_right.nd rfl (Or.inl rfl))) (fun _ _ _ _ _ => pts_one (PW.pt (pw_or (pt_cmpR (r := rEqJ P w K mg base (k + 3)) (op_eqJ (hr.mono (by omega))) (pv 2) (pv 8) (nomark _)) (pw_or1 (pt_cmpR (r := rEqJ P w K mg base (k + 3)) (op_eqJ (hr.mono (by omega))) (pv 8) (pv 2) (nomark _)))))) (fun _ _ _ _ _ => (pv 8)))
      (pss_one (ps_ret (pe_cmpR (op_eqS hr.units) (pv 7) (pe_lc (own := [("_law_thing", 8)]) (g := gName 8) rfl sc_right.nd (pi_list (pe_slice sl_list (pv 6) (po_some pe_int) po_none)) (blkOk_by (N := ["_law_told", "_law_twin_here", "_law_one", "_law_other", "_law_alike", "_law_found", "_law_strange", "_law_same", "_law_thing", "_law_truth"]) (sc := defScope st_right) (by decide +kernel)) (fun _ _ _ _ _ => (pg_name (i := 8) sc_right.nd rfl (Or.inl rfl))) (fun _ _ _ _ _ => pts_one (pt_cmpR op_eq (pe_callB (r := rReprJ P w K mg base (k + 3)) (call_reprJ (hr.mono (by omega))) (by rfl) m_repr (by decide +kernel) (pa_cons (pv 8) pa_nil)) (pe_call G_shown hr (by rfl) D_shown.g D_shown.F.kp D_shown.b .nil pass0 (pa_cons (pv 0) pa_nil)) (nomark _))) (fun _ _ _ _ _ => (pv 8))) (nomark _)))))))))))), ?_⟩
    refine ⟨.ref l, rfl, l, us, rfl, el, tu, fun H1 a s1 na ta => ?_⟩
    refine ⟨.ref m, rfl, m, ws, rfl, s1 _ _ em, tw, fun H2 c s2 nc tc => ?_⟩
    have S2 : Same H H2 := s1.trans s2
    have nac : a ≠ c := by
      obtain ⟨_, dx, t, ea, _⟩ := ta
      exact ne_of_none ea nc
    replace ta := ta.same s2
    refine ⟨.ref l, rfl, .ref m, rfl, _, _, .lst (SqL.of (S2 _ _ el)) tu.fl.dp, .lst (SqL.of (S2 _ _ em)) tw.fl.dp, tu.fl.shL, tw.fl.shL, ?_⟩
    rw [eqv_lst tu.fl tw.fl]
    have E1 : ∀ {Hx}, Same H2 Hx → EqOk P w K mg base (k + 3) Hx (.ref a) (.ref c) (decide (us = ws)) := fun {Hx} sx => by
      have := (two.ok (ta.same sx) (.ins (tc.same sx))).1
      rwa [show decide (some (o, ws) = some (o, us)) = decide (us = ws) from decide_eq_decide.mpr ⟨fun e => by cases e; rfl, fun e => by rw [e]⟩] at this
    have E2 : ∀ {Hx}, Same H2 Hx → EqOk P w K mg base (k + 3) Hx (.ref c) (.ref a) (decide (us = ws)) := fun {Hx} sx => by
      have := (two.ok (ta.same sx) (.ins (tc.same sx))).2
      rwa [show decide (some (o, ws) = some (o, us)) = decide (us = ws) from decide_eq_decide.mpr ⟨fun e => by cases e; rfl, fun e => by rw [e]⟩] at this
    refine ⟨.ref a, rfl, .ref c, rfl, _, E1 (Same.refl _), .ref c, rfl, .ref a, rfl, _, E2 (Same.refl _), .ref c, rfl, .ref a, rfl, by show 1 ≤ sizeLine; decide, fun l1 n1 => ?_⟩
    have S3 := same_upd (o := .lst [.ref a]) n1
    refine ⟨l1, a, c, _, rfl, rfl, upd_same, nac, E1 S3 _ rfl rfl rfl rfl rfl, ?_⟩
    revert S3
    generalize upd H2 l1 (.lst [.ref a]) = H3
    intro S3
    refine ⟨.ref a, rfl, by show 1 ≤ sizeLine; decide, fun l2 n2 => ⟨.ref c, rfl, by show 1 ≤ sizeLine; decide, fun l3 n3 => ?_⟩⟩
    have T4 := same_upd (o := .lst [.ref a]) n2
    have T5 := same_upd (o := .lst [.ref c]) n3
    refine ⟨l2, l3, a, c, _, rfl, rfl, T5 _ _ upd_same, upd_same, nac, E1 ((S3.trans T4).trans T5) _ rfl rfl rfl rfl rfl, ?_⟩
    have S5 := (S3.trans T4).trans T5
    revert S5
    generalize upd (upd H3 l2 (.lst [.ref a])) l3 (.lst [.ref c]) = H5
    intro S5
    refine ⟨.ref a, rfl, .ref c, rfl, _, a, c, us, ws, rfl, rfl, (two.eq o).at, ta.same S5, tc.same S5, _, rfl, ?_⟩
    refine ⟨.ref a, rfl, .ref l, rfl, l, us, rfl, S5 _ _ (S2 _ _ el), tu, fun H6 e s6 ne6 te => ⟨true, ?_, by show 6 ≤ sizeLine; decide, fun lf nf => ?_⟩⟩
    · have S6 := S5.trans s6
      have := (two.ok (ta.same S6) (.ins te)).1
      rwa [decide_eq_true rfl] at this
    have S6 := S5.trans s6
    rw [Bool.not_not]
    have S7 := S6.trans (same_upd (o := .lst [.bl (decide (us = ws)), .bl (decide (us = ws)), .bl (decide (us = ws)), .bl (decide (us = ws)), .bl (decide (us = ws)), .bl true]) nf)
    have ef : (upd H6 lf (.lst [.bl (decide (us = ws)), .bl (decide (us = ws)), .bl (decide (us = ws)), .bl (decide (us = ws)), .bl (decide (us = ws)), .bl true])) lf = some (.lst [.bl (decide (us = ws)), .bl (decide (us = ws)), .bl (decide (us = ws)), .bl (decide (us = ws)), .bl (decide (us = ws)), .bl true]) := upd_same
    revert S7 ef
    generalize upd H6 lf (.lst [.bl (decide (us = ws)), .bl (decide (us = ws)), .bl (decide (us = ws)), .bl (decide (us = ws)), .bl (decide (us = ws)), .bl true]) = H7
    intro S7 ef
    revert ef
    generalize decide (us = ws) = bb
    intro ef
    refine ⟨.ref lf, rfl, lf, rfl, ⟨_, SqL.of ef⟩, fun D nD => ?_⟩
    refine lc_list (K := K) (a := lf) (xs := [.bl bb, .bl bb, .bl bb, .bl bb, .bl bb, .bl true]) (fun i Hc => Same H7 Hc ∧ Hc D = some (.lst [])) ⟨same_upd nD, upd_same⟩ (fun i Hc _ h => SqL.of (h.1 _ _ ef)) (fun i v Hc hv ⟨sc, eD⟩ => ?_) (fun H8 ⟨s8, e8⟩ => ?_)
    · obtain ⟨b, rfl⟩ : ∃ b, v = .bl b := by
        have hm := List.mem_of_getElem? hv
        simp only [List.mem_cons, List.not_mem_nil, or_false] at hm
        rcases hm with z | z | z | z | z | z <;> exact ⟨_, z⟩
      exact ⟨rfl, .bl b, rfl, .bl b, _, _, _, true, rfl, ClsV.ty "bool", TyX.base (.bl b), kit_ty (show kitB "bool" "bool" = some true from by decide +kernel), _, rfl, sc, eD⟩
    refine ⟨by show 0 ≤ sizeLine; decide, fun l0 n0 => ?_⟩
    have S9 := (S7.trans s8).trans (same_upd (o := .lst []) n0)
    have ef9 := same_upd (o := .lst []) n0 _ _ (s8 _ _ ef)
    refine ⟨.list [], .list [], .lst (SqL.of (same_upd n0 _ _ e8)) .nil, .lst (SqL.of upd_same) .nil, by decide +kernel, by decide +kernel, false, congrArg V.bl (by simp [PyData.eqv, PyData.eqvAll]), ?_⟩
    revert S9 ef9
    generalize upd H8 l0 (.lst []) = H9
    intro S9 ef9
    refine ⟨.ref lf, rfl, .bl bb, rfl, by show 1 ≤ sizeLine; decide, fun g1 m1 => ⟨g1, 5, _, rfl, rfl, upd_same, by decide, by decide, by show 1 * 5 ≤ sizeLine; decide, fun g2 m2 => ⟨by show 1 ≤ sizeLine; decide, fun g3 m3 => ?_⟩⟩⟩
    have T1 := same_upd (o := .lst [.bl bb]) m1
    have T3 := same_upd (o := .lst [.bl true]) m3
    refine ⟨g2, g3, [.bl bb, .bl bb, .bl bb, .bl bb, .bl bb], [.bl true], rfl, rfl, T3 _ _ upd_same, upd_same, by show 6 ≤ sizeLine; decide, fun g4 m4 => ?_⟩
    have T2 := same_upd (o := .lst (List.replicate (Int.toNat 5) [V.bl bb]).flatten) m2
    have T4' := same_upd (o := .lst ([V.bl bb, .bl bb, .bl bb, .bl bb, .bl bb] ++ [.bl true])) m4
    have TT := ((T1.trans T2).trans T3).trans T4'
    have S10 := S9.trans TT
    have af : AllFl [V.bl bb, .bl bb, .bl bb, .bl bb, .bl bb, .bl true] := fun v hv => by
      simp only [List.mem_cons, List.not_mem_nil, or_false] at hv
      rcases hv with z | z | z | z | z | z <;> (rw [z]; exact .bl _)
    refine ⟨_, _, .lst (SqL.of (TT _ _ ef9)) af.dp, .lst (SqL.of upd_same) af.dp, af.shL, af.shL, false, congrArg V.bl (by rw [eqv_lst af af, decide_eq_true rfl]; rfl), ?_⟩
    revert S10
    generalize upd (upd (upd (upd H9 g1 _) g2 _) g3 _) g4 _ = H10
    intro S10
    have S10' := S2.trans S10
    have rk : ∀ {Hx}, Same H2 Hx → RpOk P w K mg base (k + 3) Hx a (shw (nmK o) us) := fun sx => two.rok (ta.same sx) (by omega)
    refine ⟨.ref a, rfl, a, _, rfl, rk S10, fun H11 s11 => ⟨.ref l, rfl, l, us, rfl, s11 _ _ (S10' _ _ el), tu, fun H12 s12 => ⟨rfl, false, congrArg V.bl (by rw [decide_eq_true rfl]; rfl), ?_⟩⟩⟩
    have S12 := (S10.trans s11).trans s12
    refine ⟨.ref a, rfl, .ref c, rfl, by show 2 ≤ sizeLine; decide, fun r1 nr1 => ?_⟩
    have S13 := S12.trans (same_upd (o := .lst [.ref a, .ref c]) nr1)
    have z1 := shw_len tu
    have z2 := shw_len tw
    have lt : (listText [shw (nmK o) us, shw (nmK o) ws]).length ≤ 150000 := by
      rw [text_two]
      simp only [Str.length_append]
      rw [show (Str.ofString "[").length = 1 from by decide +kernel, show (Str.ofString ", ").length = 2 from by decide +kernel, show (Str.ofString "]").length = 1 from by decide +kernel]
      omega
    refine ⟨r1, [a, c], [shw (nmK o) us, shw (nmK o) ws], rfl, upd_same, by simp, rfl, fun i x hx => ?_, by omega, fun H14 s14 => ?_⟩
    · match i, hx with
      | 0, hx =>
        cases hx
        exact ⟨_, rfl, rk S13 _ rfl rfl rfl rfl rfl⟩
      | 1, hx =>
        cases hx
        exact ⟨_, rfl, two.rok (tc.same S13) (by omega) _ rfl rfl rfl rfl rfl⟩
    have S14 := S13.trans s14
    have q1 : (Str.ofString "[").length = 1 := by decide +kernel
    have q2 : (Str.ofString ", ").length = 2 := by decide +kernel
    have q3 : (Str.ofString "]").length = 1 := by decide +kernel
    refine ⟨.ref l, rfl, l, us, rfl, S14 _ _ (S2 _ _ el), tu, fun H15 s15 => ⟨_, _, rfl, rfl, by omega, _, _, rfl, rfl, by rw [Str.length_append]; omega, .ref m, rfl, m, ws, rfl, s15 _ _ (S14 _ _ (S2 _ _ em)), tw, fun H16 s16 => ?_⟩⟩
    have S16 := (S14.trans s15).trans s16
    refine ⟨_, _, rfl, rfl, by rw [Str.length_append, Str.length_append]; omega, _, _, rfl, rfl, by rw [Str.length_append, Str.length_append, Str.length_append]; omega, rfl, false, congrArg V.bl (by rw [text_two, decide_eq_true rfl]; rfl), ?_⟩
    obtain ⟨y0, r0, eu, ny0⟩ := tu.head
    have el16 := S16 _ _ (S2 _ _ el)
    refine ⟨.ref l, rfl, .ref l, rfl, l, us, rfl, .inl ⟨SqL.of el16, fun tp ntp => ?_⟩⟩
    have etp : (upd H16 tp (.tup us)) tp = some (.tup us) := upd_same
    have s17 := same_upd (o := .tup us) ntp
    revert etp s17
    generalize upd H16 tp (.tup us) = H17
    intro etp s17
    refine ⟨.ref l, rfl, l, us, rfl, s17 _ _ el16, tu, fun H18 s18 => ?_⟩
    have el18 := s18 _ _ (s17 _ _ el16)
    refine ⟨.ref l, rfl, l, us, 0, .str y0, rfl, rfl, SqL.of el18, at0 eu, .ref a, rfl, by show 1 ≤ sizeLine; decide, fun lo nlo => ?_⟩
    have elo : (upd H18 lo (.lst [.ref a])) lo = some (.lst [.ref a]) := upd_same
    have s19 := same_upd (o := .lst [.ref a]) nlo
    revert elo s19
    generalize upd H18 lo (.lst [.ref a]) = H19
    intro elo s19
    refine cons_makeO (fun H20 x8 s20 n8 t8 => cons_makeP (fun H21 x9 s21 n9 t9 => ⟨by show 10 ≤ sizeLine; decide, fun st nst => ?_⟩))
    have est : (upd H21 st (.lst [.non, .ref l, .ref tp, .str (shw (nmK o) us), .str y0, .bl true, .int 0, .ref lo, .ref x8, .ref x9])) st = some (.lst [.non, .ref l, .ref tp, .str (shw (nmK o) us), .str y0, .bl true, .int 0, .ref lo, .ref x8, .ref x9]) := upd_same
    have s22 := same_upd (o := .lst [.non, .ref l, .ref tp, .str (shw (nmK o) us), .str y0, .bl true, .int 0, .ref lo, .ref x8, .ref x9]) nst
    revert est s22
    generalize upd H21 st (.lst [.non, .ref l, .ref tp, .str (shw (nmK o) us), .str y0, .bl true, .int 0, .ref lo, .ref x8, .ref x9]) = H22
    intro est s22
    have s1922 := (s20.trans s21).trans s22
    have t8' : IsT H22 (CK CO CP true) x8 (dK true) := (t8.same s21).same s22
    have t9' : IsT H22 (CK CO CP false) x9 (dK false) := t9.same s22
    have elo' := s1922 _ _ elo
    have etp' := s1922 _ _ (s19 _ _ (s18 _ _ etp))
    have el22 := s1922 _ _ (s19 _ _ el18)
    have S22 : Same H2 H22 := (((S16.trans s17).trans s18).trans s19).trans s1922
    refine ⟨.ref st, rfl, st, rfl, ⟨_, SqL.of est⟩, fun D nD => ?_⟩
    refine lc_list (K := K) (a := st) (xs := (strange o us l tp lo x8 x9 (shw (nmK o) us) y0).map (fun p : V × Bool => p.1)) (fun i Hc => Same H22 Hc ∧ Hc D = some (.lst (sift ((strange o us l tp lo x8 x9 (shw (nmK o) us) y0).take i)))) ⟨same_upd nD, upd_same⟩ (fun i Hc _ h => SqL.of (h.1 _ _ est)) (fun i v Hc hv ⟨sc, eD⟩ => ?_) (fun H23 ⟨s23, e23⟩ => ?_)
    · obtain ⟨b, hb⟩ := pair_get hv
      obtain ⟨d, th, eb⟩ := strange_ok (K := K) (CO := CO) (CP := CP) (sc _ _ el22) (sc _ _ etp') (sc _ _ elo') (t8'.same sc) (t9'.same sc) _ (List.mem_of_getElem? hb)
      have eb' : b = decide (d = some (o, us)) := eb
      have th' : Th K CO CP Hc v d := th
      obtain ⟨k1, k2⟩ := two.ok ((ta.same S22).same sc) th'
      rw [← eb'] at k1 k2
      refine ⟨rfl, .ref a, rfl, v, rfl, b, k1, b, rfl, ?_⟩
      cases b with
      | true =>
        refine ⟨v, rfl, _, eD, ?_, ?_, ?_⟩
        · have := sift_len ((strange o us l tp lo x8 x9 (shw (nmK o) us) y0).take i)
          have h2 : ((strange o us l tp lo x8 x9 (shw (nmK o) us) y0).take i).length ≤ 10 := by
            rw [List.length_take]
            exact Nat.min_le_right _ _
          omega
        · intro b ob e
          rw [upd_ne (ne_of_none e nD)]
          exact sc b ob e
        · rw [upd_same, sift_on hb]
      | false =>
        refine ⟨v, rfl, .ref a, rfl, false, k2, false, rfl, sc, ?_⟩
        rw [sift_off hb]
        exact eD
    have e23' : H23 D = some (.lst (sift [(.ref x8, isDO o us), (.ref x9, isDP o us)])) := e23
    refine ⟨.ref D, rfl, .ref st, rfl, 8, rfl, st, _, rfl, SqL.of (s23 _ _ est), fun sx nsx => ?_⟩
    have esx : (upd H23 sx (.lst [.ref x8, .ref x9])) sx = some (.lst [.ref x8, .ref x9]) := upd_same
    have s24 := same_upd (o := .lst [.ref x8, .ref x9]) nsx
    refine ⟨sx, rfl, ⟨_, SqL.of (xs := [.ref x8, .ref x9]) esx⟩, ?_⟩
    have ec : cutV [V.non, .ref l, .ref tp, .str (shw (nmK o) us), .str y0, .bl true, .int 0, .ref lo, .ref x8, .ref x9] (some 8) none = [.ref x8, .ref x9] := rfl
    rw [ec]
    revert esx s24
    generalize upd H23 sx (.lst [.ref x8, .ref x9]) = H24
    intro esx s24
    refine fun D2 nD2 => ?_
    refine lc_list (K := K) (a := sx) (xs := [(V.ref x8, isDO o us), (V.ref x9, isDP o us)].map (fun p : V × Bool => p.1)) (fun i Hc => Same H24 Hc ∧ Hc D2 = some (.lst (sift ([(V.ref x8, isDO o us), (V.ref x9, isDP o us)].take i)))) ⟨same_upd nD2, upd_same⟩ (fun i Hc _ h => SqL.of (h.1 _ _ esx)) (fun i v Hc hv ⟨sc, eD⟩ => ?_) (fun H25 ⟨s25, e25⟩ => ?_)
    · obtain ⟨b, hb⟩ := pair_get hv
      have st22 := (s23.trans s24).trans sc
      obtain ⟨x, t, ev, rx, et⟩ : ∃ (x : Addr) (t : Str), v = .ref x ∧ RpOk P w K mg base (k + 3) Hc x t ∧ decide (V.str t = V.str (shw (nmK o) us)) = b := by
        have hm := List.mem_of_getElem? hb
        simp only [List.mem_cons, List.not_mem_nil, or_false, Prod.mk.injEq] at hm
        rcases hm with ⟨rfl, rfl⟩ | ⟨rfl, rfl⟩
        · exact ⟨x8, _, rfl, two.rok (t8'.same st22) (by decide), shown_b8 tu⟩
        · exact ⟨x9, _, rfl, two.rok (t9'.same st22) (by decide), shown_b9 tu⟩
      subst ev
      refine ⟨rfl, .ref x, rfl, x, t, rfl, rx, fun Ha sa => ⟨.ref l, rfl, l, us, rfl, sa _ _ (st22 _ _ el22), tu, fun Hb sb => ⟨rfl, b, congrArg V.bl et, ?_⟩⟩⟩
      have sab := (sc.trans sa).trans sb
      have eD' := sb _ _ (sa _ _ eD)
      cases b with
      | true =>
        refine ⟨.ref x, rfl, _, eD', ?_, ?_, ?_⟩
        · have := sift_len ([(V.ref x8, isDO o us), (V.ref x9, isDP o us)].take i)
          have h2 : ([(V.ref x8, isDO o us), (V.ref x9, isDP o us)].take i).length ≤ 2 := by
            rw [List.length_take]
            exact Nat.min_le_right _ _
          omega
        · intro b ob e
          rw [upd_ne (ne_of_none e nD2)]
          exact sab b ob e
        · rw [upd_same, sift_on hb]
      | false =>
        refine ⟨sab, ?_⟩
        rw [sift_off hb]
        exact eD'
    have e25' : H25 D2 = some (.lst (sift [(.ref x8, isDO o us), (.ref x9, isDP o us)])) := e25
    exact ⟨D, D2, _, rfl, rfl, s25 _ _ (s24 _ _ e23'), e25', sift_two o us x8 x9, q _ ((((S2.trans S22).trans s23).trans s24).trans s25)⟩
end
end WB

set_option Elab.async false
set_option linter.all false
set_option maxRecDepth 100000
set_option maxHeartbeats 4000000
namespace WB
open PySem PySem.Spec PyProof.Rows L2 WG
open TL (tl)
abbrev st_law : Stmt := topS 41
theorem sc_law : FnScope ["_law_script", "_law_k", "_law_pot_here", "_law_told"] ["_law_script"] (defScope st_law) := ⟨rfl, rfl, rfl, by decide +kernel, rfl, by decide +kernel, by decide +kernel⟩
theorem makeO1 {C CN : Addr} {v : V} {t : TA} {σ : L2.St} {H : Hp} {Q : VK} (ht : ∀ R : List V → Hp → Prop, R [v] H → t σ H R) (nv : isNm v = true) (fv : Fl v) (q : ∀ H' x, Same H H' → H x = none → IsT H' C x (v :: dvO) → Q (.ref x) H') :
    tMake C (spInit C CN) dvO (fun _ _ _ => False) t σ H Q := ht _ (initO (Q := Q) (dO_ok nv fv) q)
section
variable {P : Program} {w : World} {K : PySem.W.Frag} {mg : Str → Option Value} {base : Heap}
def spLaw (K : PySem.W.Frag) : Sp := fun vs H Q _ => ∃ (a : Addr) (ns : List Int), vs = [.ref a] ∧ SqL K H a (ns.map V.int) ∧ ns.length ≤ 63 ∧ ∀ H', Q (.bl true) H'
theorem ok_law {CO CP CNo CNp f fC fP fT fN fA fX fS fO fL fF fW fR fM fH fIo fIp : Addr} {fd fdC fdP fdT fdN fdA fdX fdS fdO fdL fdF fdW fdR fdM fdH fdIo fdIp : FuncData} {k : Nat} {d1o d1p : List Value} (F : Fun K "law" "law" st_law f fd)
    (D_cell : Df K mg "_law_cell" sCell ["_law_script", "_law_k"] fC fdC) (D_pot : Df K mg "_law_pot" sPot ["_law_script", "_law_k"] fP fdP) (D_take : Df K mg "_law_take" sTake ["_law_pot_here", "_law_room"] fT fdT)
    (D_name : Df K mg "_law_name" sName ["_law_pot_here"] fN fdN) (D_about : Df K mg "_law_about" sAbout ["_law_pot_here"] fA fdA) (D_text : Df K mg "_law_text" sText ["_law_pot_here"] fX fdX) (D_signs : Df K mg "_law_signs" sSigns ["_law_pot_here", "_law_most"] fS fdS)
    (D_option : Df K mg "_law_option" st_option ["_law_pot_here"] fO fdO) (D_place : Df K mg "_law_place" st_place ["_law_pot_here"] fL fdL) (D_fits : Df K mg "_law_fits" st_fits ["_law_told"] fF fdF) (D_twin : Df K mg "_law_twin" st_twin ["_law_pot_here", "_law_told", "_law_anew"] fW fdW)
    (D_right : Df K mg "_law_right" st_right ["_law_told", "_law_twin_here"] fR fdR) (D_made : Df K mg "_law_made" st_made ["_law_told"] fM fdM) (D_shown : Df K mg "_law_shown" st_shown ["_law_told"] fH fdH) (two : Two P w K mg base (k + 3) CO CP)
    (MKo : L2.Mk K CO fIo) (GIo : FnOk P w K mg base (L2.CX P w) (k + 3) fIo fdIo optPs (spInit CO CNo)) (gO : mg "Option" = some (.ref CO)) (b8 : Binds K fdIo optPs []) (b1o : Binds K fdIo optPs d1o) (hv1o : Vals dvO d1o)
    (MKp : L2.Mk K CP fIp) (GIp : FnOk P w K mg base (L2.CX P w) (k + 3) fIp fdIp plcPs (WP.spInit CP CNp)) (gP : mg "Place" = some (.ref CP)) (b5 : Binds K fdIp plcPs []) (b1p : Binds K fdIp plcPs d1p) (hv1p : Vals dvP d1p)
    (m_len : mg "len" = none) (m_max : mg "max" = none) (m_min : mg "min" = none) (m_abs : mg "abs" = none) (m_range : mg "range" = none) (m_list : mg "list" = none) (m_int : mg "int" = none) (m_repr : mg "repr" = none) (m_isinstance : mg "isinstance" = none) (m_bool : mg "bool" = none) (m_tuple : mg "tuple" = none) :
    GOk P w K mg base CX0 (k + 7) f fd ["_law_script"] (spLaw K) := by
  have G_pot : FnOk P w K mg base CX0 (k + 6) fP fdP ["_law_script", "_law_k"] (spPot K) := ok_pot D_pot.F D_cell m_len m_max m_abs
  have G_option : FnOk P w K mg base CX0 (k + 6) fO fdO ["_law_pot_here"] (spArgs OptV) := ok_option (k := k + 2) D_option.F D_take D_name D_about D_text D_signs m_len m_range
  have G_place : FnOk P w K mg base CX0 (k + 6) fL fdL ["_law_pot_here"] (spArgs PlcV) := ok_place (k := k + 2) D_place.F D_take D_name D_about D_text D_signs m_len m_range
  have G_twino : FnOk P w K mg base CX0 (k + 6) fW fdW ["_law_pot_here", "_law_told", "_law_anew"] (spTwin true) := ok_twin D_twin.F D_take D_fits m_len m_range m_list
  have G_twinp : FnOk P w K mg base CX0 (k + 6) fW fdW ["_law_pot_here", "_law_told", "_law_anew"] (spTwin false) := ok_twin D_twin.F D_take D_fits m_len m_range m_list
  have G_righto : GOk P w K mg base CX0 (k + 6) fR fdR ["_law_told", "_law_twin_here"] (spRight true) := ok_right D_right.F D_made D_shown two MKo GIo gO b8 b1o hv1o MKp GIp gP b5 b1p hv1p m_len m_int m_repr m_isinstance m_bool m_tuple
  have G_rightp : GOk P w K mg base CX0 (k + 6) fR fdR ["_law_told", "_law_twin_here"] (spRight false) := ok_right D_right.F D_made D_shown two MKo GIo gO b8 b1o hv1o MKp GIp gP b5 b1p hv1p m_len m_int m_repr m_isinstance m_bool m_tuple
  have G_made : FnOk P w K mg base CX0 (k + 6) fM fdM ["_law_told"] (spMade CO CP false) := (ok_made (k := k) D_made.F MKo GIo gO b8 MKp GIp gP b5 m_len).mono (by omega)
  refine gfun_ok F sc_law (fun vs H Q E h => ?_) (fun cdv A outer s H vs Q E hgd hr h => ?_)
  · obtain ⟨a, ns, rfl, _⟩ := h
    rfl
  · obtain ⟨a, ns, rfl, hS, hlen, q⟩ := h
    refine ⟨_, PSs.nox (pss_cons (ps_for PassesOwn.never rfl (pi_range1 rfl m_range (pa_cons (pe_callB (call_max2 rfl) (by rfl) m_max (by decide +kernel) (pa_cons pe_int (pa_cons (pe_callB (call_min2 rfl) (by rfl) m_min (by decide +kernel) (pa_cons (pe_callB call_len_seq (by rfl) m_len PySem.boot_len (pa_cons (pv 0) pa_nil)) (pa_cons pe_int pa_nil))) pa_nil))) pa_nil)) (pg_name (i := 1) sc_law.nd rfl (Or.inl rfl)) (pss_cons (ps_set (i := 2) sc_law.nd rfl (.inl rfl) (pe_call G_pot hr (by rfl) D_pot.g D_pot.F.kp D_pot.b .nil pass0 (pa_cons (pv 0) (pa_cons (pv 1) pa_nil))))
      (pss_cons (ps_set (i := 3) sc_law.nd rfl (.inl rfl) (pe_call G_option hr (by rfl) D_option.g D_option.F.kp D_option.b .nil pass0 (pa_cons (pv 2) pa_nil)))
      (pss_cons (ps_if (pt_not (pt_val (pe_callG G_righto hgd hr (by rfl) D_right.g D_right.F.kp D_right.b pass0 (pa_cons (pv 3) (pa_cons (pe_call G_twino hr (by rfl) D_twin.g D_twin.F.kp D_twin.b .nil pass0 (pa_cons (pv 2) (pa_cons (pv 3) (pa_cons (pe_call G_option hr (by rfl) D_option.g D_option.F.kp D_option.b .nil pass0 (pa_cons (pv 2) pa_nil)) pa_nil)))) pa_nil))))) (pss_one (ps_ret pe_bl)) pss_nil)
      (pss_cons (ps_set (i := 3) sc_law.nd rfl (.inl rfl) (pe_call G_place hr (by rfl) D_place.g D_place.F.kp D_place.b .nil pass0 (pa_cons (pv 2) pa_nil)))
      (pss_cons (ps_if (pt_not (pt_val (pe_callG G_rightp hgd hr (by rfl) D_right.g D_right.F.kp D_right.b pass0 (pa_cons (pv 3) (pa_cons (pe_call G_twinp hr (by rfl) D_twin.g D_twin.F.kp D_twin.b .nil pass0 (pa_cons (pv 2) (pa_cons (pv 3) (pa_cons (pe_call G_place hr (by rfl) D_place.g D_place.F.kp D_place.b .nil pass0 (pa_cons (pv 2) pa_nil)) pa_nil)))) pa_nil))))) (pss_one (ps_ret pe_bl)) pss_nil)
      (pss_one (ps_if (PW.pt (pw_or (pt_cmpR (r := rEqJ P w K mg base (k + 3)) (op_eqJ (hr.mono (by omega))) (pe_call G_made hr (by rfl) D_made.g D_made.F.kp D_made.b .nil pass0 (pa_cons (pv 3) pa_nil)) (pe_make MKo GIo (hr.mono (by omega)) (by rfl) gO b1o hv1o passF (pa_cons (pe_ix ix_list (pv 3) pe_int (fun _ _ => rfl)) pa_nil)) (nomark _)) (pw_or1 (pt_cmpR (r := rEqJ P w K mg base (k + 3)) (op_eqJ (hr.mono (by omega))) (pe_make MKo GIo (hr.mono (by omega)) (by rfl) gO b1o hv1o passF (pa_cons (pe_ix ix_list (pv 3) pe_int (fun _ _ => rfl)) pa_nil)) (pe_call G_made hr (by rfl) D_made.g D_made.F.kp D_made.b .nil pass0 (pa_cons (pv 3) pa_nil)) (nomark _))))) (pss_one (ps_ret pe_bl)) pss_nil))))))))
      (pss_one (ps_ret pe_bl))), ?_⟩
    refine ⟨.ref a, rfl, a, _, rfl, .inl hS, _, 30, rfl, 1, _, rfl, _, rfl, ?_, ?_, for_range (lo := 0) (n := _) (fun i σ H' => Same H H' ∧ ∃ x1 x2 x3, σ = [some (.ref a), x1, x2, x3])
      ⟨Same.refl _, none, none, none, rfl⟩ ?_ ?_⟩
    · split <;> split <;> omega
    · split <;> split <;> omega
    · rintro i σ H0 hi ⟨sm, x1, x2, x3, rfl⟩
      have hi63 : i < 63 := by
        revert hi
        split <;> split <;> intro hi <;> omega
      refine ⟨.ref a, rfl, .int (0 + (i : Int)), rfl, a, ns, _, rfl, sm.seq hS, by omega, by omega, fun H1 p s1 np p1 => ?_⟩
      -- an option
      refine ⟨.ref p, rfl, p, rfl, p1, fun H2 l us b2 p2 nl nlp el tu => ?_⟩
      refine ⟨.ref l, rfl, .ref p, rfl, .ref l, rfl, .ref p, rfl, p, rfl, p2, fun H3 m ws b3 p3 nm nmp em tw => ?_⟩
      refine ⟨p, l, m, us, ws, rfl, p3, b3 _ _ nlp el, nlp, tu, em, nmp, tw, fun H4 t vs b4 p4 nt ntp et tv => ?_⟩
      refine ⟨l, t, us, vs, rfl, b4 _ _ nlp (b3 _ _ nlp el), tu, et, tv, fun H5 s5 => ⟨_, rfl, ?_⟩⟩
      have p5 : Pot H5 p := by
        obtain ⟨i1, j1, e1, r1⟩ := p4
        exact ⟨i1, j1, s5 _ _ e1, r1⟩
      -- a place
      refine ⟨.ref p, rfl, p, rfl, p5, fun H6 l' us' b6 p6 nl' nlp' el' tu' => ?_⟩
      refine ⟨.ref l', rfl, .ref p, rfl, .ref l', rfl, .ref p, rfl, p, rfl, p6, fun H7 m' ws' b7 p7 nm' nmp' em' tw' => ?_⟩
      refine ⟨p, l', m', us', ws', rfl, p7, b7 _ _ nlp' el', nlp', tu', em', nmp', tw', fun H8 t' vs' b8' p8 nt' ntp' et' tv' => ?_⟩
      have el8 := b8' _ _ nlp' (b7 _ _ nlp' el')
      refine ⟨l', t', us', vs', rfl, el8, tu', et', tv', fun H9 s9 => ⟨_, rfl, ?_⟩⟩
      have el9 := s9 _ _ el8
      have tp : TV false us' := tu'
      obtain ⟨y0, r0, eu, ny0⟩ := tp.head
      have fy0 : Fl (.str y0) := tp.fl _ (by rw [eu]; exact List.mem_cons_self)
      have S9 : Same H0 H9 := fun b ob e => by
        have nb : b ≠ p := ne_of_none e np
        exact s9 _ _ (b8' _ _ nb (b7 _ _ nb (b6 _ _ nb (s5 _ _ (b4 _ _ nb (b3 _ _ nb (b2 _ _ nb (s1 _ _ e))))))))
      have dif : ∀ ws : List V, decide (some (true, ws) = some (false, us')) = false := fun ws => decide_eq_false (fun z => by cases z)
      refine ⟨.ref l', rfl, l', us', rfl, el9, tp, fun H10 x s10 nx tx => ?_⟩
      refine makeO1 (v := .str y0) (fun R h => ⟨.ref l', rfl, l', us', 0, .str y0, rfl, rfl, SqL.of (s10 _ _ el9), at0 eu, h⟩) ny0 fy0 (fun H11 z s11 nz tz => ⟨false, ?_, false, rfl, ?_⟩)
      · have tz' : IsT H11 (CK CO CP true) z (.str y0 :: dvO) := tz
        have := (two.ok (tx.same s11) (.ins tz')).1
        rwa [dif] at this
      have el11 := s11 _ _ (s10 _ _ el9)
      dsimp only
      rw [if_neg (by decide)]
      dsimp only [tTest, tOp]
      refine makeO1 (v := .str y0) (fun R h => ⟨.ref l', rfl, l', us', 0, .str y0, rfl, rfl, SqL.of el11, at0 eu, h⟩) ny0 fy0 (fun H12 z2 s12 nz2 tz2 => ?_)
      refine ⟨.ref l', rfl, l', us', rfl, s12 _ _ el11, tp, fun H13 x2 s13 nx2 tx2 => ⟨false, ?_, false, rfl, ?_⟩⟩
      · have tz' : IsT H13 (CK CO CP true) z2 (.str y0 :: dvO) := tz2.same s13
        have := (two.ok tx2 (.ins tz')).2
        rwa [dif] at this
      exact ⟨sm.trans ((((S9.trans s10).trans s11).trans s12).trans s13), _, _, _, rfl⟩
    · rintro σ H3 ⟨sm, x1, x2, x3, rfl⟩
      exact q _
end
end WB

set_option Elab.async false
set_option linter.all false
set_option maxRecDepth 100000
set_option maxHeartbeats 4000000
namespace WB
open PySem PySem.Spec PyProof.Rows L2 WG
open TL (tl)
theorem df_mk {K : PySem.W.Frag} {h : Heap} {mg : Str → Option Value} {x : Str} {st : Stmt} {ps : List Str} {f : Addr} {oc : Value} {od an : Option Addr} {osl : Array (Option Value)} {kV doc pm cdv ct : Value} (X : K.In h) (G : h.Ns mainGlobals mg)
    (a : PySem.W.nsIn K mainGlobals x = some (some (.ref f))) (l : K.lookup f = some ⟨oc, od, .func (PySem.W.fnOf x x (defArgs st) (defBody st) (defScope st) .none kV doc pm an cdv ct), osl⟩)
    (c : PySem.W.codeIn K cdv x = true) (k : PySem.W.keepIn K (.ref f) = true)
    (b : ∀ (kV doc pm : Value) (an : Option Addr) (cdv ct : Value) (us : List Value), us.length = ps.length → bindArgs (PySem.W.fnOf x x (defArgs st) (defBody st) (defScope st) .none kV doc pm an cdv ct) ⟨us, []⟩ = pure (ps.zip us)) :
    Df K mg x st ps f (PySem.W.fnOf x x (defArgs st) (defBody st) (defScope st) .none kV doc pm an cdv ct) := by
  have F := fun_mk (st := st) l c k
  exact ⟨F, F.binds b, PySem.W.mg_of X G a⟩
theorem kit_no {K : PySem.W.Frag} {t : Value} {b : Addr} (h1 : PySem.W.hasDictIn K b = true) (h2 : PySem.W.typeIn K (.ref b) = some (.type "type")) (h3 : PySem.W.subIn K t (.ref b) = some false) (h4 : PySem.W.subIn K (.ref b) (.ref b) = some true) : PySem.W.kitOne K t (.ref b) = some false := by
  obtain ⟨cd, hc, _⟩ := PySem.W.any_some h1
  unfold PySem.W.kitOne
  split
  · rename_i e
    rw [beq_iff_eq.mp e, h4] at h3
    cases h3
  · unfold PySem.W.kitCls
    dsimp only
    have e : ((PySem.W.clsIn K b).isSome && PySem.W.typeIn K (.ref b) == some (.type "type")) = true := by rw [hc, h2] <;> rfl
    rw [if_pos e]
    exact h3
theorem plain_all {Q : String → Prop} (h0 : Q "NoneType") (h1 : Q "bool") (h2 : Q "int") (h3 : Q "str") (h4 : Q "list") (h5 : Q "tuple") : ∀ T ∈ plainT, Q T := by
  intro T hT
  unfold plainT at hT
  simp only [List.mem_cons, List.not_mem_nil, or_false] at hT
  rcases hT with rfl | rfl | rfl | rfl | rfl | rfl
  · exact h0
  · exact h1
  · exact h2
  · exact h3
  · exact h4
  · exact h5
section
variable {K : PySem.W.Frag} {f : Addr} {fd : FuncData}
abbrev InitO (K : PySem.W.Frag) (f : Addr) (fd : FuncData) : Prop := FunD K "__init__" "Option.__init__" (defArgs st_init) (defBody st_init) (defScope st_init) dvO [] f fd
theorem initO_b9 (F : InitO K f fd) : Binds K fd optPs [] := by
  obtain ⟨ds, hv, b⟩ := F.binds1 (ps := optPs) 9 7 (by simp) rfl (fun T kV doc pm an cdv ct us its h1 h2 => match us, its, h1, h2 with | [_, _, _, _, _, _, _, _, _], [_, _, _, _, _, _, _], _, _ => ⟨_, rfl, rfl⟩)
  cases hv
  exact b
theorem initO_b1 (F : InitO K f fd) : ∃ ds, Vals dvO ds ∧ Binds K fd optPs ds :=
  F.binds1 (ps := optPs) 2 0 (by simp) rfl (fun T kV doc pm an cdv ct us its h1 h2 => match us, its, h1, h2 with | [_, _], [_, _, _, _, _, _, _], _, _ => ⟨_, rfl, rfl⟩)
abbrev InitP (K : PySem.W.Frag) (f : Addr) (fd : FuncData) : Prop := FunD K "__init__" "Place.__init__" (defArgs WP.st_init) (defBody WP.st_init) (defScope WP.st_init) dvP [] f fd
theorem initP_b6 (F : InitP K f fd) : Binds K fd plcPs [] := by
  obtain ⟨ds, hv, b⟩ := F.binds1 (ps := plcPs) 6 4 (by simp) rfl (fun T kV doc pm an cdv ct us its h1 h2 => match us, its, h1, h2 with | [_, _, _, _, _, _], [_, _, _, _], _, _ => ⟨_, rfl, rfl⟩)
  cases hv
  exact b
theorem initP_b1 (F : InitP K f fd) : ∃ ds, Vals dvP ds ∧ Binds K fd plcPs ds :=
  F.binds1 (ps := plcPs) 2 0 (by simp) rfl (fun T kV doc pm an cdv ct us its h1 h2 => match us, its, h1, h2 with | [_, _], [_, _, _, _], _, _ => ⟨_, rfl, rfl⟩)
end
theorem all_mk {l : PySem.W.OpenLaw} {w : World} {K : PySem.W.Frag} {h : Heap} {mg : Str → Option Value} {fa : Addr} (X : K.In h) (G : h.Ns mainGlobals mg) (hfa : mg "law" = some (.ref fa))
    {fWithin : Addr} {odWithin anWithin : Option Addr} {slWithin : Array (Option Value)} {ocWithin kVWithin dcWithin pmWithin cdWithin ctWithin : Value} {fIsName : Addr} {odIsName anIsName : Option Addr} {slIsName : Array (Option Value)} {ocIsName kVIsName dcIsName pmIsName cdIsName ctIsName : Value} {fIsAbout : Addr} {odIsAbout anIsAbout : Option Addr} {slIsAbout : Array (Option Value)} {ocIsAbout kVIsAbout dcIsAbout pmIsAbout cdIsAbout ctIsAbout : Value} {fIsAmong : Addr} {odIsAmong anIsAmong : Option Addr} {slIsAmong : Array (Option Value)} {ocIsAmong kVIsAmong dcIsAmong pmIsAmong cdIsAmong ctIsAmong : Value} {fIsDefault : Addr} {odIsDefault anIsDefault : Option Addr} {slIsDefault : Array (Option Value)} {ocIsDefault kVIsDefault dcIsDefault pmIsDefault cdIsDefault ctIsDefault : Value} {fIsShort : Addr} {odIsShort anIsShort : Option Addr} {slIsShort : Array (Option Value)} {ocIsShort kVIsShort dcIsShort pmIsShort cdIsShort ctIsShort : Value} {fIsTruth : Addr} {odIsTruth anIsTruth : Option Addr} {slIsTruth : Array (Option Value)} {ocIsTruth kVIsTruth dcIsTruth pmIsTruth cdIsTruth ctIsTruth : Value} {fComma : Addr} {odComma anComma : Option Addr} {slComma : Array (Option Value)} {ocComma kVComma dcComma pmComma cdComma ctComma : Value} {fCell : Addr} {odCell anCell : Option Addr} {slCell : Array (Option Value)} {ocCell kVCell dcCell pmCell cdCell ctCell : Value} {fPot : Addr} {odPot anPot : Option Addr} {slPot : Array (Option Value)} {ocPot kVPot dcPot pmPot cdPot ctPot : Value} {fTake : Addr} {odTake anTake : Option Addr} {slTake : Array (Option Value)} {ocTake kVTake dcTake pmTake cdTake ctTake : Value} {fName : Addr} {odName anName : Option Addr} {slName : Array (Option Value)} {ocName kVName dcName pmName cdName ctName : Value} {fSigns : Addr} {odSigns anSigns : Option Addr} {slSigns : Array (Option Value)} {ocSigns kVSigns dcSigns pmSigns cdSigns ctSigns : Value} {fAbout : Addr} {odAbout anAbout : Option Addr} {slAbout : Array (Option Value)} {ocAbout kVAbout dcAbout pmAbout cdAbout ctAbout : Value} {fText : Addr} {odText anText : Option Addr} {slText : Array (Option Value)} {ocText kVText dcText pmText cdText ctText : Value} {fOption : Addr} {odOption anOption : Option Addr} {slOption : Array (Option Value)} {ocOption kVOption dcOption pmOption cdOption ctOption : Value} {fPlace : Addr} {odPlace anPlace : Option Addr} {slPlace : Array (Option Value)} {ocPlace kVPlace dcPlace pmPlace cdPlace ctPlace : Value} {fFits : Addr} {odFits anFits : Option Addr} {slFits : Array (Option Value)} {ocFits kVFits dcFits pmFits cdFits ctFits : Value} {fTwin : Addr} {odTwin anTwin : Option Addr} {slTwin : Array (Option Value)} {ocTwin kVTwin dcTwin pmTwin cdTwin ctTwin : Value} {fMade : Addr} {odMade anMade : Option Addr} {slMade : Array (Option Value)} {ocMade kVMade dcMade pmMade cdMade ctMade : Value} {fShown : Addr} {odShown anShown : Option Addr} {slShown : Array (Option Value)} {ocShown kVShown dcShown pmShown cdShown ctShown : Value} {fRight : Addr} {odRight anRight : Option Addr} {slRight : Array (Option Value)} {ocRight kVRight dcRight pmRight cdRight ctRight : Value} {BE : Addr} {CNO : Addr} {nmO qO : Str} {NNO : Addr} {bsO : List Value} {snO : List Str} {subO : List Value} {abO : Bool} {colO : Option Bool} {ddO : Option Addr} {m0O m1O m2O m3O m5O : Option Value} {fEO : Addr} {odEO anEO : Option Addr} {slEO : Array (Option Value)} {ocEO kVEO dcEO pmEO cdEO ctEO : Value} {CO TO : Addr} {odTO : Option Addr} {ocTO : Value} {tO1 tO2 tO3 tO4 : Tok} {nTO : Nat} {slTO : Array (Option Value)} {fIO : Addr} {odIO anIO : Option Addr} {slIO : Array (Option Value)} {ocIO kVIO dcIO pmIO cdIO ctIO : Value} {fQO : Addr} {odQO anQO : Option Addr} {slQO : Array (Option Value)} {ocQO kVQO dcQO pmQO cdQO ctQO : Value} {fRO : Addr} {odRO anRO : Option Addr} {slRO : Array (Option Value)} {ocRO kVRO dcRO pmRO cdRO ctRO : Value} {CNP : Addr} {nmP qP : Str} {NNP : Addr} {bsP : List Value} {snP : List Str} {subP : List Value} {abP : Bool} {colP : Option Bool} {ddP : Option Addr} {m0P m1P m2P m3P m5P : Option Value} {fEP : Addr} {odEP anEP : Option Addr} {slEP : Array (Option Value)} {ocEP kVEP dcEP pmEP cdEP ctEP : Value} {CP TP : Addr} {odTP : Option Addr} {ocTP : Value} {tP1 tP2 tP3 : Tok} {nTP : Nat} {slTP : Array (Option Value)} {fIP : Addr} {odIP anIP : Option Addr} {slIP : Array (Option Value)} {ocIP kVIP dcIP pmIP cdIP ctIP : Value} {fQP : Addr} {odQP anQP : Option Addr} {slQP : Array (Option Value)} {ocQP kVQP dcQP pmQP cdQP ctQP : Value} {fRP : Addr} {odRP anRP : Option Addr} {slRP : Array (Option Value)} {ocRP kVRP dcRP pmRP cdRP ctRP : Value} {u1 u2 u3 u4 u5 : Tok} {aT aU aW aM : Addr} {odA odB odC odM : Option Addr} {s1 s2 s3 s4 s5 s6 s7 s8 s9 r1 r2 r3 r4 : Tok} {nA nB nC nM : Nat} {slA slB slC slM : Array (Option Value)} {fLaw : Addr} {odLaw anLaw : Option Addr} {slLaw : Array (Option Value)} {ocLaw kVLaw dcLaw pmLaw cdLaw ctLaw : Value}
    (aWithin : PySem.W.nsIn K mainGlobals "is_text_within" = some (some (.ref fWithin)))
    (lWithin : K.lookup fWithin = some ⟨ocWithin, odWithin, .func (PySem.W.fnOf "is_text_within" "is_text_within" (defArgs st_is_text_within) (defBody st_is_text_within) (defScope st_is_text_within) .none kVWithin dcWithin pmWithin anWithin cdWithin ctWithin), slWithin⟩)
    (cWithin : PySem.W.codeIn K cdWithin "is_text_within" = true)
    (kWithin : PySem.W.keepIn K (.ref fWithin) = true)
    (aIsName : PySem.W.nsIn K mainGlobals "is_name" = some (some (.ref fIsName)))
    (lIsName : K.lookup fIsName = some ⟨ocIsName, odIsName, .func (PySem.W.fnOf "is_name" "is_name" (defArgs st_is_name) (defBody st_is_name) (defScope st_is_name) .none kVIsName dcIsName pmIsName anIsName cdIsName ctIsName), slIsName⟩)
    (cIsName : PySem.W.codeIn K cdIsName "is_name" = true)
    (kIsName : PySem.W.keepIn K (.ref fIsName) = true)
    (aIsAbout : PySem.W.nsIn K mainGlobals "is_about" = some (some (.ref fIsAbout)))
    (lIsAbout : K.lookup fIsAbout = some ⟨ocIsAbout, odIsAbout, .func (PySem.W.fnOf "is_about" "is_about" (defArgs st_is_about) (defBody st_is_about) (defScope st_is_about) .none kVIsAbout dcIsAbout pmIsAbout anIsAbout cdIsAbout ctIsAbout), slIsAbout⟩)
    (cIsAbout : PySem.W.codeIn K cdIsAbout "is_about" = true)
    (kIsAbout : PySem.W.keepIn K (.ref fIsAbout) = true)
    (aIsAmong : PySem.W.nsIn K mainGlobals "is_among" = some (some (.ref fIsAmong)))
    (lIsAmong : K.lookup fIsAmong = some ⟨ocIsAmong, odIsAmong, .func (PySem.W.fnOf "is_among" "is_among" (defArgs st_is_among) (defBody st_is_among) (defScope st_is_among) .none kVIsAmong dcIsAmong pmIsAmong anIsAmong cdIsAmong ctIsAmong), slIsAmong⟩)
    (cIsAmong : PySem.W.codeIn K cdIsAmong "is_among" = true)
    (kIsAmong : PySem.W.keepIn K (.ref fIsAmong) = true)
    (aIsDefault : PySem.W.nsIn K mainGlobals "is_default" = some (some (.ref fIsDefault)))
    (lIsDefault : K.lookup fIsDefault = some ⟨ocIsDefault, odIsDefault, .func (PySem.W.fnOf "is_default" "is_default" (defArgs st_is_default) (defBody st_is_default) (defScope st_is_default) .none kVIsDefault dcIsDefault pmIsDefault anIsDefault cdIsDefault ctIsDefault), slIsDefault⟩)
    (cIsDefault : PySem.W.codeIn K cdIsDefault "is_default" = true)
    (kIsDefault : PySem.W.keepIn K (.ref fIsDefault) = true)
    (aIsShort : PySem.W.nsIn K mainGlobals "is_short_or_empty" = some (some (.ref fIsShort)))
    (lIsShort : K.lookup fIsShort = some ⟨ocIsShort, odIsShort, .func (PySem.W.fnOf "is_short_or_empty" "is_short_or_empty" (defArgs st_is_short_or_empty) (defBody st_is_short_or_empty) (defScope st_is_short_or_empty) .none kVIsShort dcIsShort pmIsShort anIsShort cdIsShort ctIsShort), slIsShort⟩)
    (cIsShort : PySem.W.codeIn K cdIsShort "is_short_or_empty" = true)
    (kIsShort : PySem.W.keepIn K (.ref fIsShort) = true)
    (aIsTruth : PySem.W.nsIn K mainGlobals "is_truth" = some (some (.ref fIsTruth)))
    (lIsTruth : K.lookup fIsTruth = some ⟨ocIsTruth, odIsTruth, .func (PySem.W.fnOf "is_truth" "is_truth" (defArgs st_is_truth) (defBody st_is_truth) (defScope st_is_truth) .none kVIsTruth dcIsTruth pmIsTruth anIsTruth cdIsTruth ctIsTruth), slIsTruth⟩)
    (cIsTruth : PySem.W.codeIn K cdIsTruth "is_truth" = true)
    (kIsTruth : PySem.W.keepIn K (.ref fIsTruth) = true)
    (aComma : PySem.W.nsIn K mainGlobals "comma_joined" = some (some (.ref fComma)))
    (lComma : K.lookup fComma = some ⟨ocComma, odComma, .func (PySem.W.fnOf "comma_joined" "comma_joined" (defArgs st_comma_joined) (defBody st_comma_joined) (defScope st_comma_joined) .none kVComma dcComma pmComma anComma cdComma ctComma), slComma⟩)
    (cComma : PySem.W.codeIn K cdComma "comma_joined" = true)
    (kComma : PySem.W.keepIn K (.ref fComma) = true)
    (aCell : PySem.W.nsIn K mainGlobals "_law_cell" = some (some (.ref fCell)))
    (lCell : K.lookup fCell = some ⟨ocCell, odCell, .func (PySem.W.fnOf "_law_cell" "_law_cell" (defArgs sCell) (defBody sCell) (defScope sCell) .none kVCell dcCell pmCell anCell cdCell ctCell), slCell⟩)
    (cCell : PySem.W.codeIn K cdCell "_law_cell" = true)
    (kCell : PySem.W.keepIn K (.ref fCell) = true)
    (aPot : PySem.W.nsIn K mainGlobals "_law_pot" = some (some (.ref fPot)))
    (lPot : K.lookup fPot = some ⟨ocPot, odPot, .func (PySem.W.fnOf "_law_pot" "_law_pot" (defArgs sPot) (defBody sPot) (defScope sPot) .none kVPot dcPot pmPot anPot cdPot ctPot), slPot⟩)
    (cPot : PySem.W.codeIn K cdPot "_law_pot" = true)
    (kPot : PySem.W.keepIn K (.ref fPot) = true)
    (aTake : PySem.W.nsIn K mainGlobals "_law_take" = some (some (.ref fTake)))
    (lTake : K.lookup fTake = some ⟨ocTake, odTake, .func (PySem.W.fnOf "_law_take" "_law_take" (defArgs sTake) (defBody sTake) (defScope sTake) .none kVTake dcTake pmTake anTake cdTake ctTake), slTake⟩)
    (cTake : PySem.W.codeIn K cdTake "_law_take" = true)
    (kTake : PySem.W.keepIn K (.ref fTake) = true)
    (aName : PySem.W.nsIn K mainGlobals "_law_name" = some (some (.ref fName)))
    (lName : K.lookup fName = some ⟨ocName, odName, .func (PySem.W.fnOf "_law_name" "_law_name" (defArgs sName) (defBody sName) (defScope sName) .none kVName dcName pmName anName cdName ctName), slName⟩)
    (cName : PySem.W.codeIn K cdName "_law_name" = true)
    (kName : PySem.W.keepIn K (.ref fName) = true)
    (aSigns : PySem.W.nsIn K mainGlobals "_law_signs" = some (some (.ref fSigns)))
    (lSigns : K.lookup fSigns = some ⟨ocSigns, odSigns, .func (PySem.W.fnOf "_law_signs" "_law_signs" (defArgs sSigns) (defBody sSigns) (defScope sSigns) .none kVSigns dcSigns pmSigns anSigns cdSigns ctSigns), slSigns⟩)
    (cSigns : PySem.W.codeIn K cdSigns "_law_signs" = true)
    (kSigns : PySem.W.keepIn K (.ref fSigns) = true)
    (aAbout : PySem.W.nsIn K mainGlobals "_law_about" = some (some (.ref fAbout)))
    (lAbout : K.lookup fAbout = some ⟨ocAbout, odAbout, .func (PySem.W.fnOf "_law_about" "_law_about" (defArgs sAbout) (defBody sAbout) (defScope sAbout) .none kVAbout dcAbout pmAbout anAbout cdAbout ctAbout), slAbout⟩)
    (cAbout : PySem.W.codeIn K cdAbout "_law_about" = true)
    (kAbout : PySem.W.keepIn K (.ref fAbout) = true)
    (aText : PySem.W.nsIn K mainGlobals "_law_text" = some (some (.ref fText)))
    (lText : K.lookup fText = some ⟨ocText, odText, .func (PySem.W.fnOf "_law_text" "_law_text" (defArgs sText) (defBody sText) (defScope sText) .none kVText dcText pmText anText cdText ctText), slText⟩)
    (cText : PySem.W.codeIn K cdText "_law_text" = true)
    (kText : PySem.W.keepIn K (.ref fText) = true)
    (aOption : PySem.W.nsIn K mainGlobals "_law_option" = some (some (.ref fOption)))
    (lOption : K.lookup fOption = some ⟨ocOption, odOption, .func (PySem.W.fnOf "_law_option" "_law_option" (defArgs st_option) (defBody st_option) (defScope st_option) .none kVOption dcOption pmOption anOption cdOption ctOption), slOption⟩)
    (cOption : PySem.W.codeIn K cdOption "_law_option" = true)
    (kOption : PySem.W.keepIn K (.ref fOption) = true)
    (aPlace : PySem.W.nsIn K mainGlobals "_law_place" = some (some (.ref fPlace)))
    (lPlace : K.lookup fPlace = some ⟨ocPlace, odPlace, .func (PySem.W.fnOf "_law_place" "_law_place" (defArgs st_place) (defBody st_place) (defScope st_place) .none kVPlace dcPlace pmPlace anPlace cdPlace ctPlace), slPlace⟩)
    (cPlace : PySem.W.codeIn K cdPlace "_law_place" = true)
    (kPlace : PySem.W.keepIn K (.ref fPlace) = true)
    (aFits : PySem.W.nsIn K mainGlobals "_law_fits" = some (some (.ref fFits)))
    (lFits : K.lookup fFits = some ⟨ocFits, odFits, .func (PySem.W.fnOf "_law_fits" "_law_fits" (defArgs st_fits) (defBody st_fits) (defScope st_fits) .none kVFits dcFits pmFits anFits cdFits ctFits), slFits⟩)
    (cFits : PySem.W.codeIn K cdFits "_law_fits" = true)
    (kFits : PySem.W.keepIn K (.ref fFits) = true)
    (aTwin : PySem.W.nsIn K mainGlobals "_law_twin" = some (some (.ref fTwin)))
    (lTwin : K.lookup fTwin = some ⟨ocTwin, odTwin, .func (PySem.W.fnOf "_law_twin" "_law_twin" (defArgs st_twin) (defBody st_twin) (defScope st_twin) .none kVTwin dcTwin pmTwin anTwin cdTwin ctTwin), slTwin⟩)
    (cTwin : PySem.W.codeIn K cdTwin "_law_twin" = true)
    (kTwin : PySem.W.keepIn K (.ref fTwin) = true)
    (aMade : PySem.W.nsIn K mainGlobals "_law_made" = some (some (.ref fMade)))
    (lMade : K.lookup fMade = some ⟨ocMade, odMade, .func (PySem.W.fnOf "_law_made" "_law_made" (defArgs st_made) (defBody st_made) (defScope st_made) .none kVMade dcMade pmMade anMade cdMade ctMade), slMade⟩)
    (cMade : PySem.W.codeIn K cdMade "_law_made" = true)
    (kMade : PySem.W.keepIn K (.ref fMade) = true)
    (aShown : PySem.W.nsIn K mainGlobals "_law_shown" = some (some (.ref fShown)))
    (lShown : K.lookup fShown = some ⟨ocShown, odShown, .func (PySem.W.fnOf "_law_shown" "_law_shown" (defArgs st_shown) (defBody st_shown) (defScope st_shown) .none kVShown dcShown pmShown anShown cdShown ctShown), slShown⟩)
    (cShown : PySem.W.codeIn K cdShown "_law_shown" = true)
    (kShown : PySem.W.keepIn K (.ref fShown) = true)
    (aRight : PySem.W.nsIn K mainGlobals "_law_right" = some (some (.ref fRight)))
    (lRight : K.lookup fRight = some ⟨ocRight, odRight, .func (PySem.W.fnOf "_law_right" "_law_right" (defArgs st_right) (defBody st_right) (defScope st_right) .none kVRight dcRight pmRight anRight cdRight ctRight), slRight⟩)
    (cRight : PySem.W.codeIn K cdRight "_law_right" = true)
    (kRight : PySem.W.keepIn K (.ref fRight) = true)
    (aB : PySem.W.nsIn K mainGlobals "BenchError" = some (some (.ref BE)))
    (spN : PySem.W.specialIn K (.builtin "object.__class__") "__get__" = some (some (.builtin "getset_descriptor.__get__")))
    (tkN : PySem.W.takesIn K (.builtin "object.__class__") = some true)
    (aNO : PySem.W.nsIn K mainGlobals "NoOption" = some (some (.ref CNO)))
    (xNO : K.lookup CNO = some (excClassObj nmO qO CNO NNO bsO [.ref BE, .type "ValueError", .type "Exception", .type "BaseException", .type "object"] true snO subO abO colO ddO m0O m1O m2O m3O m5O "ValueError.__new__"))
    (aEO : PySem.W.findIn K (.ref CNO) "__init__" = some (some (.ref fEO)))
    (lEO : K.lookup fEO = some ⟨ocEO, odEO, .func (PySem.W.fnOf "__init__" "NoOption.__init__" (defArgs st_err) (defBody st_err) (defScope st_err) .none kVEO dcEO pmEO anEO cdEO ctEO), slEO⟩)
    (cEO : PySem.W.codeIn K cdEO "NoOption.__init__" = true)
    (kEO : PySem.W.keepIn K (.ref fEO) = true)
    (tEO : PySem.W.typeIn K (.ref fEO) = some (.type "function"))
    (saNO : PySem.W.findIn K (.ref CNO) "__setattr__" = some (some (.builtin "object.__setattr__")))
    (nfNO : PySem.W.findIn K (.ref CNO) "field" = some none)
    (kNO : PySem.W.keepIn K (.ref CNO) = true)
    (eNO : PySem.W.subIn K (.ref CNO) (.type "BaseException") = some true)
    (tNO : PySem.W.typeIn K (.ref CNO) = some (.type "type"))
    (aCO : PySem.W.nsIn K mainGlobals "Option" = some (some (.ref CO)))
    (aIO : PySem.W.findIn K (.ref CO) "__init__" = some (some (.ref fIO)))
    (lIO : K.lookup fIO = some ⟨ocIO, odIO, .func (PySem.W.fnOf "__init__" "Option.__init__" (defArgs st_init) (defBody st_init) (defScope st_init) (.ref TO) kVIO dcIO pmIO anIO cdIO ctIO), slIO⟩)
    (cIO : PySem.W.codeIn K cdIO "Option.__init__" = true)
    (kIO : PySem.W.keepIn K (.ref fIO) = true)
    (iIO : PySem.W.isFn K (.ref fIO) = true)
    (lTO : K.lookup TO = some ⟨ocTO, odTO, .seq [.str (Str.ofString "") tO1, .str (Str.ofString "flag") tO2, .str (Str.ofString "word") tO3, .none, .bool false, .bool false, .str (Str.ofString "") tO4].toArray nTO, slTO⟩)
    (aQO : PySem.W.findIn K (.ref CO) "__eq__" = some (some (.ref fQO)))
    (lQO : K.lookup fQO = some ⟨ocQO, odQO, .func (PySem.W.fnOf "__eq__" "Option.__eq__" (defArgs st_Option_eq) (defBody st_Option_eq) (defScope st_Option_eq) .none kVQO dcQO pmQO anQO cdQO ctQO), slQO⟩)
    (cQO : PySem.W.codeIn K cdQO "Option.__eq__" = true)
    (kQO : PySem.W.keepIn K (.ref fQO) = true)
    (iQO : PySem.W.isFn K (.ref fQO) = true)
    (aRO : PySem.W.findIn K (.ref CO) "__repr__" = some (some (.ref fRO)))
    (lRO : K.lookup fRO = some ⟨ocRO, odRO, .func (PySem.W.fnOf "__repr__" "Option.__repr__" (defArgs st_Option_repr) (defBody st_Option_repr) (defScope st_Option_repr) .none kVRO dcRO pmRO anRO cdRO ctRO), slRO⟩)
    (cRO : PySem.W.codeIn K cdRO "Option.__repr__" = true)
    (kRO : PySem.W.keepIn K (.ref fRO) = true)
    (iRO : PySem.W.isFn K (.ref fRO) = true)
    (pgO : PySem.W.plainGet K CO Str.empty = true)
    (hdO : PySem.W.hasDictIn K CO = true)
    (poO : PySem.W.plainOver K CO = true)
    (saO : PySem.W.findIn K (.ref CO) "__setattr__" = some (some (.builtin "object.__setattr__")))
    (nhO : PySem.W.findIn K (.ref CO) "held" = some none)
    (mkO : PySem.W.makesIn K CO = true)
    (kCO : PySem.W.keepIn K (.ref CO) = true)
    (tyO : PySem.W.typeIn K (.ref CO) = some (.type "type"))
    (ssO : PySem.W.subIn K (.ref CO) (.ref CO) = some true)
    (neO : PySem.W.findIn K (.ref CO) "__ne__" = some (some (.builtin "object.__ne__")))
    (moO : PySem.W.mroIn K CO (.type "object") = some true)
    (caO : PySem.W.findIn K (.ref CO) "__class__" = some (some (.builtin "object.__class__")))
    (sbONoneType : PySem.W.subIn K (.ref CO) (.type "NoneType") = some false)
    (nrONoneType : PySem.W.subIn K (.type "NoneType") (.ref CO) = some false)
    (sbObool : PySem.W.subIn K (.ref CO) (.type "bool") = some false)
    (nrObool : PySem.W.subIn K (.type "bool") (.ref CO) = some false)
    (sbOint : PySem.W.subIn K (.ref CO) (.type "int") = some false)
    (nrOint : PySem.W.subIn K (.type "int") (.ref CO) = some false)
    (sbOstr : PySem.W.subIn K (.ref CO) (.type "str") = some false)
    (nrOstr : PySem.W.subIn K (.type "str") (.ref CO) = some false)
    (sbOlist : PySem.W.subIn K (.ref CO) (.type "list") = some false)
    (nrOlist : PySem.W.subIn K (.type "list") (.ref CO) = some false)
    (sbOtuple : PySem.W.subIn K (.ref CO) (.type "tuple") = some false)
    (nrOtuple : PySem.W.subIn K (.type "tuple") (.ref CO) = some false)
    (aNP : PySem.W.nsIn K mainGlobals "NoPlace" = some (some (.ref CNP)))
    (xNP : K.lookup CNP = some (excClassObj nmP qP CNP NNP bsP [.ref BE, .type "ValueError", .type "Exception", .type "BaseException", .type "object"] true snP subP abP colP ddP m0P m1P m2P m3P m5P "ValueError.__new__"))
    (aEP : PySem.W.findIn K (.ref CNP) "__init__" = some (some (.ref fEP)))
    (lEP : K.lookup fEP = some ⟨ocEP, odEP, .func (PySem.W.fnOf "__init__" "NoPlace.__init__" (defArgs WP.st_err) (defBody WP.st_err) (defScope WP.st_err) .none kVEP dcEP pmEP anEP cdEP ctEP), slEP⟩)
    (cEP : PySem.W.codeIn K cdEP "NoPlace.__init__" = true)
    (kEP : PySem.W.keepIn K (.ref fEP) = true)
    (tEP : PySem.W.typeIn K (.ref fEP) = some (.type "function"))
    (saNP : PySem.W.findIn K (.ref CNP) "__setattr__" = some (some (.builtin "object.__setattr__")))
    (nfNP : PySem.W.findIn K (.ref CNP) "field" = some none)
    (kNP : PySem.W.keepIn K (.ref CNP) = true)
    (eNP : PySem.W.subIn K (.ref CNP) (.type "BaseException") = some true)
    (tNP : PySem.W.typeIn K (.ref CNP) = some (.type "type"))
    (aCP : PySem.W.nsIn K mainGlobals "Place" = some (some (.ref CP)))
    (aIP : PySem.W.findIn K (.ref CP) "__init__" = some (some (.ref fIP)))
    (lIP : K.lookup fIP = some ⟨ocIP, odIP, .func (PySem.W.fnOf "__init__" "Place.__init__" (defArgs WP.st_init) (defBody WP.st_init) (defScope WP.st_init) (.ref TP) kVIP dcIP pmIP anIP cdIP ctIP), slIP⟩)
    (cIP : PySem.W.codeIn K cdIP "Place.__init__" = true)
    (kIP : PySem.W.keepIn K (.ref fIP) = true)
    (iIP : PySem.W.isFn K (.ref fIP) = true)
    (lTP : K.lookup TP = some ⟨ocTP, odTP, .seq [.str (Str.ofString "one") tP1, .str (Str.ofString "word") tP2, .none, .str (Str.ofString "") tP3].toArray nTP, slTP⟩)
    (aQP : PySem.W.findIn K (.ref CP) "__eq__" = some (some (.ref fQP)))
    (lQP : K.lookup fQP = some ⟨ocQP, odQP, .func (PySem.W.fnOf "__eq__" "Place.__eq__" (defArgs st_Place_eq) (defBody st_Place_eq) (defScope st_Place_eq) .none kVQP dcQP pmQP anQP cdQP ctQP), slQP⟩)
    (cQP : PySem.W.codeIn K cdQP "Place.__eq__" = true)
    (kQP : PySem.W.keepIn K (.ref fQP) = true)
    (iQP : PySem.W.isFn K (.ref fQP) = true)
    (aRP : PySem.W.findIn K (.ref CP) "__repr__" = some (some (.ref fRP)))
    (lRP : K.lookup fRP = some ⟨ocRP, odRP, .func (PySem.W.fnOf "__repr__" "Place.__repr__" (defArgs st_Place_repr) (defBody st_Place_repr) (defScope st_Place_repr) .none kVRP dcRP pmRP anRP cdRP ctRP), slRP⟩)
    (cRP : PySem.W.codeIn K cdRP "Place.__repr__" = true)
    (kRP : PySem.W.keepIn K (.ref fRP) = true)
    (iRP : PySem.W.isFn K (.ref fRP) = true)
    (pgP : PySem.W.plainGet K CP Str.empty = true)
    (hdP : PySem.W.hasDictIn K CP = true)
    (poP : PySem.W.plainOver K CP = true)
    (saP : PySem.W.findIn K (.ref CP) "__setattr__" = some (some (.builtin "object.__setattr__")))
    (nhP : PySem.W.findIn K (.ref CP) "held" = some none)
    (mkP : PySem.W.makesIn K CP = true)
    (kCP : PySem.W.keepIn K (.ref CP) = true)
    (tyP : PySem.W.typeIn K (.ref CP) = some (.type "type"))
    (ssP : PySem.W.subIn K (.ref CP) (.ref CP) = some true)
    (neP : PySem.W.findIn K (.ref CP) "__ne__" = some (some (.builtin "object.__ne__")))
    (moP : PySem.W.mroIn K CP (.type "object") = some true)
    (caP : PySem.W.findIn K (.ref CP) "__class__" = some (some (.builtin "object.__class__")))
    (sbPNoneType : PySem.W.subIn K (.ref CP) (.type "NoneType") = some false)
    (nrPNoneType : PySem.W.subIn K (.type "NoneType") (.ref CP) = some false)
    (sbPbool : PySem.W.subIn K (.ref CP) (.type "bool") = some false)
    (nrPbool : PySem.W.subIn K (.type "bool") (.ref CP) = some false)
    (sbPint : PySem.W.subIn K (.ref CP) (.type "int") = some false)
    (nrPint : PySem.W.subIn K (.type "int") (.ref CP) = some false)
    (sbPstr : PySem.W.subIn K (.ref CP) (.type "str") = some false)
    (nrPstr : PySem.W.subIn K (.type "str") (.ref CP) = some false)
    (sbPlist : PySem.W.subIn K (.ref CP) (.type "list") = some false)
    (nrPlist : PySem.W.subIn K (.type "list") (.ref CP) = some false)
    (sbPtuple : PySem.W.subIn K (.ref CP) (.type "tuple") = some false)
    (nrPtuple : PySem.W.subIn K (.type "tuple") (.ref CP) = some false)
    (sOP : PySem.W.subIn K (.ref CO) (.ref CP) = some false)
    (sPO : PySem.W.subIn K (.ref CP) (.ref CO) = some false)
    (v1 : PySem.W.nsIn K mainGlobals "MOST_NAME_SIGNS" = some (some (.int 10 u1)))
    (v2 : PySem.W.nsIn K mainGlobals "NAME_SIGNS" = some (some (.str nameSet u2)))
    (v3 : PySem.W.nsIn K mainGlobals "MOST_ABOUT_SIGNS" = some (some (.int 200 u3)))
    (v4 : PySem.W.nsIn K mainGlobals "MOST_DEFAULT_SIGNS" = some (some (.int 60 u4)))
    (v5 : PySem.W.nsIn K mainGlobals "LETTERS" = some (some (.str letters u5)))
    (v6 : PySem.W.nsIn K mainGlobals "TAKES" = some (some (.ref aT)))
    (v7 : PySem.W.nsIn K mainGlobals "UNVALUED" = some (some (.ref aU)))
    (v8 : PySem.W.nsIn K mainGlobals "WITH_DEFAULT" = some (some (.ref aW)))
    (v9 : PySem.W.nsIn K mainGlobals "MANIES" = some (some (.ref aM)))
    (l6 : K.lookup aT = some ⟨.type "tuple", odA, .seq [.str (Str.ofString "flag") s1, .str (Str.ofString "count") s2, .str (Str.ofString "one") s3, .str (Str.ofString "last") s4, .str (Str.ofString "each") s5].toArray nA, slA⟩)
    (l7 : K.lookup aU = some ⟨.type "tuple", odB, .seq [.str (Str.ofString "flag") s6, .str (Str.ofString "count") s7].toArray nB, slB⟩)
    (l8 : K.lookup aW = some ⟨.type "tuple", odC, .seq [.str (Str.ofString "one") s8, .str (Str.ofString "last") s9].toArray nC, slC⟩)
    (l9 : K.lookup aM = some ⟨.type "tuple", odM, .seq [.str (Str.ofString "one") r1, .str (Str.ofString "maybe") r2, .str (Str.ofString "some") r3, .str (Str.ofString "any") r4].toArray nM, slM⟩)
    (z_len : PySem.W.nsIn K mainGlobals "len" = some none)
    (z_max : PySem.W.nsIn K mainGlobals "max" = some none)
    (z_min : PySem.W.nsIn K mainGlobals "min" = some none)
    (z_abs : PySem.W.nsIn K mainGlobals "abs" = some none)
    (z_range : PySem.W.nsIn K mainGlobals "range" = some none)
    (z_list : PySem.W.nsIn K mainGlobals "list" = some none)
    (z_int : PySem.W.nsIn K mainGlobals "int" = some none)
    (z_repr : PySem.W.nsIn K mainGlobals "repr" = some none)
    (z_str : PySem.W.nsIn K mainGlobals "str" = some none)
    (z_isinstance : PySem.W.nsIn K mainGlobals "isinstance" = some none)
    (z_all : PySem.W.nsIn K mainGlobals "all" = some none)
    (z_bool : PySem.W.nsIn K mainGlobals "bool" = some none)
    (z_tuple : PySem.W.nsIn K mainGlobals "tuple" = some none)
    (aLaw : PySem.W.nsIn K mainGlobals "law" = some (some (.ref fLaw)))
    (lLaw : K.lookup fLaw = some ⟨ocLaw, odLaw, .func (PySem.W.fnOf "law" "law" (defArgs st_law) (defBody st_law) (defScope st_law) .none kVLaw dcLaw pmLaw anLaw cdLaw ctLaw), slLaw⟩)
    (cLaw : PySem.W.codeIn K cdLaw "law" = true)
    (kLaw : PySem.W.keepIn K (.ref fLaw) = true) :
    ∃ fd : FuncData, (∀ (s : Shared) (v : Value), BindsTo s fd ⟨[v], []⟩ [("_law_script", v)]) ∧ ∀ base : Heap, K.In base → base.Ns mainGlobals mg → GOk l.prog w K mg base CX0 7 fa fd ["_law_script"] (spLaw K) := by
  have e := hfa.symm.trans (PySem.W.mg_of X G aLaw)
  cases e
  have g0 : ∀ {x : Str}, PySem.W.nsIn K mainGlobals x = some none → mg x = none := fun {x} z => PySem.W.mg_none_of X G z
  have DWithin := df_mk (st := st_is_text_within) (ps := ["value", "most"]) X G aWithin lWithin cWithin kWithin fun _ _ _ _ _ _ us hl => match us, hl with | [_, _], _ => rfl
  have DIsName := df_mk (st := st_is_name) (ps := ["value"]) X G aIsName lIsName cIsName kIsName fun _ _ _ _ _ _ us hl => match us, hl with | [_], _ => rfl
  have DIsAbout := df_mk (st := st_is_about) (ps := ["value"]) X G aIsAbout lIsAbout cIsAbout kIsAbout fun _ _ _ _ _ _ us hl => match us, hl with | [_], _ => rfl
  have DIsAmong := df_mk (st := st_is_among) (ps := ["value", "texts"]) X G aIsAmong lIsAmong cIsAmong kIsAmong fun _ _ _ _ _ _ us hl => match us, hl with | [_, _], _ => rfl
  have DIsDefault := df_mk (st := st_is_default) (ps := ["value", "allowed"]) X G aIsDefault lIsDefault cIsDefault kIsDefault fun _ _ _ _ _ _ us hl => match us, hl with | [_, _], _ => rfl
  have DIsShort := df_mk (st := st_is_short_or_empty) (ps := ["value"]) X G aIsShort lIsShort cIsShort kIsShort fun _ _ _ _ _ _ us hl => match us, hl with | [_], _ => rfl
  have DIsTruth := df_mk (st := st_is_truth) (ps := ["value", "allowed"]) X G aIsTruth lIsTruth cIsTruth kIsTruth fun _ _ _ _ _ _ us hl => match us, hl with | [_, _], _ => rfl
  have DComma := df_mk (st := st_comma_joined) (ps := ["values"]) X G aComma lComma cComma kComma fun _ _ _ _ _ _ us hl => match us, hl with | [_], _ => rfl
  have DCell := df_mk (st := sCell) (ps := ["_law_script", "_law_k"]) X G aCell lCell cCell kCell fun _ _ _ _ _ _ us hl => match us, hl with | [_, _], _ => rfl
  have DPot := df_mk (st := sPot) (ps := ["_law_script", "_law_k"]) X G aPot lPot cPot kPot fun _ _ _ _ _ _ us hl => match us, hl with | [_, _], _ => rfl
  have DTake := df_mk (st := sTake) (ps := ["_law_pot_here", "_law_room"]) X G aTake lTake cTake kTake fun _ _ _ _ _ _ us hl => match us, hl with | [_, _], _ => rfl
  have DName := df_mk (st := sName) (ps := ["_law_pot_here"]) X G aName lName cName kName fun _ _ _ _ _ _ us hl => match us, hl with | [_], _ => rfl
  have DSigns := df_mk (st := sSigns) (ps := ["_law_pot_here", "_law_most"]) X G aSigns lSigns cSigns kSigns fun _ _ _ _ _ _ us hl => match us, hl with | [_, _], _ => rfl
  have DAbout := df_mk (st := sAbout) (ps := ["_law_pot_here"]) X G aAbout lAbout cAbout kAbout fun _ _ _ _ _ _ us hl => match us, hl with | [_], _ => rfl
  have DText := df_mk (st := sText) (ps := ["_law_pot_here"]) X G aText lText cText kText fun _ _ _ _ _ _ us hl => match us, hl with | [_], _ => rfl
  have DOption := df_mk (st := st_option) (ps := ["_law_pot_here"]) X G aOption lOption cOption kOption fun _ _ _ _ _ _ us hl => match us, hl with | [_], _ => rfl
  have DPlace := df_mk (st := st_place) (ps := ["_law_pot_here"]) X G aPlace lPlace cPlace kPlace fun _ _ _ _ _ _ us hl => match us, hl with | [_], _ => rfl
  have DFits := df_mk (st := st_fits) (ps := ["_law_told"]) X G aFits lFits cFits kFits fun _ _ _ _ _ _ us hl => match us, hl with | [_], _ => rfl
  have DTwin := df_mk (st := st_twin) (ps := ["_law_pot_here", "_law_told", "_law_anew"]) X G aTwin lTwin cTwin kTwin fun _ _ _ _ _ _ us hl => match us, hl with | [_, _, _], _ => rfl
  have DMade := df_mk (st := st_made) (ps := ["_law_told"]) X G aMade lMade cMade kMade fun _ _ _ _ _ _ us hl => match us, hl with | [_], _ => rfl
  have DShown := df_mk (st := st_shown) (ps := ["_law_told"]) X G aShown lShown cShown kShown fun _ _ _ _ _ _ us hl => match us, hl with | [_], _ => rfl
  have DRight := df_mk (st := st_right) (ps := ["_law_told", "_law_twin_here"]) X G aRight lRight cRight kRight fun _ _ _ _ _ _ us hl => match us, hl with | [_, _], _ => rfl
  have FLaw := fun_mk (st := st_law) lLaw cLaw kLaw
  have FEO := fun_mk (st := st_err) lEO cEO kEO
  have bEO := FEO.binds (ps := ["self", "field"]) fun _ _ _ _ _ _ us hl => match us, hl with | [_, _], _ => rfl
  have TEO : ErrT K mg "NoOption" CNO fEO _ := ⟨⟨⟨nmO, qO, NNO, bsO, _, snO, subO, abO, colO, ddO, m0O, m1O, m2O, m3O, m5O, xNO, rfl⟩, saNO, eNO, tNO, kNO⟩, aEO, tEO, nfNO, PySem.W.mg_of X G aNO, bEO⟩
  have FIO : InitO K fIO _ := ⟨⟨_, _, _, _, _, _, _, _, _, _, rfl, lIO, cIO, .inr ⟨by simp, TO, _, _, _, rfl, lTO, rfl, .cons ⟨_, rfl⟩ (.cons ⟨_, rfl⟩ (.cons ⟨_, rfl⟩ (.cons rfl (.cons rfl (.cons rfl (.cons ⟨_, rfl⟩ .nil))))))⟩, .inl rfl⟩, kIO⟩
  have TTO : ClsT K CO := ⟨⟨pgO, hdO, poO, saO⟩, nhO⟩
  have ICO : IsiC K CO := ⟨caO, spN, tkN, moO⟩
  have FQO := fun_mk (st := st_Option_eq) lQO cQO kQO
  have bQO := FQO.binds (ps := ["self", "other"]) fun _ _ _ _ _ _ us hl => match us, hl with | [_, _], _ => rfl
  have FRO := fun_mk (st := st_Option_repr) lRO cRO kRO
  have bRO := FRO.binds (ps := ["self"]) fun _ _ _ _ _ _ us hl => match us, hl with | [_], _ => rfl
  obtain ⟨d1O, hv1O, b1O⟩ := initO_b1 FIO
  have sbO : ∀ T ∈ plainT, PySem.W.subIn K (.ref CO) (.type T) = some false := plain_all sbONoneType sbObool sbOint sbOstr sbOlist sbOtuple
  have nrO : ∀ T ∈ plainT, PySem.W.subIn K (.type T) (.ref CO) = some false := plain_all nrONoneType nrObool nrOint nrOstr nrOlist nrOtuple
  have FEP := fun_mk (st := WP.st_err) lEP cEP kEP
  have bEP := FEP.binds (ps := ["self", "field"]) fun _ _ _ _ _ _ us hl => match us, hl with | [_, _], _ => rfl
  have TEP : WP.ErrT K mg "NoPlace" CNP fEP _ := ⟨⟨⟨nmP, qP, NNP, bsP, _, snP, subP, abP, colP, ddP, m0P, m1P, m2P, m3P, m5P, xNP, rfl⟩, saNP, eNP, tNP, kNP⟩, aEP, tEP, nfNP, PySem.W.mg_of X G aNP, bEP⟩
  have FIP : InitP K fIP _ := ⟨⟨_, _, _, _, _, _, _, _, _, _, rfl, lIP, cIP, .inr ⟨by simp, TP, _, _, _, rfl, lTP, rfl, .cons ⟨_, rfl⟩ (.cons ⟨_, rfl⟩ (.cons rfl (.cons ⟨_, rfl⟩ .nil)))⟩, .inl rfl⟩, kIP⟩
  have TTP : ClsT K CP := ⟨⟨pgP, hdP, poP, saP⟩, nhP⟩
  have ICP : IsiC K CP := ⟨caP, spN, tkN, moP⟩
  have FQP := fun_mk (st := st_Place_eq) lQP cQP kQP
  have bQP := FQP.binds (ps := ["self", "other"]) fun _ _ _ _ _ _ us hl => match us, hl with | [_, _], _ => rfl
  have FRP := fun_mk (st := st_Place_repr) lRP cRP kRP
  have bRP := FRP.binds (ps := ["self"]) fun _ _ _ _ _ _ us hl => match us, hl with | [_], _ => rfl
  obtain ⟨d1P, hv1P, b1P⟩ := initP_b1 FIP
  have sbP : ∀ T ∈ plainT, PySem.W.subIn K (.ref CP) (.type T) = some false := plain_all sbPNoneType sbPbool sbPint sbPstr sbPlist sbPtuple
  have nrP : ∀ T ∈ plainT, PySem.W.subIn K (.type T) (.ref CP) = some false := plain_all nrPNoneType nrPbool nrPint nrPstr nrPlist nrPtuple
  have hT : ∀ H : Hp, SqT K H aT (takesL.map V.str) := fun H => .inr ⟨_, _, _, l6, rfl, rfl, by simp [sizeLine_eq], .cons ⟨_, rfl⟩ (.cons ⟨_, rfl⟩ (.cons ⟨_, rfl⟩ (.cons ⟨_, rfl⟩ (.cons ⟨_, rfl⟩ .nil))))⟩
  have hU : ∀ H : Hp, SqT K H aU (plainL.map V.str) := fun H => .inr ⟨_, _, _, l7, rfl, rfl, by simp [sizeLine_eq], .cons ⟨_, rfl⟩ (.cons ⟨_, rfl⟩ .nil)⟩
  have hW : ∀ H : Hp, SqT K H aW (singleL.map V.str) := fun H => .inr ⟨_, _, _, l8, rfl, rfl, by simp [sizeLine_eq], .cons ⟨_, rfl⟩ (.cons ⟨_, rfl⟩ .nil)⟩
  have hM : ∀ H : Hp, SqT K H aM (WP.manies.map V.str) := fun H => .inr ⟨_, _, _, l9, rfl, rfl, by simp [sizeLine_eq], .cons ⟨_, rfl⟩ (.cons ⟨_, rfl⟩ (.cons ⟨_, rfl⟩ (.cons ⟨_, rfl⟩ .nil)))⟩
  have gO := PySem.W.mg_of X G aCO
  have gP := PySem.W.mg_of X G aCP
  refine ⟨PySem.W.fnOf "law" "law" (defArgs st_law) (defBody st_law) (defScope st_law) .none kVLaw dcLaw pmLaw anLaw cdLaw ctLaw, fun s v => ?_, fun base _ _ => ?_⟩
  · exact .of_eq rfl
  · have GIO : FnOk l.prog w K mg base (L2.CX l.prog w) 3 fIO _ optPs (spInit CO CNO) := ok_init (k := 0) FIO FEO TEO TTO DWithin DIsName DIsAbout DIsAmong DIsDefault DIsShort DIsTruth (g0 z_len) (g0 z_str) (g0 z_bool) (g0 z_isinstance) (g0 z_all) (PySem.W.mg_of X G v1) (PySem.W.mg_of X G v2) (PySem.W.mg_of X G v3) (PySem.W.mg_of X G v4) (PySem.W.mg_of X G v5) (PySem.W.mg_of X G v6) hT (PySem.W.mg_of X G v7) hU (PySem.W.mg_of X G v8) hW
    have GIP : FnOk l.prog w K mg base (L2.CX l.prog w) 3 fIP _ plcPs (WP.spInit CP CNP) := WP.ok_init (k := 0) FIP FEP TEP ⟨TTP.cl, TTP.nh⟩ DWithin DIsName DIsAbout DIsAmong DIsDefault (g0 z_len) (g0 z_str) (g0 z_isinstance) (g0 z_all) (PySem.W.mg_of X G v1) (PySem.W.mg_of X G v2) (PySem.W.mg_of X G v3) (PySem.W.mg_of X G v4) (PySem.W.mg_of X G v9) hM
    have two : Two l.prog w K mg base (0 + 3) CO CP := by
      refine ⟨fun o => ?_, fun o => ?_, fun o => ?_, fun o => ?_, fun o => ?_, fun o => ?_, fun o => ?_⟩
      · cases o with
        | true => exact ⟨⟨fQO, _, ok_eqO (k := 2) FQO TTO ICO gO (g0 z_isinstance), bQO, aQO, iQO⟩, sbO, nrO, neO, moO⟩
        | false => exact ⟨⟨fQP, _, ok_eqP (k := 2) FQP TTP ICP gP (g0 z_isinstance), bQP, aQP, iQP⟩, sbP, nrP, neP, moP⟩
      · cases o with
        | true => exact TTO
        | false => exact TTP
      · cases o with
        | true => exact ICO
        | false => exact ICP
      · cases o with
        | true => exact fun T hT => kit_no hdO tyO (nrO T hT) ssO
        | false => exact fun T hT => kit_no hdP tyP (nrP T hT) ssP
      · cases o with
        | true => exact kit_no hdO tyO sPO ssO
        | false => exact kit_no hdP tyP sOP ssP
      · cases o with
        | true => exact sPO
        | false => exact sOP
      · cases o with
        | true => exact ⟨fRO, _, ok_reprO (k := 1) FRO TTO DComma (g0 z_repr), bRO, aRO, iRO⟩
        | false => exact ⟨fRP, _, ok_reprP (k := 1) FRP TTP DComma (g0 z_repr), bRP, aRP, iRP⟩
    exact ok_law (k := 0) FLaw DCell DPot DTake DName DAbout DText DSigns DOption DPlace DFits DTwin DRight DMade DShown two ⟨mkO, aIO, iIO, kCO⟩ GIO gO (initO_b9 FIO) b1O hv1O ⟨mkP, aIP, iIP, kCP⟩ GIP gP (initP_b6 FIP) b1P hv1P (g0 z_len) (g0 z_max) (g0 z_min) (g0 z_abs) (g0 z_range) (g0 z_list) (g0 z_int) (g0 z_repr) (g0 z_isinstance) (g0 z_bool) (g0 z_tuple)
end WB

open PySem PySem.W PyProof.Rows
set_option maxRecDepth 100000
set_option Elab.async false
set_option maxHeartbeats 0 in
theorem PySem.Challenge.cw_wordbench_k16_alike_and_shown_holds : PySem.Challenge.rw_wordbench_k16_alike_and_shown.Holds := by
  w_on; o_law; k_head; (case hw => w_witness2)
  k_fill
  refine WG.gwalk_of (l := PySem.Challenge.rw_wordbench_k16_alike_and_shown) (n := 63) (k := 7) (x := "_law_script") (CX := fun _ => L2.CX0) (sp := fun w => WB.spLaw _) rfl (by decide) rfl ⟨rfl, by decide, by decide⟩ (fun w h Y => PySem.W.kIn_of Y) ?F (fun _ _ a ns hl _ hS => ⟨a, ns, rfl, hS, hl, fun _ => rfl⟩) (fun _ _ _ _ _ h => h)
  case F =>
    intro w mg fa h KX G hmg
    refine' WB.all_mk KX G hmg ?aWithin ?lWithin ?cWithin ?kWithin ?aIsName ?lIsName ?cIsName ?kIsName ?aIsAbout ?lIsAbout ?cIsAbout ?kIsAbout ?aIsAmong ?lIsAmong ?cIsAmong ?kIsAmong ?aIsDefault ?lIsDefault ?cIsDefault ?kIsDefault ?aIsShort ?lIsShort ?cIsShort ?kIsShort ?aIsTruth ?lIsTruth ?cIsTruth ?kIsTruth ?aComma ?lComma ?cComma ?kComma ?aCell ?lCell ?cCell ?kCell ?aPot ?lPot ?cPot ?kPot ?aTake ?lTake ?cTake ?kTake ?aName ?lName ?cName ?kName ?aSigns ?lSigns ?cSigns ?kSigns ?aAbout ?lAbout ?cAbout ?kAbout ?aText ?lText ?cText ?kText ?aOption ?lOption ?cOption ?kOption ?aPlace ?lPlace ?cPlace ?kPlace ?aFits ?lFits ?cFits ?kFits ?aTwin ?lTwin ?cTwin ?kTwin ?aMade ?lMade ?cMade ?kMade ?aShown ?lShown ?cShown ?kShown ?aRight ?lRight ?cRight ?kRight ?aB ?spN ?tkN ?aNO ?xNO ?aEO ?lEO ?cEO ?kEO ?tEO ?saNO ?nfNO ?kNO ?eNO ?tNO ?aCO ?aIO ?lIO ?cIO ?kIO ?iIO ?lTO ?aQO ?lQO ?cQO ?kQO ?iQO ?aRO ?lRO ?cRO ?kRO ?iRO ?pgO ?hdO ?poO ?saO ?nhO ?mkO ?kCO ?tyO ?ssO ?neO ?moO ?caO ?sbONoneType ?nrONoneType ?sbObool ?nrObool ?sbOint ?nrOint ?sbOstr ?nrOstr ?sbOlist ?nrOlist ?sbOtuple ?nrOtuple ?aNP ?xNP ?aEP ?lEP ?cEP ?kEP ?tEP ?saNP ?nfNP ?kNP ?eNP ?tNP ?aCP ?aIP ?lIP ?cIP ?kIP ?iIP ?lTP ?aQP ?lQP ?cQP ?kQP ?iQP ?aRP ?lRP ?cRP ?kRP ?iRP ?pgP ?hdP ?poP ?saP ?nhP ?mkP ?kCP ?tyP ?ssP ?neP ?moP ?caP ?sbPNoneType ?nrPNoneType ?sbPbool ?nrPbool ?sbPint ?nrPint ?sbPstr ?nrPstr ?sbPlist ?nrPlist ?sbPtuple ?nrPtuple ?sOP ?sPO ?v1 ?v2 ?v3 ?v4 ?v5 ?v6 ?v7 ?v8 ?v9 ?l6 ?l7 ?l8 ?l9 ?z_len ?z_max ?z_min ?z_abs ?z_range ?z_list ?z_int ?z_repr ?z_str ?z_isinstance ?z_all ?z_bool ?z_tuple ?aLaw ?lLaw ?cLaw ?kLaw
    (case aWithin => k_is)
    (case lWithin => k_is)
    (case cWithin => k_is)
    (case kWithin => k_is)
    (case aIsName => k_is)
    (case lIsName => k_is)
    (case cIsName => k_is)
    (case kIsName => k_is)
    (case aIsAbout => k_is)
    (case lIsAbout => k_is)
    (case cIsAbout => k_is)
    (case kIsAbout => k_is)
    (case aIsAmong => k_is)
    (case lIsAmong => k_is)
    (case cIsAmong => k_is)
    (case kIsAmong => k_is)
    (case aIsDefault => k_is)
    (case lIsDefault => k_is)
    (case cIsDefault => k_is)
    (case kIsDefault => k_is)
    (case aIsShort => k_is)
    (case lIsShort => k_is)
    (case cIsShort => k_is)
    (case kIsShort => k_is)
    (case aIsTruth => k_is)
    (case lIsTruth => k_is)
    (case cIsTruth => k_is)
    (case kIsTruth => k_is)
    (case aComma => k_is)
    (case lComma => k_is)
    (case cComma => k_is)
    (case kComma => k_is)
    (case aCell => k_is)
    (case lCell => k_is)
    (case cCell => k_is)
    (case kCell => k_is)
    (case aPot => k_is)
    (case lPot => k_is)
    (case cPot => k_is)
    (case kPot => k_is)
    (case aTake => k_is)
    (case lTake => k_is)
    (case cTake => k_is)
    (case kTake => k_is)
    (case aName => k_is)
    (case lName => k_is)
    (case cName => k_is)
    (case kName => k_is)
    (case aSigns => k_is)
    (case lSigns => k_is)
    (case cSigns => k_is)
    (case kSigns => k_is)
    (case aAbout => k_is)
    (case lAbout => k_is)
    (case cAbout => k_is)
    (case kAbout => k_is)
    (case aText => k_is)
    (case lText => k_is)
    (case cText => k_is)
    (case kText => k_is)
    (case aOption => k_is)
    (case lOption => k_is)
    (case cOption => k_is)
    (case kOption => k_is)
    (case aPlace => k_is)
    (case lPlace => k_is)
    (case cPlace => k_is)
    (case kPlace => k_is)
    (case aFits => k_is)
    (case lFits => k_is)
    (case cFits => k_is)
    (case kFits => k_is)
    (case aTwin => k_is)
    (case lTwin => k_is)
    (case cTwin => k_is)
    (case kTwin => k_is)
    (case aMade => k_is)
    (case lMade => k_is)
    (case cMade => k_is)
    (case kMade => k_is)
    (case aShown => k_is)
    (case lShown => k_is)
    (case cShown => k_is)
    (case kShown => k_is)
    (case aRight => k_is)
    (case lRight => k_is)
    (case cRight => k_is)
    (case kRight => k_is)
    (case aB => k_is)
    (case spN => k_is)
    (case tkN => k_is)
    (case aNO => k_is)
    (case xNO => k_is)
    (case aEO => k_is)
    (case lEO => k_is)
    (case cEO => k_is)
    (case kEO => k_is)
    (case tEO => k_is)
    (case saNO => k_is)
    (case nfNO => k_is)
    (case kNO => k_is)
    (case eNO => k_is)
    (case tNO => k_is)
    (case aCO => k_is)
    (case aIO => k_is)
    (case lIO => k_is)
    (case cIO => k_is)
    (case kIO => k_is)
    (case iIO => k_is)
    (case lTO => k_is)
    (case aQO => k_is)
    (case lQO => k_is)
    (case cQO => k_is)
    (case kQO => k_is)
    (case iQO => k_is)
    (case aRO => k_is)
    (case lRO => k_is)
    (case cRO => k_is)
    (case kRO => k_is)
    (case iRO => k_is)
    (case pgO => k_is)
    (case hdO => k_is)
    (case poO => k_is)
    (case saO => k_is)
    (case nhO => k_is)
    (case mkO => k_is)
    (case kCO => k_is)
    (case tyO => k_is)
    (case ssO => k_is)
    (case neO => k_is)
    (case moO => k_is)
    (case caO => k_is)
    (case sbONoneType => k_is)
    (case nrONoneType => k_is)
    (case sbObool => k_is)
    (case nrObool => k_is)
    (case sbOint => k_is)
    (case nrOint => k_is)
    (case sbOstr => k_is)
    (case nrOstr => k_is)
    (case sbOlist => k_is)
    (case nrOlist => k_is)
    (case sbOtuple => k_is)
    (case nrOtuple => k_is)
    (case aNP => k_is)
    (case xNP => k_is)
    (case aEP => k_is)
    (case lEP => k_is)
    (case cEP => k_is)
    (case kEP => k_is)
    (case tEP => k_is)
    (case saNP => k_is)
    (case nfNP => k_is)
    (case kNP => k_is)
    (case eNP => k_is)
    (case tNP => k_is)
    (case aCP => k_is)
    (case aIP => k_is)
    (case lIP => k_is)
    (case cIP => k_is)
    (case kIP => k_is)
    (case iIP => k_is)
    (case lTP => k_is)
    (case aQP => k_is)
    (case lQP => k_is)
    (case cQP => k_is)
    (case kQP => k_is)
    (case iQP => k_is)
    (case aRP => k_is)
    (case lRP => k_is)
    (case cRP => k_is)
    (case kRP => k_is)
    (case iRP => k_is)
    (case pgP => k_is)
    (case hdP => k_is)
    (case poP => k_is)
    (case saP => k_is)
    (case nhP => k_is)
    (case mkP => k_is)
    (case kCP => k_is)
    (case tyP => k_is)
    (case ssP => k_is)
    (case neP => k_is)
    (case moP => k_is)
    (case caP => k_is)
    (case sbPNoneType => k_is)
    (case nrPNoneType => k_is)
    (case sbPbool => k_is)
    (case nrPbool => k_is)
    (case sbPint => k_is)
    (case nrPint => k_is)
    (case sbPstr => k_is)
    (case nrPstr => k_is)
    (case sbPlist => k_is)
    (case nrPlist => k_is)
    (case sbPtuple => k_is)
    (case nrPtuple => k_is)
    (case sOP => k_is)
    (case sPO => k_is)
    (case v1 => k_is)
    (case v2 => k_is)
    (case v3 => k_is)
    (case v4 => k_is)
    (case v5 => k_is)
    (case v6 => k_is)
    (case v7 => k_is)
    (case v8 => k_is)
    (case v9 => k_is)
    (case l6 => k_is)
    (case l7 => k_is)
    (case l8 => k_is)
    (case l9 => k_is)
    (case z_len => k_is)
    (case z_max => k_is)
    (case z_min => k_is)
    (case z_abs => k_is)
    (case z_range => k_is)
    (case z_list => k_is)
    (case z_int => k_is)
    (case z_repr => k_is)
    (case z_str => k_is)
    (case z_isinstance => k_is)
    (case z_all => k_is)
    (case z_bool => k_is)
    (case z_tuple => k_is)
    (case aLaw => k_is)
    (case lLaw => k_is)
    (case cLaw => k_is)
    (case kLaw => k_is)
