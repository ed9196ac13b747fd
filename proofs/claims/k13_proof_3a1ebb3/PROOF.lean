import PyProof.Rows.All
import Wide.All
import OpenK.AllK
import Wide.FinOn
import KE.KIsAll
import PyProof.ReprRoads
import PyProof.StrBlock2
import HandS.ForMost
import HandS.IsInst
import HandS.Exc
import HandS.ExcInit
import HandS.ExcField
import HandS.ExcIs
import HandS.TryOnly
import HandS.WordsExc
import HandS.Defaults
import HandS.MakeKw
import HandS.MakeKwOnly
import PySem.Challenge.RW_wordbench_k13_commands_made
import HandS.Walk
import HandS.OwnEq
import HandS.SlotsOwn
import PyProof.InstNe
import PyProof.EqKinds
import HandS.FStr
import PyProof.ReprNest
import PyProof.StrHeap
import PyProof.ReprHeadsEmpty
import HandS.ExcOwn
set_option Elab.async false
set_option linter.all false
set_option maxRecDepth 100000
set_option maxHeartbeats 4000000
namespace WG
open PySem PySem.Spec PyProof.Rows L2
/-! ### a def's promise where no repr is under way -/
structure GOk (P : Program) (w : World) (K : PySem.W.Frag) (mg : Str → Option Value) (base : Heap) (CX : CXT) (k : Nat) (f : Addr) (fd : FuncData) (ps : List Str) (sp : Sp) : Prop where
  len : ∀ vs H Q E, sp vs H Q E → vs.length = ps.length
  run : ∀ (A : Around) (outer : List Env) (s : Shared) (H : Hp) (args : Args) (us : List Value) (vs : List V) (Q : VK) (E : XK), A.guards = some [] → Room k A → Env0 P w K mg base A outer s H →
    BindsTo s fd args (ps.zip us) → Vals vs us → sp vs H Q E → codeAny (model P w) A (.call (.ref f) args) (CR CX outer P w H s Q E) s
theorem GOk.of {P : Program} {w : World} {K : PySem.W.Frag} {mg : Str → Option Value} {base : Heap} {CX : CXT} {k : Nat} {f : Addr} {fd : FuncData} {ps : List Str} {sp : Sp} (F : FnOk P w K mg base CX k f fd ps sp) : GOk P w K mg base CX k f fd ps sp :=
  ⟨F.len, fun A o s H args us vs Q E _ => F.run A o s H args us vs Q E⟩
section
variable {CX : CXT} {P : Program} {w : World} {K : PySem.W.Frag} {mg : Str → Option Value} {base : Heap} {k : Nat} {f : Addr} {N ps : List Str} {sp : Sp}
theorem gfn_of {name qual : Str} {params : Arguments} {body : List Stmt} {scope : Scope} {dV kV doc pm cdv ct oc : Value} {an od : Option Addr} {osl : Array (Option Value)}
    (lk : K.lookup f = some ⟨oc, od, .func (PySem.W.fnOf name qual params body scope dV kV doc pm an cdv ct), osl⟩) (hcd : PySem.W.codeIn K cdv qual = true) (S : FnScope N ps scope) (len : ∀ vs H Q E, sp vs H Q E → vs.length = ps.length)
    (hbody : ∀ (A : Around) (outer : List Env) (s : Shared) (H : Hp) (vs : List V) (Q : VK) (E : XK), A.guards = some [] → Room k (A.deeper (envOfC qual scope s.heap.objs.size f cdv)) → sp vs H Q E →
      ∃ t, PSs (cxOf CX P w K mg base N qual scope f cdv A outer s H E) body t ∧ t { nx := fun _ H' => Q .non H', rt := Q } (L2.start N vs) H) :
    GOk P w K mg base CX (k + 1) f (PySem.W.fnOf name qual params body scope dV kV doc pm an cdv ct) ps sp := by
  refine ⟨len, fun A outer s H args us vs Q E hgd room env bnd rel want => ?_⟩
  have hlen := len _ _ _ _ want
  have kin : K.In s.heap := env.mod.kin.keeps fun b o q => (env.bs b o q).1
  have nolim : s.heap.NoLimit := env.mod.nolimit.keeps fun b o q => (env.bs b o q).1
  have kinds : ∀ y ∈ ps.zip us, scope.names.lookup y.1 = some .local ∨ (scope.names.lookup y.1 = some .cell ∧ ((cellsFrom (s.heap.objs.size + 1) scope.names []).lookup y.1).isSome = true) := by
    intro y hy
    obtain ⟨n, v⟩ := y
    cases S.par n (List.of_mem_zip hy).1 with
    | inl z => exact .inl z
    | inr z => exact .inr ⟨z, PySem.W.cellsFrom_some _ _ _ (.inl z)⟩
  refine codeAny_call_function room.depth (kin _ _ lk) rfl S.co S.gen rfl (PySem.W.codeRec_of kin hcd) (bnd _ _ _ _ ?_)
  refine wpAny_newFunctionEnv_cells S.kind kinds fun e2 he2 s1 hx => ?_
  subst he2
  refine ⟨nolim.keeps hx.toInCall.keep, codeAny_func ?_⟩
  obtain ⟨t, tb, tq⟩ := hbody A outer s H vs Q E hgd (room.deeper _) want
  have I : Inv (cxOf CX P w K mg base N qual scope f cdv A outer s H E) [] (L2.start N vs) H s1 := inv_start S room.hd env hlen rel hx
  refine wpAny_mono (tb.run [] s1 (L2.start N vs) H _ I tq) (fun fl s' hs => ?_) fun e s' hs => hs
  cases fl with
  | ret u =>
    obtain ⟨v, _, H', J, rv, q⟩ := hs
    exact ⟨v, H', J.os, J.bare, J.base, J.hok, rv, q⟩
  | next =>
    obtain ⟨_, H', J, q⟩ := hs
    exact ⟨V.non, H', J.os, J.bare, J.base, J.hok, rfl, q⟩
  | brk =>
    obtain ⟨_, _, _, q⟩ := hs
    exact False.elim q
  | cont =>
    obtain ⟨_, _, _, q⟩ := hs
    exact False.elim q
theorem gfun_ok {x qual : Str} {st : Stmt} {fd : FuncData} (F : Fun K x qual st f fd) (S : FnScope N ps (defScope st)) (len : ∀ vs H Q E, sp vs H Q E → vs.length = ps.length)
    (hbody : ∀ (cdv : Value) (A : Around) (outer : List Env) (s : Shared) (H : Hp) (vs : List V) (Q : VK) (E : XK), A.guards = some [] → Room k (A.deeper (envOfC qual (defScope st) s.heap.objs.size f cdv)) → sp vs H Q E →
      ∃ t, PSs (cxOf CX P w K mg base N qual (defScope st) f cdv A outer s H E) (defBody st) t ∧ t { nx := fun _ H' => Q .non H', rt := Q } (L2.start N vs) H) : GOk P w K mg base CX (k + 1) f fd ps sp := by
  obtain ⟨oc, od, kV, doc, pm, an, cdv, ct, osl, rfl, lk, hcd⟩ := F.ex
  exact gfn_of lk hcd S len fun A outer s H vs Q E hg hr hsp => hbody cdv A outer s H vs Q E hg hr hsp
end
section
variable {X : Cx} {CX : CXT} {k : Nat} {f : Addr} {fd : FuncData} {ps : List Str} {sp : Sp} {E : XK} {x : Str} {p pos : Pos} {e : Expr} {es : List Expr} {t : TA}
theorem pe_callG (F : GOk X.prog X.w X.K X.mg X.base CX k f fd ps sp) (hgd : X.A.guards = some []) (hr : Room k X.A) (hg : Gl X x) (hm : X.mg x = some (.ref f)) (hk : PySem.W.keepIn X.K (.ref f) = true) (hb : Binds X.K fd ps []) (hx : Passes CX X E)
    (ha : PA X (e :: es) t) (hdb : (x == ("__debug__" : Str)) = false := by decide) (he : starEach (e :: es) X.env = (false, eval e X.env) :: starEach es X.env := by rfl) (hpl : (backTo pos (starEach es X.env)).any (·.1) = false := by rfl) :
    PE X (.Call (.Name x p) (e :: es) [] pos) (tCall sp [] E t) := by
  constructor
  intro pins s σ H Q I h
  refine wpAny_Call_Name_kw (ld_glob I hg hm ?_ hdb)
  refine PySem.W.callWith_K (h₀ := X.base) I.ok.mod.kin hk (thn (ha.run pos pins s σ H _ I h) fun us s1 ⟨vs, H1, I1, r, q⟩ => ⟨I1.kIn, ?_⟩) he hpl
  have q : sp vs H1 Q E := by
    have z : sp (vs ++ []) H1 Q E := q
    rw [List.append_nil] at z
    exact z
  have hl : (us ++ []).length = ps.length := by
    rw [List.append_nil, ← r.length]
    exact F.len _ _ _ _ q
  have b := hb s1 us I1.kIn hl
  rw [List.append_nil] at b
  refine wpAny_call (codeAny_mono (F.run X.A X.stack s1 H1 ⟨us, []⟩ us vs Q E hgd hr I1.env0 b r q) fun rr s' hq => ?_)
  cases rr with
  | error er => exact hx pins σ H1 s1 er s' I1 hq
  | ok fl =>
    cases fl with
    | ret u => exact I1.after hq
    | next => exact hq.elim
    | brk => exact hq.elim
    | cont => exact hq.elim
end
/-! ### the law's end over such a promise -/
theorem glaw_call {P : Program} {w : World} {K : PySem.W.Frag} {mg mb : Str → Option Value} {CX : CXT} {k : Nat} {fa a : Addr} {fd : FuncData} {x : Str} {sp : Sp} {t : Shared} {vs : List Value} {ns : List Int}
    (kin : K.In t.heap) (nsm : t.heap.Ns mainGlobals mg) (nsb : t.heap.Ns builtinsNs mb) (hbb : ∀ x : Str, x ≠ "__name__" → mb x = bootBuiltins x) (nolim : t.heap.NoLimit) (nogen : t.gens = #[])
    (obj : t.heap.get? a = some { cls := .type "list", data := .seq vs.toArray }) (hints : IntsAre vs ns) (hl : ns.length ≤ sizeLine) (room : Room k callerA)
    (F : ∀ base : Heap, K.In base → base.Ns mainGlobals mg → GOk P w K mg base CX k fa fd [x] sp) (bnd : ∀ (s : Shared) (u : Value), BindsTo s fd ⟨[u], []⟩ [(x, u)])
    (want : ∀ H : Hp, Only H → SqL K H a (ns.map V.int) → sp [.ref a] H (fun v _ => v = .bl true) fun _ _ _ => False)
    (noX : ∀ H e s', CX [] H t (fun _ _ _ => False) e s' → False) :
    codeAny (model P w) callerA (.call (.ref fa) ⟨[.ref a], []⟩) (fun r s' => r = .ok (.ret (.bool true)) ∧ OldK t.heap s'.heap ∧ s'.os = t.os ∧ AllBare s'.gens) t := by
  have rv := vals_ints hints
  have hlv := hints.length
  have main : ∀ H : Hp, Only H → SqL K H a (ns.map V.int) → HOk P w H t.heap → (∀ b, H b ≠ none → b = a) → (H a ≠ none → K.lookup a = none) →
      codeAny (model P w) callerA (.call (.ref fa) ⟨[.ref a], []⟩) (fun r s' => r = .ok (.ret (.bool true)) ∧ OldK t.heap s'.heap ∧ s'.os = t.os ∧ AllBare s'.gens) t := by
    intro H only hS ok onlyA hK
    have noD : ∀ {b : Addr} {o : Obj} {es : Array DictEntry} {ep : Nat}, t.heap.get? b = some o → o.data = .dict es ep → H b = none := by
      intro b o es ep e d
      cases q : H b with
      | none => rfl
      | some u =>
        have z := onlyA b (by rw [q]; exact Option.some_ne_none u)
        subst z
        rw [obj] at e
        cases e
        cases d
    have nsH : ∀ {b : Addr} {m : Str → Option Value}, t.heap.Ns b m → (hidT t.heap H).Ns b m := by
      rintro b m ⟨o, es, ep, e, d, r⟩
      exact ⟨o, es, ep, hidT_get e (noD e d), d, r⟩
    have kinH : K.In (hidT t.heap H) := by
      intro b o e
      refine hidT_get (kin b o e) ?_
      cases q : H b with
      | none => rfl
      | some u =>
        have z := onlyA b (by rw [q]; exact Option.some_ne_none u)
        subst z
        rw [hK (by rw [q]; exact Option.some_ne_none u)] at e
        cases e
    have md : Mod K mg (hidT t.heap H) := by
      refine ⟨kinH, nsH nsm, ⟨mb, nsH nsb, hbb⟩, ?_⟩
      obtain ⟨mc, h1, h2⟩ := nolim
      exact ⟨mc, nsH h1, h2⟩
    have env : Env0 P w K mg (hidT t.heap H) callerA [] t H :=
      ⟨rfl, md, fun b o e => of_hidT e, Nat.le_of_eq (hidT_size _ _), trivial, fun b hb => (List.not_mem_nil (show b ∈ ([] : List Addr) from hb)).elim, ok, .of_eq nogen⟩
    refine codeAny_mono ((F _ kinH (nsH nsm)).run callerA [] t H ⟨[.ref a], []⟩ [.ref a] [.ref a] _ _ rfl room env (bnd t (.ref a)) (.cons rfl .nil) (want H only hS)) fun r s' h => ?_
    cases r with
    | error e => exact (noX H e s' h).elim
    | ok fl =>
      cases fl with
      | next => exact h.elim
      | brk => exact h.elim
      | cont => exact h.elim
      | ret u =>
        obtain ⟨v, H', os, bare, un, ok', r', q⟩ := h
        have q' : v = .bl true := q
        subst q'
        cases r'
        refine ⟨rfl, OldK.of_keep fun b o e => ?_, os, bare⟩
        cases q : H b with
        | none => exact un.keep b o e q (fun z => (List.not_mem_nil (show b ∈ ([] : List Addr) from z)).elim) List.not_mem_nil
        | some u =>
          rcases only b with z | ⟨ob, xs, z⟩
          · rw [q] at z
            cases z
          · obtain ⟨e1, _⟩ := ok b _ z
            obtain ⟨e2, _⟩ := ok' b _ (un.frzs b ob _ z)
            rw [e] at e1
            cases e1
            exact e2
  cases hk : K.lookup a with
  | some o =>
    have e := kin a o hk
    rw [obj] at e
    cases e
    refine main (fun _ => none) (fun _ => .inl rfl) (.inr ⟨_, vs.toArray, _, hk, rfl, rfl, rfl, ?_, by simpa using rv⟩) (fun b u z => by cases (show (none : Option HO) = some u from z)) (fun b z => absurd rfl z) fun z => absurd rfl z
    rw [List.size_toArray, hlv]
    exact hl
  | none =>
    refine main (fun b => if b = a then some (.frz { cls := .type "list", data := .seq vs.toArray } (.lst (ns.map V.int))) else none) (fun b => ?_) (.inl (.inr ⟨_, if_pos rfl⟩)) (fun b u z => ?_) (fun b z => ?_) fun _ => hk
    · by_cases hb : b = a
      · exact .inr ⟨_, _, if_pos hb⟩
      · exact .inl (if_neg hb)
    · by_cases hb : b = a
      · have z' := (if_pos hb).symm.trans z
        cases z'
        subst hb
        exact ⟨obj, by rw [List.length_map]; exact hl, vs, _, rv, obj⟩
      · have z' := (if_neg hb).symm.trans z
        cases z'
    · by_cases hb : b = a
      · exact hb
      · exact absurd (if_neg hb) z
theorem gwalk_of {l : PySem.W.OpenLaw} {n k : Nat} {q : Program} {loose : List Str} {XP : (Str → Option Value) → Heap → Prop} {YP : World → Heap → Prop} {d : DefRec} {K : Params → PySem.W.Frag} {CX : World → CXT} {sp : World → Sp} {x : Str}
    (hn : l.most = some n) (hn2 : n ≤ sizeLine) (hdf : d.params.defaults = []) (hr : Room k callerA) (hY : ∀ (w : World) (h : Heap), YP w h → (K w.params).In h)
    (F : ∀ (w : World) (mg : Str → Option Value) (fa : Addr) (h : Heap), (K w.params).In h → h.Ns mainGlobals mg → mg d.name = some (.ref fa) →
      ∃ fd : FuncData, (∀ (s : Shared) (u : Value), BindsTo s fd ⟨[u], []⟩ [(x, u)]) ∧ ∀ base : Heap, (K w.params).In base → base.Ns mainGlobals mg → GOk l.prog w (K w.params) mg base (CX w) k fa fd [x] (sp w))
    (hsp : ∀ (w : World) (H : Hp) (a : Addr) (ns : List Int), ns.length ≤ n → Only H → SqL (K w.params) H a (ns.map V.int) → sp w [.ref a] H (fun v _ => v = .bl true) fun _ _ _ => False)
    (hCX : ∀ (w : World) (H : Hp) (s : Shared) (e : Value) (s' : Shared), CX w [] H s (fun _ _ _ => False) e s' → False) : PySem.W.WalkO q loose XP YP l.row.toRowW d [] (fun f vs => PySem.call f vs) := by
  refine Att.attach_call hn hdf fun w s0 s1 mg mb fa o pm cd doc a vs ns G Y ho hd hcd hmg hobj hints hlen hg => ?_
  obtain ⟨fd, hb, hF⟩ := F w mg fa _ (hY w _ Y) G.T.g hmg
  exact glaw_call (hY w _ Y) G.T.g G.T.b G.T.builtins G.T.nolimit hg hobj hints (Nat.le_trans hlen hn2) hr hF hb (fun H hO hS => hsp w H a ns hlen hO hS) fun H e s' => hCX w H s1 e s'
/-! ### text * int -/
theorem fold_toList : ∀ (l : List (Array Nat)) (acc : Array Nat), (l.foldl (· ++ ·) acc).toList = acc.toList ++ (l.map Array.toList).flatten
  | [], acc => by simp
  | x :: l, acc => by
    rw [List.foldl_cons, fold_toList l]
    simp
theorem mul_tl (z : Str) (n : Nat) : (Txt.mul z (n : Int)).cps.toList = (List.replicate n z.cps.toList).flatten := by
  unfold Txt.mul
  by_cases h1 : (n : Int) < 1
  · have e : n = 0 := by omega
    subst e
    rw [if_pos h1]
    rfl
  · rw [if_neg h1]
    by_cases h2 : ((n : Int) == 1 || z.length == 0) = true
    · rw [if_pos h2]
      rcases Bool.or_eq_true_iff.mp h2 with e | e
      · have e1 : n = 1 := by
          have := eq_of_beq e
          omega
        subst e1
        simp
      · have e1 : z.cps.toList = [] := List.length_eq_zero_iff.mp (by
          have := eq_of_beq e
          simpa [Str.length] using this)
        rw [e1]
        simp
    · rw [if_neg h2]
      show ((List.replicate (n : Int).toNat z.cps).foldl (· ++ ·) #[]).toList = _
      rw [fold_toList, Int.toNat_natCast, List.map_replicate]
      rfl
theorem op_mul_str {X : Cx} : OpR X (binaryOp .Mult) (fun x y H Q => ∃ (z : Str) (n : Nat), x = .str z ∧ y = .int (n : Int) ∧ n ≤ 1000 ∧ z.length ≤ 1000 ∧ ∀ y : Str, y.length = z.length * n → (∀ c ∈ y.cps.toList, c ∈ z.cps.toList) → Q (.str y) H) := by
  intro pins s σ H x y v u Q I rx ry h
  obtain ⟨z, n, rfl, rfl, hn, hz, q⟩ := h
  obtain ⟨tx, rfl⟩ := rx
  obtain ⟨ty, rfl⟩ := ry
  have pw : z.length * n ≤ 1000000 := Nat.le_trans (Nat.mul_le_mul hz hn) (by decide)
  refine PySem.SB.mul ⟨?_, fun h1 h2 => ?_, fun h1 h2 => ?_⟩ fun t' k => ⟨.str _, H, I.tok k, ⟨t', rfl⟩, q _ ?_ ?_⟩
  · rw [decide_eq_false (by omega), decide_eq_false (by omega)]
    rfl
  · have e : (1000 : Int) ≤ (2 ^ 63 - 1) / (n : Int) := by
      have h3 : (0 : Int) < n := by omega
      exact (Int.le_ediv_iff_mul_le h3).mpr (by omega)
    omega
  · rw [Int.toNat_natCast]
    exact decide_eq_false (by show ¬ sizeLine < _; have : sizeLine = 16777216 := sizeLine_eq; omega)
  · rw [TL.len_tl, TL.len_tl z]
    show (Txt.mul z (n : Int)).cps.toList.length = _
    rw [mul_tl]
    simp [Nat.mul_comm]
  · intro c hc
    rw [mul_tl] at hc
    obtain ⟨l, hl, hcl⟩ := List.mem_flatten.mp hc
    rw [(List.mem_replicate.mp hl).2] at hcl
    exact hcl
/-! ### repr of a list -/
/-- a value and the data that it is: as in Dp, and dicts of none or one text with an int -/
inductive Itm (K : PySem.W.Frag) (H : Hp) : V → PyData → Prop
  | dp {v : V} {d : PyData} (h : Dp K H v d) (nd : d.hasDict = false) : Itm K H v d
  | d0 {a : Addr} (h : H a = some (.dK [])) : Itm K H (.ref a) (.dict [])
  | d1 {a : Addr} {x : Str} {i : Int} (h : H a = some (.dK [(Sum.inr x, .int i)])) : Itm K H (.ref a) (.dict [(.str x, .int i)])
inductive ItmAll (K : PySem.W.Frag) (H : Hp) : List V → List PyData → Prop
  | nil : ItmAll K H [] []
  | cons {v : V} {vs : List V} {d : PyData} {ds : List PyData} : Itm K H v d → ItmAll K H vs ds → ItmAll K H (v :: vs) (d :: ds)
section
variable {X : Cx} {pins : List (Addr × Obj)} {σ : L2.St} {H : Hp} {s : Shared}
theorem Itm.reads (I : Inv X pins σ H s) {v : V} {u : Value} {d : PyData} (h : Itm X.K H v d) (r : RelV v u) : ∃ as, Reads s.heap u d as ∧ (d.hasDict = true → sysModules ∉ as) := by
  cases h with
  | dp h nd =>
    obtain ⟨as, q⟩ := Dp.reads I d v u h r
    exact ⟨as, q, fun z => by rw [nd] at z; cases z⟩
  | @d0 a h =>
    cases r
    obtain ⟨_, ns, vs, kv, o, es, ep, ho, hx, hd, hk, hp, _⟩ := I.hok _ _ h
    cases kv
    generalize hl : es.toList = l at hp
    cases hp
    refine ⟨_, Reads.dict (kvs := []) (as := []) (bs := []) ho hx.1 hd (by rw [hl]; exact .nil) (by rw [hl]; exact .nil), fun _ => ?_⟩
    intro hm
    rcases List.mem_cons.mp hm with e | e
    · rw [← e] at ns
      exact absurd ns (by decide)
    · cases e
  | @d1 a x i h =>
    cases r
    obtain ⟨_, ns, vs, kv, o, es, ep, ho, hx, hd, hk, hp, _⟩ := I.hok _ _ h
    cases kv with
    | cons h1 h2 =>
      cases h2
      obtain ⟨e1, t, e2⟩ := h1
      rename_i b nd2
      obtain ⟨b1, b2⟩ := b
      dsimp only at e1 e2
      subst e1 e2
      generalize hl : es.toList = l at hp
      cases hp with
      | cons k1 k2 k3 =>
        cases k3
        rename_i en
        obtain ⟨hh, ky, vl⟩ := en
        dsimp only at k1 k2
        subst k2
        have k1' : keyIs (Sum.inr x) ky = true := k1
        rcases keyIs_shape k1' with ⟨j, t', z, _⟩ | ⟨y, t', z, rfl⟩
        · cases z
        · cases z
          refine ⟨_, Reads.dict (kvs := [(.str x, .int i)]) ho hx.1 hd (by rw [hl]; exact .cons (.str x t') .nil) (by rw [hl]; exact .cons (.int i t) .nil), fun _ => ?_⟩
          intro hm
          rcases List.mem_cons.mp hm with e | e
          · rw [← e] at ns
            exact absurd ns (by decide)
          · cases e
theorem ItmAll.all (I : Inv X pins σ H s) : ∀ {vs : List V} {ds : List PyData} {us : List Value}, ItmAll X.K H vs ds → Vals vs us → PyData.showableAll ds = true → (∀ t ∈ PyData.shownAll ds, t.length ≤ sizeLine) →
    (∃ as, ReadsAll s.heap us ds as) ∧ ∃ bs, ReadAtMost s.heap (PyData.depthAll ds) bs ∧ ReprAllK X.prog X.w bs s.heap (PyData.depthAll ds) us (PyData.shownAll ds)
  | _, _, _, .nil, .nil, _, _ => ⟨⟨_, .nil⟩, [], (fun _ h => nomatch h), by simp only [PyData.shownAll]; exact .nil⟩
  | _, _, _, .cons (d := d) (ds := ds) h1 h2, .cons r1 r2, hs, hz => by
    have hs' : d.showable = true ∧ PyData.showableAll ds = true := by simpa [PyData.showableAll] using hs
    obtain ⟨as, q, nq⟩ := h1.reads I r1
    obtain ⟨⟨as2, q2⟩, bs2, b2, k2⟩ := ItmAll.all I h2 r2 hs'.2 (fun t ht => hz t (by simp only [PyData.shownAll]; exact List.mem_cons_of_mem _ ht))
    obtain ⟨bs1, b1, k1⟩ := ReprK.of_reads (prog := X.prog) (w := X.w) q hs'.1 nq (hz _ (by simp only [PyData.shownAll]; exact List.mem_cons_self ..))
    refine ⟨⟨_, .cons q q2⟩, bs1 ++ bs2, ?_, ?_⟩
    · have e1 : d.depth ≤ PyData.depthAll (d :: ds) := by simp only [PyData.depthAll]; omega
      have e2 : PyData.depthAll ds ≤ PyData.depthAll (d :: ds) := by simp only [PyData.depthAll]; omega
      exact (b1.mono e1).append (b2.mono e2)
    · have e1 : d.depth ≤ PyData.depthAll (d :: ds) := by simp only [PyData.depthAll]; omega
      have e2 : PyData.depthAll ds ≤ PyData.depthAll (d :: ds) := by simp only [PyData.depthAll]; omega
      simp only [PyData.shownAll]
      exact .cons ((k1.more fun b hb => List.mem_append_left _ hb).level_le e1) (k2.more_le (fun b hb => List.mem_append_right _ hb) e2)
/-- repr(l) -/
def rRepr (K : PySem.W.Frag) : List V → Hp → VK → Prop := fun xs H Q => ∃ (a : Addr) (vs : List V) (ds : List PyData), xs = [.ref a] ∧ SqL K H a vs ∧ vs ≠ [] ∧ ItmAll K H vs ds ∧ PyData.showableAll ds = true ∧ PyData.depthAll ds ≤ 8 ∧
  (listText (PyData.shownAll ds)).length ≤ sizeLine ∧ Q (.str (listText (PyData.shownAll ds))) H
end
theorem call_repr_l {X : Cx} (hg : X.A.guards = some []) (hu : X.A.units + 16 < cLine) : CallR X (.builtin "repr") (rRepr X.K) := by
  intro pins s σ H xs us Q I r h
  obtain ⟨a, vs, ds, rfl, hS, hne, hI, hs, hdp, hz, q⟩ := h
  cases r with
  | cons ra rr =>
    cases rr
    cases ra
    obtain ⟨its, rv, ⟨o, n, ho, hc, hdx, hd⟩, _⟩ := I.list hS
    obtain ⟨⟨as, hr⟩, bs, hb, hk⟩ := ItmAll.all I hI rv hs (fun t ht => Nat.le_trans (listText_mem_le ht) hz)
    cases its with
    | nil =>
      cases rv
      exact absurd rfl hne
    | cons x l =>
      have rd : Reads s.heap (.ref a) (.list ds) _ := Reads.list ho hc hd hr
      have hna : a ∉ bs := not_mem_of_deeper rd (by simp only [PyData.depth]; omega) hb
      refine call_repr_slot (T := "list") (idr := "list.__repr__") (by omega) ⟨o, ho, hc⟩ F.slot_list_repr.toG ?_
      exact call_list_reprK (h₀ := s.heap) (as := bs) ho hc hd hna (by simpa using hk.length_eq) (fun i y e => hk.item i y (by simpa using e)) (g := []) hg (fun b _ => Clear.nil b) (by show X.A.units + 1 + (_ + 1) < cLine; omega) (fun _ _ e => e)
        (fun h' u tk hkp => ⟨_, _, rfl, .str _, H, I.kept (t' := tk) hkp, ⟨u, rfl⟩, q⟩) hz
end WG

set_option Elab.async false
set_option linter.all false
set_option maxRecDepth 100000
set_option maxHeartbeats 4000000
namespace WG
open PySem PySem.Spec PySem.Calls PyProof.Rows PySem.W
section
variable {prog : Program} {w : World} {A : Around} {E : Value → Shared → Prop} {s : Shared} {K : Frag} {x D : Addr} {ox : Obj} {od : Option Obj}
theorem find_dat {C : Addr} {name : Str} {a g : Value} (hc : (clsIn K C).isSome = true) (ha : findIn K (.ref C) name = some (some a)) (hg : specialIn K a "__get__" = some (some g)) (ht : takesIn K a = some true) :
    findObj K C od name = some (.bind g a) := by
  obtain ⟨cd, hcd⟩ := Option.isSome_iff_exists.mp hc
  unfold findObj
  rw [hcd, Option.bind_some, ha, Option.bind_some]
  simp [hg, ht]
theorem exc_class {Q : Option Value → Shared → Prop} (c : L2.ExcC K D) (kin : K.In s.heap) (at0 : InstAt s.heap x ox D od) (h : Q (some (.ref D)) { s with toks := s.toks + 1 }) : wpAny (model prog w) A (getAttr? (.ref x) "__class__") Q E s := by
  have hf : findObj K D od "__class__" = some (.bind (.builtin "getset_descriptor.__get__") (.builtin "object.__class__")) := by
    refine find_dat ?_ c.ha c.hn c.ht
    obtain ⟨cd, hcd, _⟩ := any_some c.hd
    rw [hcd] <;> rfl
  obtain ⟨hh, gs, dr, tk, os⟩ := s
  have t0 := at0.type (M := model prog w)
  have t1 := looks_findIn (M := model prog w) kin c.hg
  have t2 := looks_findIn (M := model prog w) kin c.hk
  have t3 := looks_find (M := model prog w) kin at0 hf
  have isb : Looks (model prog w) hh (isInstance (.ref x) (.type "BaseException")) true := t0.andThen (looks_subIn kin c.hs)
  have z0 : (false && onTheHeap (Value.builtin "BaseException.__getattribute__")) = false := rfl
  have z2 : (Value.builtin "BaseException.__getattribute__" == Value.builtin "object.__getattribute__") = false := by decide +kernel
  have z1 : (onTheHeap (Value.ref D) && Value.builtin "BaseException.__getattribute__" == Value.builtin "object.__getattribute__") = false := by
    rw [z2]
    rfl
  unfold getAttr? getAttrBy? getAttrBy
  refine wpAny_bind (wpAny_mkText (wpAny_bind (wpAny_attempt (wpAny_holding (wpAny_bind (t0.at (wpAny_bind (t1.at ?_))))))))
  show wpAny _ _ (if (onTheHeap (Value.ref D) && Value.builtin "BaseException.__getattribute__" == Value.builtin "object.__getattribute__") = true then _ else _) _ _ _
  rw [z1, if_neg Bool.false_ne_true]
  unfold getAttrByItsOwn hookBefore
  refine wpAny_bind ?_
  rw [if_pos (show onTheHeap (Value.ref D) = true from rfl)]
  refine t2.at (wpAny_bind (wpAny_attempt (wpAny_holding ?_)))
  unfold callGetattribute
  rw [z0, if_neg Bool.false_ne_true]
  unfold boundAndCalled
  rw [PySem.F.excAttr_ValueError.ga.bind (.ref x)]
  refine wpAny_bind (wpAny_pure ?_)
  show wpAny _ _ (call (.builtin "BaseException.__getattribute__") [.ref x, .str "__class__" tk]) _ _ _
  refine wpAny_call (codeAny_call_builtin PySem.F.excAttr_ValueError.ga.plain PySem.F.entry_bexc_ga ?_)
  refine @check_slot (model prog w) _ _ ⟨hh, gs, dr, tk + 1, os⟩ "BaseException.__getattribute__" "BaseException" "__getattribute__" (.ref x) [.str "__class__" tk] [] _ (by decide +kernel) (by decide +kernel) isb (PySem.F.args_bexc_ga (.ref x) (.str "__class__" tk)) ?_
  unfold Builtin.«object.__getattribute__»
  refine wpAny_bind (wpAny_of_eq (a := ((Value.ref x : Value), [Value.str "__class__" tk])) (by first | rfl | (simp only [slotArgs]; rfl)) ?_)
  refine wpAny_bind (wpAny_pure (wpAny_bind (t0.at (wpAny_bind (t3.at ?_)))))
  show wpAny _ _ (holding [Value.builtin "object.__class__"] (call (.builtin "getset_descriptor.__get__") [.builtin "object.__class__", .ref x, .ref D]) >>= ret) _ _ _
  refine wpAny_bind (wpAny_holding (wpAny_call (class_get (s := ⟨hh, gs, dr, tk + 1, os⟩) (ox := ox) (od := od) kin at0 c.hm ?_)))
  refine wpAny_pure ?_
  show wpAny _ _ (handedOut (.ref D)) _ _ _
  rw [handedOut_of (v := .ref D) rfl]
  first
    | exact wpAny_pure (wpAny_pure h)
    | exact wpAny_pure h
    | exact wpAny_pure (wpAny_bind (wpAny_pure (wpAny_pure h)))
theorem kit_exc (c : L2.ExcC K D) : KitX K (.ref x) (.ref D) (fun h => InstAt h x ox D od) := by
  obtain ⟨cd, hcd, _⟩ := any_some c.hd
  obtain ⟨o, ho, hdo⟩ : ∃ o, K.lookup D = some o ∧ o.data = .cls cd := by
    unfold clsIn at hcd
    split at hcd
    · rename_i c' d' cd' sl' hk
      cases hcd
      exact ⟨_, hk, rfl⟩
    · cases hcd
  obtain ⟨oc, odd, oda, osl⟩ := o
  dsimp only at hdo
  subst hdo
  refine { ty := fun _ _ _ J => J.type, it := fun _ _ kin _ => ?_, ne := fun h tp dd its n sl kin htp => ?_, ca := fun kin J k => exc_class c kin J k }
  · intro A' Q' E' s' kp q
    unfold isType loadHead
    exact wpAny_bind (wpAny_loadPart (kp _ _ (kin _ _ ho)) (wpAny_pure q))
  · refine Bool.eq_false_iff.mpr fun q => ?_
    have e : D = tp := Value.ref.inj (beq_iff_eq.mp q)
    subst e
    have z := (kin _ _ ho).symm.trans htp
    cases z
end
end WG
namespace WG
open PySem PySem.Spec PyProof.Rows L2
/-- isinstance(e, c), e the caught exception at a with its own dict -/
def rIsD (K : PySem.W.Frag) (a : Addr) (cls : Value) (d : Option Addr) : List V → Hp → VK → Prop := fun xs H Q => ∃ (D dd : Addr) (fs : List (Str × V)) (c : V) (cv : Value) (b : Bool), cls = .ref D ∧ d = some dd ∧ H dd = some (.xd fs) ∧ ExcC K D ∧
  xs = [.ref a, c] ∧ (∀ u, RelV c u → u = cv) ∧ PySem.W.kitOne K (.ref D) cv = some b ∧ Q (.bl b) H
theorem call_isD {X : Cx} {a : Addr} {oe : Obj} {cls : Value} {d : Option Addr} {pn : List (Addr × Obj)} (hz : Zc cls d oe) (hf : ∃ vs, oe.data = .fields vs) : CallR (X.suite a ((a, oe) :: pn)) (.builtin "isinstance") (rIsD X.K a cls d) := by
  intro pins s σ H xs us Q I r h
  obtain ⟨D, dd, fs, cl, cv, b, rfl, rfl, hx, c, rfl, hcv, e, q⟩ := h
  cases r with
  | cons rx rr =>
    cases rr with
    | cons rt rr =>
      cases rr
      cases rx
      have ec := hcv _ rt
      subst ec
      obtain ⟨hget, _⟩ := I.pin (a, oe) (List.mem_append.mpr (.inl List.mem_cons_self))
      obtain ⟨vs, hv⟩ := hf
      obtain ⟨mA, hns, _⟩ := I.hok dd _ hx
      obtain ⟨od, ho, _⟩ := lookIn_ns hns
      have J : PySem.W.InstAt s.heap a oe D (some od) := ⟨hget, hz.1, by unfold PySem.W.notCls; rw [hv] <;> rfl, by rw [hz.2]; exact ho⟩
      exact PySem.W.kia_one (kit_exc c) I.kIn J e (fun z => nomatch z) fun tk => ⟨.bl b, H, I.kept (t' := tk) fun _ _ z => z, rfl, q⟩
end WG

set_option Elab.async false
set_option linter.all false
set_option maxRecDepth 100000
set_option maxHeartbeats 4000000
namespace WB
open PySem PySem.Spec PyProof.Rows L2 WG
open TL (tl)
def topS (i : Nat) : Stmt := PySem.Challenge.pw_wordbench_k13_commands_made.main.body.getD i (.Pass ⟨0, 0, 0, 0⟩)
abbrev sCell : Stmt := topS 44
abbrev sPot : Stmt := topS 45
abbrev sTake : Stmt := topS 46
abbrev sName : Stmt := topS 47
abbrev sSigns : Stmt := topS 48
abbrev sAbout : Stmt := topS 49
abbrev sText : Stmt := topS 50
/-- a def of the top: its object, how it binds, its name -/
structure Df (K : PySem.W.Frag) (mg : Str → Option Value) (x : Str) (st : Stmt) (ps : List Str) (f : Addr) (fd : FuncData) : Prop where
  F : Fun K x x st f fd
  b : Binds K fd ps []
  g : mg x = some (.ref f)
theorem scCell : FnScope ["_law_script", "_law_k"] ["_law_script", "_law_k"] (defScope sCell) := ⟨rfl, rfl, rfl, by decide +kernel, rfl, by decide +kernel, by decide +kernel⟩
theorem scPot : FnScope ["_law_script", "_law_k", "_law_cell_here"] ["_law_script", "_law_k"] (defScope sPot) := ⟨rfl, rfl, rfl, by decide +kernel, rfl, by decide +kernel, by decide +kernel⟩
theorem scTake : FnScope ["_law_pot_here", "_law_room", "_law_digit"] ["_law_pot_here", "_law_room"] (defScope sTake) := ⟨rfl, rfl, rfl, by decide +kernel, rfl, by decide +kernel, by decide +kernel⟩
theorem scName : FnScope ["_law_pot_here", "_law_signs_here", "_law_size", "_law_text_here", "_law_k", "_law_sign"] ["_law_pot_here"] (defScope sName) := ⟨rfl, rfl, rfl, by decide +kernel, rfl, by decide +kernel, by decide +kernel⟩
theorem scSigns : FnScope ["_law_pot_here", "_law_most", "_law_signs_here", "_law_k"] ["_law_pot_here", "_law_most"] (defScope sSigns) := ⟨rfl, rfl, rfl, by decide +kernel, rfl, by decide +kernel, by decide +kernel⟩
theorem scAbout : FnScope ["_law_pot_here", "_law_way", "_law_k"] ["_law_pot_here"] (defScope sAbout) := ⟨rfl, rfl, rfl, by decide +kernel, rfl, by decide +kernel, by decide +kernel⟩
theorem scText : FnScope ["_law_pot_here", "_law_way"] ["_law_pot_here"] (defScope sText) := ⟨rfl, rfl, rfl, by decide +kernel, rfl, by decide +kernel, by decide +kernel⟩
/-! ### heaps -/
theorem same_upd {H : Hp} {p : Addr} {o : HO} (h : H p = none) : Same H (upd H p o) := fun b x e => by
  rw [upd_ne (ne_of_none e h)]
  exact e
/-- all that was tracked but at p is as it was -/
def But (p : Addr) (H H' : Hp) : Prop := ∀ b o, b ≠ p → H b = some o → H' b = some o
theorem But.refl (p : Addr) (H : Hp) : But p H H := fun _ _ _ h => h
theorem But.trans {p : Addr} {H H1 H2 : Hp} (a : But p H H1) (b : But p H1 H2) : But p H H2 := fun c o n h => b c o n (a c o n h)
theorem But.of_same {p : Addr} {H H' : Hp} (a : Same H H') : But p H H' := fun c o _ h => a c o h
theorem But.upd (p : Addr) (H : Hp) (o : HO) : But p H (upd H p o) := fun c u n h => by
  rw [upd_ne n]
  exact h
theorem But.new {p : Addr} {H : Hp} {q : Addr} {o : HO} (h : H q = none) : But p H (L2.upd H q o) := But.of_same (same_upd h)
/-- at p a pot stands -/
def Pot (H : Hp) (p : Addr) : Prop := ∃ a b : Int, H p = some (.lst [.int a, .int b]) ∧ 0 ≤ b ∧ b < 2147483648
theorem Pot.ne {H : Hp} {p q : Addr} (h : Pot H p) (n : H q = none) : p ≠ q := by
  obtain ⟨a, b, e, _⟩ := h
  exact ne_of_none e n
theorem Pot.same {H H' : Hp} {p : Addr} (h : Pot H p) (s : Same H H') : Pot H' p := by
  obtain ⟨a, b, e, h1, h2⟩ := h
  exact ⟨a, b, s _ _ e, h1, h2⟩
theorem Pot.new {H : Hp} {p q : Addr} {o : HO} (h : Pot H p) (n : H q = none) : Pot (L2.upd H q o) p := h.same (same_upd n)
section
variable {P : Program} {w : World} {K : PySem.W.Frag} {mg : Str → Option Value} {base : Heap}
/-! ### _law_cell -/
def spCell (K : PySem.W.Frag) : Sp := fun vs H Q _ => ∃ (a : Addr) (ns : List Int) (k : Int), vs = [.ref a, .int k] ∧ SqL K H a (ns.map V.int) ∧ 0 ≤ k ∧ ∀ z : Int, Q (.int z) H
theorem ok_cell {f : Addr} {fd : FuncData} {k : Nat} (F : Fun K "_law_cell" "_law_cell" sCell f fd) (mL : mg "len" = none) : FnOk P w K mg base CX0 (k + 1) f fd ["_law_script", "_law_k"] (spCell K) := by
  refine F.ok scCell (fun vs H Q E h => ?_) (fun cdv A outer s H vs Q E hr h => ?_)
  · obtain ⟨a, ns, k, rfl, _⟩ := h
    rfl
  · obtain ⟨a, ns, k, rfl, hS, hk, q⟩ := h
    refine ⟨_, pss_one (ps_ret (pe_ifExp (pt_cmpR op_lt (pv 1) (pe_callB call_len_seq (by rfl) mL PySem.boot_len (pa_cons (pv 0) pa_nil)) (nomark _)) (pe_ix ix_list (pv 0) (pv 1) (fun _ _ => rfl)) pe_int)), ?_⟩
    refine ⟨.int k, rfl, .ref a, rfl, a, _, rfl, .inl hS, k, _, rfl, rfl, _, rfl, ite2 (fun e => ?_) (fun e => q 0)⟩
    have e1 := of_decide_eq_true e
    obtain ⟨n, rfl⟩ := Int.eq_ofNat_of_zero_le hk
    rw [List.length_map] at e1
    have hn : n < ns.length := by omega
    exact ⟨.ref a, rfl, .int n, rfl, a, _, _, .int ns[n], rfl, rfl, hS, atI_nat (j := n) (by rw [List.getElem?_map, List.getElem?_eq_getElem hn]; rfl), q _⟩
/-! ### _law_pot -/
def spPot (K : PySem.W.Frag) : Sp := fun vs H Q _ => ∃ (a : Addr) (ns : List Int) (k : Int), vs = [.ref a, .int k] ∧ SqL K H a (ns.map V.int) ∧ 0 ≤ k ∧ k ≤ 1000 ∧
  ∀ H' p, Same H H' → H p = none → Pot H' p → Q (.ref p) H'
theorem ok_pot {f fC : Addr} {fd fdC : FuncData} {k : Nat} (F : Fun K "_law_pot" "_law_pot" sPot f fd) (C : Df K mg "_law_cell" sCell ["_law_script", "_law_k"] fC fdC) (mL : mg "len" = none) (mM : mg "max" = none) (mA : mg "abs" = none) :
    FnOk P w K mg base CX0 (k + 2) f fd ["_law_script", "_law_k"] (spPot K) := by
  have GC : FnOk P w K mg base CX0 (k + 1) fC fdC ["_law_script", "_law_k"] (spCell K) := ok_cell C.F mL
  refine F.ok scPot (fun vs H Q E h => ?_) (fun cdv A outer s H vs Q E hr h => ?_)
  · obtain ⟨a, ns, k, rfl, _⟩ := h
    rfl
  · obtain ⟨a, ns, k, rfl, hS, hk, hk1, q⟩ := h
    refine ⟨_, pss_cons (ps_set (i := 2) scPot.nd rfl (.inl rfl) (pe_call GC hr (by rfl) C.g C.F.kp C.b .nil pass0 (pa_cons (pv 0) (pa_cons (pv 1) pa_nil))))
      (pss_one (ps_ret (pe_lst (pa_cons (pe_callB (call_max2 rfl) (by rfl) mM (by decide +kernel) (pa_cons pe_int (pa_cons (pe_op op_sub (pv 2) (pe_op op_pow pe_int pe_int)) pa_nil)))
        (pa_cons (pe_op op_mod (pe_op op_add (pe_op op_add (pe_op op_add (pe_op op_mul (pe_op op_mod (pe_callB call_abs (by rfl) mA (by decide +kernel) (pa_cons (pv 2) pa_nil)) pe_int) pe_int)
          (pe_op op_mul (pe_op op_mul pe_int (pv 1)) (pv 1))) (pe_op op_mul pe_int (pv 1))) pe_int) pe_int) pa_nil))))), ?_⟩
    refine ⟨.ref a, rfl, .int k, rfl, a, ns, k, rfl, hS, hk, fun z => ?_⟩
    refine ⟨.int z, rfl, 10, 18, rfl, rfl, ⟨by decide, by decide, by decide⟩, z, _, rfl, rfl, 0, _, rfl, ?_⟩
    refine ⟨.int z, rfl, z, rfl, _, 2147483629, rfl, rfl, (by show (0 : Int) < 2147483629; decide), _, 48271, rfl, rfl, .inr ⟨by decide, by decide⟩, .int k, rfl, 7919, k, rfl, rfl, .inl ⟨by decide, by decide⟩, .int k, rfl, _, k, rfl, rfl, .inr ⟨by omega, by omega⟩, _, _, rfl, rfl,
      .int k, rfl, 613, k, rfl, rfl, .inl ⟨by decide, by decide⟩, _, _, rfl, rfl, _, 29, rfl, rfl, _, 2147483629, rfl, rfl, (by show (0 : Int) < 2147483629; decide), ?_⟩
    refine ⟨by show 2 ≤ sizeLine; decide, fun p hp => q _ p (same_upd hp) hp ⟨_, _, upd_same, Int.emod_nonneg _ (by decide), ?_⟩⟩
    exact Int.lt_trans (Int.emod_lt_of_pos _ (by decide)) (by decide)
/-! ### _law_take -/
def spTake : Sp := fun vs H Q _ => ∃ (p : Addr) (m : Int), vs = [.ref p, .int m] ∧ Pot H p ∧ 0 < m ∧ m ≤ 1000 ∧ ∀ H' (d : Int), But p H H' → Pot H' p → 0 ≤ d → d < m → Q (.int d) H'
theorem ok_take {f : Addr} {fd : FuncData} {k : Nat} (F : Fun K "_law_take" "_law_take" sTake f fd) : FnOk P w K mg base CX0 (k + 1) f fd ["_law_pot_here", "_law_room"] spTake := by
  refine F.ok scTake (fun vs H Q E h => ?_) (fun cdv A outer s H vs Q E hr h => ?_)
  · obtain ⟨p, m, rfl, _⟩ := h
    rfl
  · obtain ⟨p, m, rfl, ⟨a, b, hp, hb0, hb1⟩, hm0, hm1, q⟩ := h
    refine ⟨_, pss_cons (ps_if (pt_cmpR op_gt (pe_ix ix_list (pv 0) pe_int (fun _ _ => rfl)) pe_int (nomark _))
        (pss_cons (ps_set (i := 2) scTake.nd rfl (.inl rfl) (pe_op op_mod (pe_ix ix_list (pv 0) pe_int (fun _ _ => rfl)) (pv 1)))
          (pss_cons (ps_asg (pe_op op_fdiv (pe_ix ix_list (pv 0) pe_int (fun _ _ => rfl)) (pv 1)) (pg_sub (pv 0) pe_int set_list))
          (pss_one (ps_ret (pv 2))))) pss_nil)
      (pss_cons (ps_asg (pe_op op_mod (pe_op op_add (pe_op op_mul (pe_ix ix_list (pv 0) pe_int (fun _ _ => rfl)) pe_int) pe_int) pe_int) (pg_sub (pv 0) pe_int set_list))
      (pss_one (ps_ret (pe_op op_mod (pe_op op_fdiv (pe_op op_mod (pe_op op_mul (pe_ix ix_list (pv 0) pe_int (fun _ _ => rfl)) (pe_ix ix_list (pv 0) pe_int (fun _ _ => rfl))) pe_int) pe_int) (pv 1))))), ?_⟩
    refine ⟨.ref p, rfl, p, _, 0, .int a, rfl, rfl, SqL.of hp, atI_nat (j := 0) rfl, a, 0, rfl, rfl, _, rfl, ite2 (fun e => ?_) (fun e => ?_)⟩
    · refine ⟨.ref p, rfl, p, _, 0, .int a, rfl, rfl, SqL.of hp, atI_nat (j := 0) rfl, .int m, rfl, a, m, rfl, rfl, hm0, ?_⟩
      refine ⟨.ref p, rfl, p, _, 0, .int a, rfl, rfl, SqL.of hp, atI_nat (j := 0) rfl, .int m, rfl, a, m, rfl, rfl, ⟨hm0, by omega⟩, ?_⟩
      refine ⟨.ref p, rfl, p, _, 0, 0, rfl, rfl, hp, rfl, ?_⟩
      exact ⟨.int (a % m), rfl, q _ _ (But.upd _ _ _) ⟨a / m, b, upd_same, hb0, hb1⟩ (Int.emod_nonneg _ (by omega)) (Int.emod_lt_of_pos _ hm0)⟩
    · refine ⟨.ref p, rfl, p, _, 1, .int b, rfl, rfl, SqL.of hp, atI_nat (j := 1) rfl, b, 39373, rfl, rfl, .inr ⟨by decide, by decide⟩, _, 8191, rfl, rfl, _, 2147483587, rfl, rfl, (by show (0 : Int) < 2147483587; decide), ?_⟩
      refine ⟨.ref p, rfl, p, _, 1, 1, rfl, rfl, hp, rfl, ?_⟩
      have c0 : 0 ≤ (b * 39373 + 8191) % 2147483587 := Int.emod_nonneg _ (by decide)
      have c1 : (b * 39373 + 8191) % 2147483587 < 2147483587 := Int.emod_lt_of_pos _ (by decide)
      refine ⟨.ref p, rfl, p, _, 1, .int ((b * 39373 + 8191) % 2147483587), rfl, rfl, SqL.of upd_same, atI_nat (j := 1) rfl, .ref p, rfl, p, _, 1, .int ((b * 39373 + 8191) % 2147483587), rfl, rfl, SqL.of upd_same, atI_nat (j := 1) rfl,
        (b * 39373 + 8191) % 2147483587, (b * 39373 + 8191) % 2147483587, rfl, rfl, .inl ⟨by omega, by omega⟩, _, 2147483543, rfl, rfl, (by show (0 : Int) < 2147483543; decide), _, 13, rfl, rfl, ⟨by decide, by decide⟩, .int m, rfl, _, m, rfl, rfl, hm0, ?_⟩
      exact q _ _ (But.upd _ _ _) ⟨a, _, upd_same, c0, by omega⟩ (Int.emod_nonneg _ (by omega)) (Int.emod_lt_of_pos _ hm0)
end
theorem at_strs (ys : List Str) (d : Int) (h0 : 0 ≤ d) (h1 : d < (ys.length : Int)) : ∃ y ∈ ys, atI (ys.map V.str) d = some (.str y) := by
  obtain ⟨n, rfl⟩ := Int.eq_ofNat_of_zero_le h0
  have hn : n < ys.length := by omega
  exact ⟨ys[n], List.getElem_mem hn, atI_nat (by rw [List.getElem?_map, List.getElem?_eq_getElem hn]; rfl)⟩
theorem at_ints (ys : List Int) (d : Int) (h0 : 0 ≤ d) (h1 : d < (ys.length : Int)) : ∃ y ∈ ys, atI (ys.map V.int) d = some (.int y) := by
  obtain ⟨n, rfl⟩ := Int.eq_ofNat_of_zero_le h0
  have hn : n < ys.length := by omega
  exact ⟨ys[n], List.getElem_mem hn, atI_nat (by rw [List.getElem?_map, List.getElem?_eq_getElem hn]; rfl)⟩
theorem at_any (ys : List V) (d : Int) (h0 : 0 ≤ d) (h1 : d < (ys.length : Int)) : ∃ y ∈ ys, atI ys d = some y := by
  obtain ⟨n, rfl⟩ := Int.eq_ofNat_of_zero_le h0
  have hn : n < ys.length := by omega
  exact ⟨ys[n], List.getElem_mem hn, atI_nat (List.getElem?_eq_getElem hn)⟩
end WB

set_option Elab.async false
set_option linter.all false
set_option maxRecDepth 100000
set_option maxHeartbeats 4000000
namespace WB
open PySem PySem.Spec PyProof.Rows L2 WG
open TL (tl)
/-! ### plain texts of at most n signs -/
structure Tx (n : Nat) (y : Str) : Prop where
  le : y.length ≤ n
  pl : ∀ c ∈ tl y, c < 256
theorem Tx.mono {n m : Nat} {y : Str} (h : Tx n y) (e : n ≤ m) : Tx m y := ⟨Nat.le_trans h.le e, h.pl⟩
theorem Tx.app {n m : Nat} {x y : Str} (h : Tx n x) (k : Tx m y) : Tx (n + m) (x ++ y) := by
  refine ⟨?_, fun c hc => ?_⟩
  · rw [Str.length_append]
    exact Nat.add_le_add h.le k.le
  · rw [TL.tl_append] at hc
    exact (List.mem_append.mp hc).elim (h.pl c) (k.pl c)
theorem Tx.cut {n : Nat} {x : Str} (h : Tx n x) (lo hi : Option Int) : Tx n (cutS x lo hi) := by
  refine ⟨Nat.le_trans (cutS_length x lo hi) h.le, fun c hc => h.pl c ?_⟩
  have e : c ∈ (x.cps.toList.drop _).take _ := hc
  exact List.mem_of_mem_drop (List.mem_of_mem_take e)
theorem Tx.sign {c : Nat} (h : c < 256) : Tx 1 ⟨#[c]⟩ := by
  refine ⟨Nat.le_refl 1, fun d hd => ?_⟩
  have e : d ∈ [c] := hd
  rw [List.mem_singleton.mp e]
  exact h
theorem Tx.lit (s : String) (n : Nat) (h : (Str.ofString s).length ≤ n) (k : ∀ c ∈ tl (Str.ofString s), c < 256) : Tx n (Str.ofString s) := ⟨h, k⟩
theorem mem_joinL (S : List Nat) : ∀ (ps : List (List Nat)) (c : Nat), c ∈ TL.joinL S ps → c ∈ S ∨ ∃ p ∈ ps, c ∈ p
  | [], c, h => by cases h
  | [p], c, h => .inr ⟨p, List.mem_singleton.mpr rfl, h⟩
  | p :: q :: r, c, h => by
    rcases List.mem_append.mp (show c ∈ p ++ (S ++ TL.joinL S (q :: r)) from h) with h | h
    · exact .inr ⟨p, List.mem_cons_self, h⟩
    · rcases List.mem_append.mp h with h | h
      · exact .inl h
      · rcases mem_joinL S (q :: r) c h with h | ⟨p', hp, hc⟩
        · exact .inl h
        · exact .inr ⟨p', List.mem_cons_of_mem _ hp, hc⟩
theorem sum_most (m : Nat) : ∀ ys : List Str, (∀ y ∈ ys, Tx m y) → (ys.map (·.length)).sum ≤ ys.length * m
  | [], _ => Nat.zero_le _
  | y :: r, h => by
    have h1 := sum_most m r fun z hz => h z (List.mem_cons_of_mem _ hz)
    have h2 := (h y List.mem_cons_self).le
    rw [List.map_cons, List.sum_cons, List.length_cons, Nat.succ_mul]
    omega
theorem Tx.join {sep : Str} {k m n : Nat} {ys : List Str} (hs : Tx k sep) (h : ∀ y ∈ ys, Tx m y) (hn : ys.length * m + ys.length * k ≤ n) : Tx n (Txt.join sep ys) := by
  refine ⟨?_, fun c hc => ?_⟩
  · rw [TL.join_eq]
    have e := StrLaws.join_length_le sep ys
    have e2 := sum_most m ys h
    have e3 : ys.length * sep.length ≤ ys.length * k := Nat.mul_le_mul_left _ hs.le
    omega
  · rw [TL.join_eq, TL.tl_join] at hc
    rcases mem_joinL _ _ c hc with h1 | ⟨p, hp, h1⟩
    · exact hs.pl c h1
    · obtain ⟨y, hy, rfl⟩ := List.mem_map.mp hp
      exact (h y hy).pl c h1
section
variable {P : Program} {w : World} {K : PySem.W.Frag} {mg : Str → Option Value} {base : Heap}
/-! ### _law_name -/
def spDrawn (n : Nat) : Sp := fun vs H Q _ => ∃ p : Addr, vs = [.ref p] ∧ Pot H p ∧ ∀ H' (y : Str), But p H H' → Pot H' p → Tx n y → Q (.str y) H'
def nameSigns : List Str := [Str.ofString "abcdefghijklmnopqrstuvwxyz0123456789-", Str.ofString "abno-", Str.ofString "no-"]
theorem nameSigns_len : ∀ y ∈ nameSigns, 0 < y.length ∧ y.length ≤ 100 ∧ ∀ c ∈ tl y, c < 256 := by decide +kernel
theorem ok_name {f fT : Addr} {fd fdT : FuncData} {k : Nat} (F : Fun K "_law_name" "_law_name" sName f fd) (T : Df K mg "_law_take" sTake ["_law_pot_here", "_law_room"] fT fdT) (mL : mg "len" = none) (mR : mg "range" = none) :
    FnOk P w K mg base CX0 (k + 2) f fd ["_law_pot_here"] (spDrawn 20) := by
  have GT : FnOk P w K mg base CX0 (k + 1) fT fdT ["_law_pot_here", "_law_room"] spTake := ok_take T.F
  refine F.ok scName (fun vs H Q E h => ?_) (fun cdv A outer s H vs Q E hr h => ?_)
  · obtain ⟨p, rfl, _⟩ := h
    rfl
  · obtain ⟨p, rfl, hp, q⟩ := h
    refine ⟨_, pss_cons (ps_set (i := 1) scName.nd rfl (.inl rfl) (pe_ix ix_list (pe_lst (pa_cons pe_str (pa_cons pe_str (pa_cons pe_str pa_nil)))) (pe_call GT hr (by rfl) T.g T.F.kp T.b .nil pass0 (pa_cons (pv 0) (pa_cons pe_int pa_nil))) (fun _ _ => rfl)))
      (pss_cons (ps_set (i := 2) scName.nd rfl (.inl rfl) (pe_op op_add pe_int (pe_call GT hr (by rfl) T.g T.F.kp T.b .nil pass0 (pa_cons (pv 0) (pa_cons (pe_ix ix_list (pe_lst (pa_cons pe_int (pa_cons pe_int pa_nil)))
        (pe_call GT hr (by rfl) T.g T.F.kp T.b .nil pass0 (pa_cons (pv 0) (pa_cons pe_int pa_nil))) (fun _ _ => rfl)) pa_nil)))))
      (pss_cons (ps_set (i := 3) scName.nd rfl (.inl rfl) pe_str)
      (pss_cons (ps_for PassesOwn.never rfl (pi_range1 rfl mR (pa_cons (pv 2) pa_nil)) (pg_name (i := 4) scName.nd rfl (Or.inl rfl))
        (pss_cons (ps_set (i := 5) scName.nd rfl (.inl rfl) (pe_ix ix_str (pv 1) (pe_call GT hr (by rfl) T.g T.F.kp T.b .nil pass0 (pa_cons (pv 0) (pa_cons (pe_callB call_len_str (by rfl) mL PySem.boot_len (pa_cons (pv 1) pa_nil)) pa_nil))) (fun _ _ => rfl)))
        (pss_cons (ps_if (PW.pt (pw_and (pt_cmpR op_eq (pv 5) pe_str (nomark _)) (pw_and1 (pt_cmpR op_in_seq (pv 4) (pe_tup (pa_cons pe_int (pa_cons (pe_op op_sub (pv 2) pe_int) pa_nil))) (by rfl)))))
          (pss_one (ps_set (i := 5) scName.nd rfl (.inl rfl) pe_str)) pss_nil)
        (pss_one (ps_set (i := 3) scName.nd rfl (.inl rfl) (pe_op op_add_str (pv 3) (pv 5)))))))
      (pss_cons (ps_if (pt_cmpR op_eq (pe_slice sl_str (pv 3) po_none (po_some pe_int)) pe_str (nomark _))
        (pss_one (ps_set (i := 3) scName.nd rfl (.inl rfl) (pe_op op_add_str pe_str (pe_slice sl_str (pv 3) (po_some pe_int) po_none)))) pss_nil)
      (pss_one (ps_ret (pv 3))))))), ?_⟩
    refine ⟨by decide +kernel, fun l1 n1 => ?_⟩
    have p1 := hp.new (o := .lst (nameSigns.map V.str)) n1
    have nl1 := hp.ne n1
    refine ⟨.ref p, rfl, p, 3, rfl, p1, by decide, by decide, fun H2 d2 b2 p2 d20 d21 => ?_⟩
    obtain ⟨z, hzm, hze⟩ := at_strs nameSigns d2 d20 (by show d2 < 3; exact d21)
    obtain ⟨hz0, hz1, hz2⟩ := nameSigns_len z hzm
    refine ⟨l1, _, d2, .str z, rfl, rfl, SqL.of (b2 _ _ nl1.symm upd_same), hze, .ref p, rfl, by decide +kernel, fun l2 n2 => ?_⟩
    have p3 := p2.new (o := .lst ([(3 : Int), 10].map V.int)) n2
    have nl2 := p2.ne n2
    refine ⟨.ref p, rfl, p, 2, rfl, p3, by decide, by decide, fun H4 d4 b4 p4 d40 d41 => ?_⟩
    obtain ⟨mo, mom, moe⟩ := at_ints [(3 : Int), 10] d4 d40 (by show d4 < 2; exact d41)
    have hmo : 0 < mo ∧ mo ≤ 10 := (by decide : ∀ y ∈ [(3 : Int), 10], 0 < y ∧ y ≤ 10) mo mom
    refine ⟨l2, _, d4, .int mo, rfl, rfl, SqL.of (b4 _ _ nl2.symm upd_same), moe, p, mo, rfl, p4, hmo.1, by omega, fun H5 d5 b5 p5 d50 d51 => ?_⟩
    refine ⟨1, d5, rfl, rfl, ?_⟩
    have bb : But p H H5 := ((((But.new n1).trans b2).trans (But.new n2)).trans b4).trans b5
    refine ⟨.int (1 + d5), rfl, _, rfl, by omega, by omega, for_range (lo := 0) (n := (1 + d5).toNat) (fun i σ H' => But p H5 H' ∧ Pot H' p ∧ ∃ (x : Str) (x4 x5 : Option V), σ = [some (.ref p), some (.str z), some (.int (1 + d5)), some (.str x), x4, x5] ∧ Tx i x)
      ⟨But.refl _ _, p5, Str.ofString "", none, none, rfl, Tx.lit "" 0 (by decide +kernel) (by decide +kernel)⟩ ?_ ?_⟩
    · rintro i σ H6 hi ⟨b6, p6, x, x4, x5, rfl, hx⟩
      have hzl : z.length ≤ sizeLine := Nat.le_trans hz1 (by decide)
      refine ⟨.str z, rfl, .ref p, rfl, .str z, rfl, z, rfl, hzl, p, z.length, rfl, p6, by omega, by omega, fun H7 j b7 p7 j0 j1 => ?_⟩
      obtain ⟨n, rfl⟩ := Int.eq_ofNat_of_zero_le j0
      have hn : n < z.cps.toList.length := by
        have e : z.cps.toList.length = z.length := by simp [Str.length]
        omega
      refine ⟨z, n, z.cps.toList[n], rfl, rfl, hzl, atI_nat (List.getElem?_eq_getElem hn), ?_⟩
      have fin : ∀ (H8 : Hp) (c : Str), But p H7 H8 → Pot H8 p → Tx 1 c → (tAsg (tOp (fun x y H Q => ∃ i j, x = .str i ∧ y = .str j ∧ i.length + j.length ≤ sizeLine ∧ Q (.str (i ++ j)) H) (tVar 3) (tVar 5)) (gName 3)) { nx := fun σ H' => But p H5 H' ∧ Pot H' p ∧ ∃ (x : Str) (x4 x5 : Option V), σ = [some (.ref p), some (.str z), some (.int (1 + d5)), some (.str x), x4, x5] ∧ Tx (i + 1) x, rt := Q }
          [some (.ref p), some (.str z), some (.int (1 + d5)), some (.str x), some (.int (0 + (i : Int))), some (.str c)] H8 := by
        intro H8 c b8 p8 hc
        refine ⟨_, rfl, _, rfl, x, c, rfl, rfl, ?_, (b6.trans b7).trans b8, p8, x ++ c, _, _, rfl, hx.app hc⟩
        have h1 := hx.le
        have h2 := hc.le
        exact Nat.le_of_lt (small1000 (by omega))
      refine ⟨_, rfl, rfl, _, rfl, ite2 (fun e => ?_) (fun e => ?_)⟩
      · refine ⟨_, rfl, .int (1 + d5), rfl, _, _, rfl, rfl, by show 2 ≤ sizeLine; decide, fun t nt => ?_⟩
        refine ⟨t, _, rfl, .inr (SqT.of upd_same), rfl, rfl, _, rfl, ite2 (fun e2 => ?_) (fun e2 => ?_)⟩
        · exact fin _ _ (But.new nt) (p7.new nt) (Tx.lit "e" 1 (by decide +kernel) (by decide +kernel))
        · exact fin _ _ (But.new nt) (p7.new nt) (Tx.sign (hz2 _ (List.getElem_mem hn)))
      · exact fin _ _ (But.refl _ _) p7 (Tx.sign (hz2 _ (List.getElem_mem hn)))
    · rintro σ H6 ⟨b6, p6, x, x4, x5, rfl, hx⟩
      have hxl : x.length ≤ 11 := by
        have := hx.le
        omega
      have hx11 : Tx 11 x := ⟨hxl, hx.pl⟩
      refine ⟨_, rfl, 3, rfl, x, rfl, Nat.le_trans hxl (by decide), rfl, _, rfl, ite2 (fun e => ?_) (fun e => ?_)⟩
      · refine ⟨_, rfl, 1, rfl, x, rfl, Nat.le_trans hxl (by decide), _, _, rfl, rfl, ?_, _, rfl, q _ _ (bb.trans b6) p6 (((Tx.lit "m" 1 (by decide +kernel) (by decide +kernel)).app (hx11.cut (some 1) none)).mono (by decide))⟩
        have := cutS_length x (some 1) none
        exact Nat.le_of_lt (small1000 (by rw [show (Str.ofString "m").length = 1 from by decide +kernel]; omega))
      · exact ⟨_, rfl, q _ _ (bb.trans b6) p6 (hx11.mono (by decide))⟩
/-! ### _law_signs -/
def allSigns : Str := Str.ofString "!\"#$&'()*+,-./0123456789:;<=>?@ABCDEFGHIJKLMNOPQRSTUVWXYZ[\\]^_`abcdefghijklmnopqrstuvwxyz{|}~"
theorem allSigns_len : 0 < allSigns.length ∧ allSigns.length ≤ 100 ∧ ∀ c ∈ tl allSigns, c < 256 := by decide +kernel
def spSigns : Sp := fun vs H Q _ => ∃ (p : Addr) (m : Int), vs = [.ref p, .int m] ∧ Pot H p ∧ 0 < m ∧ m ≤ 100 ∧ ∀ H' (y : Str), But p H H' → Pot H' p → Tx m.toNat y → Q (.str y) H'
theorem ok_signs {f fT : Addr} {fd fdT : FuncData} {k : Nat} (F : Fun K "_law_signs" "_law_signs" sSigns f fd) (T : Df K mg "_law_take" sTake ["_law_pot_here", "_law_room"] fT fdT) (mL : mg "len" = none) (mR : mg "range" = none) :
    FnOk P w K mg base CX0 (k + 2) f fd ["_law_pot_here", "_law_most"] spSigns := by
  have GT : FnOk P w K mg base CX0 (k + 1) fT fdT ["_law_pot_here", "_law_room"] spTake := ok_take T.F
  refine F.ok scSigns (fun vs H Q E h => ?_) (fun cdv A outer s H vs Q E hr h => ?_)
  · obtain ⟨p, m, rfl, _⟩ := h
    rfl
  · obtain ⟨p, m, rfl, hp, hm0, hm1, q⟩ := h
    refine ⟨_, pss_cons (ps_set (i := 2) scSigns.nd rfl (.inr rfl) pe_str) (pss_one (ps_ret (pe_join pe_str (pe_lc (own := [("_law_k", 3)]) (g := gName 3) (tt := tYes) rfl scSigns.nd
      (pi_range1 rfl mR (pa_cons (pe_op op_add pe_int (pe_call GT hr (by rfl) T.g T.F.kp T.b .nil pass0 (pa_cons (pv 0) (pa_cons (pv 1) pa_nil)))) pa_nil))
      (blkOk_by (N := ["_law_pot_here", "_law_most", "_law_signs_here", "_law_k"]) (sc := defScope sSigns) (by decide +kernel))
      (fun _ _ _ _ _ => pg_name (i := 3) scSigns.nd rfl (Or.inl rfl)) (fun _ _ _ _ _ => pts_nil)
      (fun _ _ _ _ _ => pe_ix ix_str (pv 2) (pe_call GT hr (by rfl) T.g T.F.kp T.b .nil pass0 (pa_cons (pv 0) (pa_cons (pe_callB call_len_str (by rfl) mL PySem.boot_len (pa_cons (pv 2) pa_nil)) pa_nil))) (fun _ _ => rfl)))))), ?_⟩
    obtain ⟨hz0, hz1, hz2⟩ := allSigns_len
    refine ⟨⟨_, rfl⟩, .ref p, rfl, .int m, rfl, p, m, rfl, hp, hm0, by omega, fun H1 d b1 p1 d0 d1 => ?_⟩
    refine ⟨1, d, rfl, rfl, 1 + d, rfl, by omega, by omega, fun T' nT => ?_⟩
    have npT : p ≠ T' := p1.ne nT
    refine lc_range (lo := 0) (n := (1 + d).toNat) (fun i Hc => But p H1 Hc ∧ Pot Hc p ∧ ∃ ys : List Str, Hc T' = some (.lst (ys.map V.str)) ∧ ys.length = i ∧ ∀ y ∈ ys, Tx 1 y)
      ⟨But.new nT, p1.new nT, [], upd_same, rfl, fun y hy => by cases hy⟩ (fun i Hc hi ⟨bc, pc, ys, eT, el, e1⟩ => ?_) (fun Hc ⟨bc, pc, ys, eT, el, e1⟩ => ?_)
    · refine ⟨rfl, ?_⟩
      have hzl : allSigns.length ≤ sizeLine := Nat.le_trans hz1 (by decide)
      refine ⟨.str allSigns, rfl, .ref p, rfl, .str allSigns, rfl, allSigns, rfl, hzl, p, allSigns.length, rfl, pc, by omega, by omega, fun H4 j b4 p4 j0 j1 => ?_⟩
      obtain ⟨n, rfl⟩ := Int.eq_ofNat_of_zero_le j0
      have hn : n < allSigns.cps.toList.length := by
        have e : allSigns.cps.toList.length = allSigns.length := by simp [Str.length]
        omega
      have eT4 : H4 T' = some (.lst (ys.map V.str)) := b4 T' _ npT.symm eT
      refine ⟨allSigns, n, allSigns.cps.toList[n], rfl, rfl, hzl, atI_nat (List.getElem?_eq_getElem hn), ys.map V.str, eT4, ?_, ?_, ?_, ys ++ [⟨#[allSigns.cps.toList[n]]⟩], ?_, ?_, ?_⟩
      · rw [List.length_map, el]
        exact small1000 (by omega)
      · exact fun b o nb e => by
          rw [upd_ne (ne_of_none e nT)]
          exact b4 b o nb (bc b o nb e)
      · obtain ⟨x, y, e, h1, h2⟩ := p4
        refine ⟨x, y, ?_, h1, h2⟩
        rw [upd_ne npT]
        exact e
      · rw [upd_same, List.map_append]
        rfl
      · rw [List.length_append, el]
        rfl
      · intro y hy
        rcases List.mem_append.mp hy with hy | hy
        · exact e1 y hy
        · rw [List.mem_singleton.mp hy]
          exact Tx.sign (hz2 _ (List.getElem_mem hn))
    · have e0 : (Str.ofString "").length = 0 := by decide +kernel
      have es := sum_most 1 ys e1
      refine ⟨_, T', ys, rfl, rfl, .inl (SqL.of eT), ?_, q _ _ (b1.trans bc) pc ?_⟩
      · rw [e0]
        omega
      · exact Tx.join (Tx.lit "" 0 (by decide +kernel) (by decide +kernel)) e1 (by omega)
/-! ### _law_about -/
theorem ok_about {f fT fS : Addr} {fd fdT fdS : FuncData} {k : Nat} (F : Fun K "_law_about" "_law_about" sAbout f fd) (T : Df K mg "_law_take" sTake ["_law_pot_here", "_law_room"] fT fdT) (S : Df K mg "_law_signs" sSigns ["_law_pot_here", "_law_most"] fS fdS)
    (mL : mg "len" = none) (mR : mg "range" = none) : FnOk P w K mg base CX0 (k + 3) f fd ["_law_pot_here"] (spDrawn 300) := by
  have GT : FnOk P w K mg base CX0 (k + 2) fT fdT ["_law_pot_here", "_law_room"] spTake := ok_take T.F
  have GS : FnOk P w K mg base CX0 (k + 2) fS fdS ["_law_pot_here", "_law_most"] spSigns := ok_signs S.F T mL mR
  refine F.ok scAbout (fun vs H Q E h => ?_) (fun cdv A outer s H vs Q E hr h => ?_)
  · obtain ⟨p, rfl, _⟩ := h
    rfl
  · obtain ⟨p, rfl, hp, q⟩ := h
    refine ⟨_, pss_cons (ps_set (i := 1) scAbout.nd rfl (.inl rfl) (pe_call GT hr (by rfl) T.g T.F.kp T.b .nil pass0 (pa_cons (pv 0) (pa_cons pe_int pa_nil))))
      (pss_cons (ps_if (pt_cmpR op_eq (pv 1) pe_int (nomark _)) (pss_one (ps_ret pe_str)) pss_nil)
      (pss_cons (ps_if (pt_cmpR op_eq (pv 1) pe_int (nomark _)) (pss_one (ps_ret (pe_op op_mul_str (pe_call GS hr (by rfl) S.g S.F.kp S.b .nil pass0 (pa_cons (pv 0) (pa_cons pe_int pa_nil))) pe_int))) pss_nil)
      (pss_one (ps_ret (pe_join pe_str (pe_lc (own := [("_law_k", 2)]) (g := gName 2) (tt := tYes) rfl scAbout.nd
      (pi_range1 rfl mR (pa_cons (pe_op op_add pe_int (pe_call GT hr (by rfl) T.g T.F.kp T.b .nil pass0 (pa_cons (pv 0) (pa_cons pe_int pa_nil)))) pa_nil))
      (blkOk_by (N := ["_law_pot_here", "_law_way", "_law_k"]) (sc := defScope sAbout) (by decide +kernel))
      (fun _ _ _ _ _ => pg_name (i := 2) scAbout.nd rfl (Or.inl rfl)) (fun _ _ _ _ _ => pts_nil)
      (fun _ _ _ _ _ => pe_call GS hr (by rfl) S.g S.F.kp S.b .nil pass0 (pa_cons (pv 0) (pa_cons pe_int pa_nil))))))))), ?_⟩
    refine ⟨.ref p, rfl, p, 6, rfl, hp, by decide, by decide, fun H1 d1 b1 p1 d10 d11 => ?_⟩
    refine ⟨_, rfl, rfl, _, rfl, ite2 (fun e => q _ _ b1 p1 (Tx.lit "" _ (by decide +kernel) (by decide +kernel))) (fun e => ?_)⟩
    refine ⟨_, rfl, rfl, _, rfl, ite2 (fun e => ?_) (fun e => ?_)⟩
    · refine ⟨.ref p, rfl, p, 1, rfl, p1, by decide, by decide, fun H2 y b2 p2 hy => ?_⟩
      have hy1 : y.length ≤ 1 := hy.le
      exact ⟨y, 200, rfl, rfl, by decide, by omega, fun z hz hc => q _ _ (b1.trans b2) p2 ⟨by omega, fun c h => hy.pl c (hc c h)⟩⟩
    · refine ⟨⟨_, rfl⟩, .ref p, rfl, p, 12, rfl, p1, by decide, by decide, fun H2 d2 b2 p2 d20 d21 => ?_⟩
      refine ⟨1, d2, rfl, rfl, 1 + d2, rfl, by omega, by omega, fun T' nT => ?_⟩
      have npT : p ≠ T' := p2.ne nT
      refine lc_range (lo := 0) (n := (1 + d2).toNat) (fun i Hc => But p H2 Hc ∧ Pot Hc p ∧ ∃ ys : List Str, Hc T' = some (.lst (ys.map V.str)) ∧ ys.length = i ∧ ∀ y ∈ ys, Tx 15 y)
        ⟨But.new nT, p2.new nT, [], upd_same, rfl, fun y hy => by cases hy⟩ (fun i Hc hi ⟨bc, pc, ys, eT, el, e1⟩ => ?_) (fun Hc ⟨bc, pc, ys, eT, el, e1⟩ => ?_)
      · refine ⟨rfl, ?_⟩
        refine ⟨.ref p, rfl, p, 15, rfl, pc, by decide, by decide, fun H4 y b4 p4 hy => ?_⟩
        have eT4 : H4 T' = some (.lst (ys.map V.str)) := b4 T' _ npT.symm eT
        refine ⟨ys.map V.str, eT4, ?_, ?_, ?_, ys ++ [y], ?_, ?_, ?_⟩
        · rw [List.length_map, el]
          exact small1000 (by omega)
        · exact fun b o nb e => by
            rw [upd_ne (ne_of_none e nT)]
            exact b4 b o nb (bc b o nb e)
        · obtain ⟨x, y, e, h1, h2⟩ := p4
          refine ⟨x, y, ?_, h1, h2⟩
          rw [upd_ne npT]
          exact e
        · rw [upd_same, List.map_append]
          rfl
        · rw [List.length_append, el]
          rfl
        · intro z hz
          rcases List.mem_append.mp hz with hz | hz
          · exact e1 z hz
          · rw [List.mem_singleton.mp hz]
            exact hy
      · have e0 : (Str.ofString " ").length = 1 := by decide +kernel
        have es := sum_most 15 ys e1
        refine ⟨_, T', ys, rfl, rfl, .inl (SqL.of eT), ?_, q _ _ ((b1.trans b2).trans bc) pc ?_⟩
        · rw [e0]
          omega
        · exact Tx.join (Tx.lit " " 1 (by decide +kernel) (by decide +kernel)) e1 (by omega)
/-! ### _law_text -/
theorem ok_text {f fT fS : Addr} {fd fdT fdS : FuncData} {k : Nat} (F : Fun K "_law_text" "_law_text" sText f fd) (T : Df K mg "_law_take" sTake ["_law_pot_here", "_law_room"] fT fdT) (S : Df K mg "_law_signs" sSigns ["_law_pot_here", "_law_most"] fS fdS)
    (mL : mg "len" = none) (mR : mg "range" = none) : FnOk P w K mg base CX0 (k + 3) f fd ["_law_pot_here"] (spDrawn 60) := by
  have GT : FnOk P w K mg base CX0 (k + 2) fT fdT ["_law_pot_here", "_law_room"] spTake := ok_take T.F
  have GS : FnOk P w K mg base CX0 (k + 2) fS fdS ["_law_pot_here", "_law_most"] spSigns := ok_signs S.F T mL mR
  refine F.ok scText (fun vs H Q E h => ?_) (fun cdv A outer s H vs Q E hr h => ?_)
  · obtain ⟨p, rfl, _⟩ := h
    rfl
  · obtain ⟨p, rfl, hp, q⟩ := h
    refine ⟨_, pss_cons (ps_set (i := 1) scText.nd rfl (.inl rfl) (pe_call GT hr (by rfl) T.g T.F.kp T.b .nil pass0 (pa_cons (pv 0) (pa_cons pe_int pa_nil))))
      (pss_cons (ps_if (pt_cmpR op_eq (pv 1) pe_int (nomark _)) (pss_one (ps_ret pe_str)) pss_nil)
      (pss_cons (ps_if (pt_cmpR op_eq (pv 1) pe_int (nomark _)) (pss_one (ps_ret (pe_op op_mul_str (pe_call GS hr (by rfl) S.g S.F.kp S.b .nil pass0 (pa_cons (pv 0) (pa_cons pe_int pa_nil))) pe_int))) pss_nil)
      (pss_one (ps_ret (pe_op op_add_str (pe_op op_add_str (pe_op op_mul_str pe_str (pe_call GT hr (by rfl) T.g T.F.kp T.b .nil pass0 (pa_cons (pv 0) (pa_cons pe_int pa_nil))))
        (pe_call GS hr (by rfl) S.g S.F.kp S.b .nil pass0 (pa_cons (pv 0) (pa_cons pe_int pa_nil)))) (pe_op op_mul_str pe_str (pe_call GT hr (by rfl) T.g T.F.kp T.b .nil pass0 (pa_cons (pv 0) (pa_cons pe_int pa_nil))))))))), ?_⟩
    have e1 : (Str.ofString " ").length = 1 := by decide +kernel
    refine ⟨.ref p, rfl, p, 5, rfl, hp, by decide, by decide, fun H1 d1 b1 p1 d10 d11 => ?_⟩
    refine ⟨_, rfl, rfl, _, rfl, ite2 (fun e => q _ _ b1 p1 (Tx.lit "" _ (by decide +kernel) (by decide +kernel))) (fun e => ?_)⟩
    refine ⟨_, rfl, rfl, _, rfl, ite2 (fun e => ?_) (fun e => ?_)⟩
    · refine ⟨.ref p, rfl, p, 1, rfl, p1, by decide, by decide, fun H2 y b2 p2 hy => ?_⟩
      have hy1 : y.length ≤ 1 := hy.le
      exact ⟨y, 60, rfl, rfl, by decide, by omega, fun z hz hc => q _ _ (b1.trans b2) p2 ⟨by omega, fun c h => hy.pl c (hc c h)⟩⟩
    · refine ⟨.ref p, rfl, p, 2, rfl, p1, by decide, by decide, fun H2 d2 b2 p2 d20 d21 => ?_⟩
      obtain ⟨n2, rfl⟩ := Int.eq_ofNat_of_zero_le d20
      refine ⟨_, n2, rfl, rfl, by omega, by rw [e1]; decide, fun z2 hz2 hc2 => ?_⟩
      refine ⟨.ref p, rfl, p, 40, rfl, p2, by decide, by decide, fun H3 y b3 p3 hy => ?_⟩
      rw [e1] at hz2
      have bl : ∀ c ∈ tl (Str.ofString " "), c < 256 := by decide +kernel
      have t2 : Tx 1 z2 := ⟨by omega, fun c h => bl c (hc2 c h)⟩
      have hy1 : y.length ≤ 40 := hy.le
      refine ⟨z2, y, rfl, rfl, Nat.le_of_lt (small1000 (by omega)), ?_⟩
      refine ⟨.ref p, rfl, p, 2, rfl, p3, by decide, by decide, fun H4 d4 b4 p4 d40 d41 => ?_⟩
      obtain ⟨n4, rfl⟩ := Int.eq_ofNat_of_zero_le d40
      refine ⟨_, n4, rfl, rfl, by omega, by rw [e1]; decide, fun z4 hz4 hc4 => ?_⟩
      rw [e1] at hz4
      have t4 : Tx 1 z4 := ⟨by omega, fun c h => bl c (hc4 c h)⟩
      refine ⟨z2 ++ y, z4, rfl, rfl, ?_, q _ _ (((b1.trans b2).trans b3).trans b4) p4 (((t2.app hy).app t4).mono (by decide))⟩
      rw [Str.length_append]
      exact Nat.le_of_lt (small1000 (by omega))
end
end WB

set_option Elab.async false
set_option linter.all false
set_option maxRecDepth 100000
set_option maxHeartbeats 4000000
namespace WB
open PySem PySem.Spec PyProof.Rows L2 WG
open TL (tl)
/-! ### things that may be handed in -/
def isS : V → Bool
  | .str _ => true
  | _ => false
inductive Odd : HO → Prop
  | l0 : Odd (.lst [])
  | l1 {z : Str} (h : Tx 20 z) : Odd (.lst [.str z])
  | t0 : Odd (.tup [])
  | t1 {z : Str} (h : Tx 20 z) : Odd (.tup [.str z])
  | d0 : Odd (.dK [])
  | d1 {x : Str} {i : Int} (h : Tx 20 x) (h0 : 0 ≤ i) (h1 : i ≤ 1000) : Odd (.dK [(Sum.inr x, .int i)])
inductive Thg (H : Hp) : V → Prop
  | non : Thg H .non
  | bl (b : Bool) : Thg H (.bl b)
  | int {i : Int} (h0 : 0 ≤ i) (h1 : i ≤ 1000) : Thg H (.int i)
  | str {z : Str} (h : Tx 300 z) : Thg H (.str z)
  | odd {a : Addr} {o : HO} (e : H a = some o) (h : Odd o) : Thg H (.ref a)
theorem Thg.same {H H' : Hp} {v : V} (h : Thg H v) (s : Same H H') : Thg H' v := by
  cases h with
  | non => exact .non
  | bl b => exact .bl b
  | int h0 h1 => exact .int h0 h1
  | str h => exact .str h
  | odd e h => exact .odd (s _ _ e) h
theorem Odd.ne {xs : List V} (h : Odd (.lst xs)) : xs.length ≤ 1 := by
  cases h with
  | l0 => exact Nat.zero_le _
  | l1 _ => exact Nat.le_refl _
/-- isinstance(v, str) -/
theorem Thg.isi {K : PySem.W.Frag} {H : Hp} {v : V} (h : Thg H v) : ∃ t : Value, TyX K H v t ∧ PySem.W.kitOne K t (.type "str") = some (isS v) := by
  cases h with
  | non => exact ⟨_, .base .non, kit_ty (show kitB "NoneType" "str" = some false from by decide +kernel)⟩
  | bl b => exact ⟨_, .base (.bl b), kit_ty (show kitB "bool" "str" = some false from by decide +kernel)⟩
  | int _ _ => exact ⟨_, .base (.int _), kit_ty (show kitB "int" "str" = some false from by decide +kernel)⟩
  | str _ => exact ⟨_, .base (.str _), kit_ty (show kitB "str" "str" = some true from by decide +kernel)⟩
  | odd e h =>
    cases h with
    | l0 => exact ⟨_, .base (.lst e), kit_ty (show kitB "list" "str" = some false from by decide +kernel)⟩
    | l1 _ => exact ⟨_, .base (.lst e), kit_ty (show kitB "list" "str" = some false from by decide +kernel)⟩
    | t0 => exact ⟨_, .base (.tup e), kit_ty (show kitB "tuple" "str" = some false from by decide +kernel)⟩
    | t1 _ => exact ⟨_, .base (.tup e), kit_ty (show kitB "tuple" "str" = some false from by decide +kernel)⟩
    | d0 => exact ⟨_, .base (.dK e), kit_ty (show kitB "dict" "str" = some false from by decide +kernel)⟩
    | d1 _ _ _ => exact ⟨_, .base (.dK e), kit_ty (show kitB "dict" "str" = some false from by decide +kernel)⟩
theorem Thg.tx {H : Hp} {z : Str} (h : Thg H (.str z)) : Tx 300 z := by
  cases h with
  | str h => exact h
/-- its data -/
theorem repr_tx {n : Nat} {z : Str} (h : Tx n z) : (reprText z).length ≤ 10 * n + 2 := by
  have e := StrLaws.reprText_len z (fun c hc => Nat.lt_trans (h.pl c hc) (by decide))
  have := h.le
  omega
/-! ### the mathematics of names and abouts -/
def nameSet : Str := Str.ofString "abcdefghijklmnopqrstuvwxyz0123456789-"
def nm (cs : List Nat) : Bool := decide (cs ≠ []) && decide (cs.length ≤ 10) && !decide (cs.take 1 = [45]) && !decide (cs.getLast? = some 45) && !decide (cs.take 3 = [110, 111, 45]) && cs.all fun c => decide (c ∈ tl nameSet)
def isNm : V → Bool
  | .str z => nm (tl z)
  | _ => false
def ab (z : Str) : Bool := decide (z.length ≤ 200) && (decide (z = Str.ofString "") || !inV (.str (Str.ofString "")) ((Txt.split z (Str.ofString " ")).map V.str))
def isAb : V → Bool
  | .str z => ab z
  | _ => false
theorem starts (x y : Str) : Txt.startswith x y = ((tl x).take (tl y).length == tl y) := by
  unfold Txt.startswith
  rw [StrLaws.subAt_eq, List.drop_zero, TL.len_tl y]
  by_cases h : (tl y).length ≤ (tl x).length
  · have e : decide (0 + (tl y).length ≤ x.length) = true := decide_eq_true (by rw [TL.len_tl x]; omega)
    rw [e, Bool.true_and]
  · have e : decide (0 + (tl y).length ≤ x.length) = false := decide_eq_false (by rw [TL.len_tl x]; omega)
    rw [e, Bool.false_and]
    cases q : ((tl x).take (tl y).length == tl y) with
    | false => rfl
    | true =>
      have z := congrArg List.length (eq_of_beq q)
      rw [List.length_take] at z
      omega
theorem starts_lit (x : Str) (s : String) {l : List Nat} (hl : tl (Str.ofString s) = l) : Txt.startswith x (Str.ofString s) = decide ((tl x).take l.length = l) := by
  rw [starts, hl]
  cases q : ((tl x).take l.length == l) with
  | true => exact (decide_eq_true (eq_of_beq q)).symm
  | false => exact (decide_eq_false (fun e => by rw [e] at q; simp at q)).symm
theorem drop_last {l : List Nat} (h : l ≠ []) : l.drop (l.length - 1) = [l.getLast h] := by
  have e := List.dropLast_concat_getLast h
  have hl : l.length - 1 = l.dropLast.length := by rw [List.length_dropLast]
  rw [hl]
  conv => lhs; rw [← e]
  rw [List.dropLast_concat, List.drop_left]
theorem ends_dash (x : Str) : Txt.endswith x (Str.ofString "-") = decide ((tl x).getLast? = some 45) := by
  unfold Txt.endswith
  have e1 : (Str.ofString "-").length = 1 := by decide +kernel
  have e2 : (Str.ofString "-").cps.toList = [45] := by decide +kernel
  rw [StrLaws.subAt_eq, e1, e2, TL.len_tl x]
  cases hx : tl x with
  | nil => rfl
  | cons c r =>
    have hx' : x.cps.toList = c :: r := hx
    rw [hx']
    have e3 : decide (0 + 1 ≤ (c :: r).length) = true := decide_eq_true (by rw [List.length_cons]; omega)
    rw [e3, Bool.true_and]
    have e4 : ((c :: r).drop ((c :: r).length - 1)).take 1 = [(c :: r).getLast (List.cons_ne_nil c r)] := by
      rw [drop_last (List.cons_ne_nil c r)]
      rfl
    rw [e4, List.getLast?_eq_getLast (List.cons_ne_nil c r)]
    cases q : ([(c :: r).getLast (List.cons_ne_nil c r)] == [45]) with
    | true =>
      have := eq_of_beq q
      injection this with a b
      rw [a]
      rfl
    | false =>
      refine (decide_eq_false fun e => ?_).symm
      rw [Option.some.inj e] at q
      cases q
theorem eq_lit (x : Str) (s : String) : (V.str x = V.str (Str.ofString s)) ↔ tl x = tl (Str.ofString s) := by
  constructor
  · intro h
    rw [V.str.inj h]
  · intro h
    rw [TL.ext_tl h]
theorem dec_lit (x : Str) (s : String) {l : List Nat} (hl : tl (Str.ofString s) = l) : decide (V.str x = V.str (Str.ofString s)) = decide (tl x = l) := by
  rw [← hl]
  exact decide_eq_decide.mpr (eq_lit x s)
theorem cut3 (z : Str) : tl (cutS z none (some 3)) = (tl z).take 3 := by
  show ((z.cps.toList.drop (HT.sIx z.length 0 none)).take (HT.sIx z.length z.length (some 3) - HT.sIx z.length 0 none)) = _
  rw [HT.sIx_none, show HT.sIx z.length z.length (some 3) = min 3 z.length from HT.sIx_nat z.length z.length 3, List.drop_zero, Nat.sub_zero]
  rw [TL.len_tl z]
  rw [← List.take_take, List.take_length]
end WB

set_option Elab.async false
set_option linter.all false
set_option maxRecDepth 100000
set_option maxHeartbeats 4000000
namespace WB
open PySem PySem.Spec PyProof.Rows L2 WG
open TL (tl)
abbrev st_is_text_within : Stmt := topS 7
theorem sc_is_text_within : FnScope ["value", "most"] ["value", "most"] (defScope st_is_text_within) := ⟨rfl, rfl, rfl, by decide +kernel, rfl, by decide +kernel, by decide +kernel⟩
abbrev st_is_name : Stmt := topS 8
theorem sc_is_name : FnScope ["value", "sign"] ["value"] (defScope st_is_name) := ⟨rfl, rfl, rfl, by decide +kernel, rfl, by decide +kernel, by decide +kernel⟩
abbrev st_is_about : Stmt := topS 10
theorem sc_is_about : FnScope ["value"] ["value"] (defScope st_is_about) := ⟨rfl, rfl, rfl, by decide +kernel, rfl, by decide +kernel, by decide +kernel⟩
abbrev st_is_among : Stmt := topS 11
theorem sc_is_among : FnScope ["value", "texts"] ["value", "texts"] (defScope st_is_among) := ⟨rfl, rfl, rfl, by decide +kernel, rfl, by decide +kernel, by decide +kernel⟩
abbrev st_is_default : Stmt := topS 12
theorem sc_is_default : FnScope ["value", "allowed"] ["value", "allowed"] (defScope st_is_default) := ⟨rfl, rfl, rfl, by decide +kernel, rfl, by decide +kernel, by decide +kernel⟩
abbrev st_is_short_or_empty : Stmt := topS 9
theorem sc_is_short_or_empty : FnScope ["value"] ["value"] (defScope st_is_short_or_empty) := ⟨rfl, rfl, rfl, by decide +kernel, rfl, by decide +kernel, by decide +kernel⟩
abbrev st_is_truth : Stmt := topS 13
theorem sc_is_truth : FnScope ["value", "allowed"] ["value", "allowed"] (defScope st_is_truth) := ⟨rfl, rfl, rfl, by decide +kernel, rfl, by decide +kernel, by decide +kernel⟩
section
variable {P : Program} {w : World} {K : PySem.W.Frag} {mg : Str → Option Value} {base : Heap}
/-! ### is_text_within -/
def within (v : V) (m : Int) : Bool := match v with
  | .str z => decide ((z.length : Int) ≤ m)
  | _ => false
def spWithin : Sp := fun vs H Q _ => ∃ (v : V) (m : Int), vs = [v, .int m] ∧ Thg H v ∧ Q (.bl (within v m)) H
theorem ok_within {f : Addr} {fd : FuncData} {k : Nat} (F : Fun K "is_text_within" "is_text_within" st_is_text_within f fd) (m_len : mg "len" = none) (m_str : mg "str" = none) (m_isinstance : mg "isinstance" = none) :
    FnOk P w K mg base CX0 (k + 1) f fd ["value", "most"] spWithin := by
  refine F.ok sc_is_text_within (fun vs H Q E h => ?_) (fun cdv A outer s H vs Q E hr h => ?_)
  · obtain ⟨v, m, rfl, _⟩ := h
    rfl
  · obtain ⟨v, m, rfl, hv, q⟩ := h
    refine ⟨_, pss_one (ps_ret (pe_and (pe_callB call_isi (by rfl) m_isinstance (by decide +kernel) (pa_cons (pv 0) (pa_cons (pe_bltn (v := .ty "str") (by rfl) m_str (by decide +kernel) rfl) pa_nil))) (pe_one (pe_cmpR op_le (pe_callB call_len_str (by rfl) m_len PySem.boot_len (pa_cons (pv 0) pa_nil)) (pv 1) (nomark _))))), ?_⟩
    obtain ⟨t, ht, hk⟩ := hv.isi (K := K)
    refine ⟨v, rfl, v, _, t, _, isS v, rfl, ClsV.ty "str", ht, hk, _, rfl, ?_⟩
    cases v with
    | str z =>
      exact ⟨_, rfl, z, rfl, Nat.le_trans hv.tx.le (by decide), _, rfl, _, _, rfl, rfl, q⟩
    | _ => exact q
/-! ### is_name -/
def spOf (g : V → Bool) : Sp := fun vs H Q _ => ∃ v : V, vs = [v] ∧ Thg H v ∧ ∀ H', Same H H' → Q (.bl (g v)) H'
theorem ok_isName {f fW : Addr} {fd fdW : FuncData} {k : Nat} {u1 u2 : Tok} (F : Fun K "is_name" "is_name" st_is_name f fd) (D_is_text_within : Df K mg "is_text_within" st_is_text_within ["value", "most"] fW fdW)
    (m_len : mg "len" = none) (m_str : mg "str" = none) (m_isinstance : mg "isinstance" = none) (m_all : mg "all" = none) (c_MOST_NAME_SIGNS : mg "MOST_NAME_SIGNS" = some (.int 10 u1)) (c_NAME_SIGNS : mg "NAME_SIGNS" = some (.str nameSet u2)) :
    FnOk P w K mg base CX0 (k + 2) f fd ["value"] (spOf isNm) := by
  have G_is_text_within : FnOk P w K mg base CX0 (k + 1) fW fdW ["value", "most"] spWithin := ok_within D_is_text_within.F m_len m_str m_isinstance
  refine F.ok sc_is_name (fun vs H Q E h => ?_) (fun cdv A outer s H vs Q E hr h => ?_)
  · obtain ⟨v, rfl, _⟩ := h
    rfl
  · obtain ⟨v, rfl, hv, q⟩ := h
    refine ⟨_, pss_cons (ps_if (PW.pt (pw_or (pt_not (pt_val (pe_call G_is_text_within hr (by rfl) D_is_text_within.g D_is_text_within.F.kp D_is_text_within.b .nil pass0 (pa_cons (pv 0) (pa_cons (pe_glob (v := .int 10) rfl c_MOST_NAME_SIGNS ⟨_, rfl⟩) pa_nil))))) (pw_or1 (pt_cmpR op_eq (pv 0) pe_str (nomark _))))) (pss_one (ps_ret pe_bl)) pss_nil)
      (pss_cons (ps_if (PW.pt (pw_or (pt_val (pe_m1 PySem.F.slot_str_startswith PySem.F.type_str_startswith mt_startswith (pv 0) pe_str)) (pw_or (pt_val (pe_m1 PySem.F.slot_str_endswith PySem.F.type_str_endswith mt_endswith (pv 0) pe_str)) (pw_or1 (pt_val (pe_m1 PySem.F.slot_str_startswith PySem.F.type_str_startswith mt_startswith (pv 0) pe_str)))))) (pss_one (ps_ret pe_bl)) pss_nil)
      (pss_one (ps_ret (pe_callB (cr_all rfl) (by rfl) m_all (by decide +kernel) (pa_cons (pe_lc (own := [("sign", 1)]) (g := gName 1) (tt := tYes) rfl sc_is_name.nd (pi_str (pv 0)) (blkOk_by (N := ["value", "sign"]) (sc := defScope st_is_name) (by decide +kernel)) (fun _ _ _ _ _ => (pg_name (i := 1) sc_is_name.nd rfl (Or.inl rfl))) (fun _ _ _ _ _ => pts_nil) (fun _ _ _ _ _ => (pe_cmpR op_in_sign (pv 1) (pe_glob (v := .str nameSet) rfl c_NAME_SIGNS ⟨_, rfl⟩) (by rfl)))) pa_nil))))), ?_⟩
    refine ⟨v, rfl, v, 10, rfl, hv, _, rfl, ite2 (fun e => ?_) (fun e => ?_)⟩
    · cases v with
      | str z =>
        have e1 : ¬ ((z.length : Int) ≤ 10) := fun c => by
          have : within (.str z) 10 = true := decide_eq_true c
          rw [this] at e
          cases e
        have e2 : isNm (.str z) = false := by
          show nm (tl z) = false
          unfold nm
          rw [decide_eq_false (p := (tl z).length ≤ 10) (by rw [← TL.len_tl]; omega)]
          simp
        rw [e2] at q
        exact q _ (Same.refl _)
      | _ => exact q _ (Same.refl _)
    · cases v with
      | str z =>
        have e1 : (z.length : Int) ≤ 10 := by
          have : within (.str z) 10 = true := by
            cases c : within (.str z) 10 with
            | true => rfl
            | false => rw [c] at e; exact absurd rfl e
          exact of_decide_eq_true this
        refine ⟨.str z, rfl, rfl, _, rfl, ite2 (fun e => ?_) (fun e => ?_)⟩
        · have e2 : tl z = [] := (eq_lit z "").mp (of_decide_eq_true e)
          have e3 : isNm (.str z) = false := by
            show nm (tl z) = false
            rw [e2]
            rfl
          rw [e3] at q
          exact q _ (Same.refl _)
        · have e2 : tl z ≠ [] := fun c => e (decide_eq_true ((eq_lit z "").mpr c))
          have hlen : (tl z).length ≤ 10 := by rw [← TL.len_tl]; omega
          have neg : ∀ b : Bool, b = true → (b = true → nm (tl z) = false) → nm (tl z) = false := fun b h k => k h
          refine ⟨.str z, rfl, ⟨_, rfl⟩, _, _, rfl, rfl, _, rfl, ite2 (fun e => ?_) (fun e => ?_)⟩
          · rw [starts_lit z "-" (l := [45]) (by decide +kernel)] at e
            have e3 : isNm (.str z) = false := by
              show nm (tl z) = false
              unfold nm
              rw [show decide ((tl z).take 1 = [45]) = true from e]
              simp
            rw [e3] at q
            exact q _ (Same.refl _)
          · rw [starts_lit z "-" (l := [45]) (by decide +kernel)] at e
            have n1 : decide ((tl z).take 1 = [45]) = false := Bool.eq_false_iff.mpr e
            refine ⟨.str z, rfl, ⟨_, rfl⟩, _, _, rfl, rfl, _, rfl, ite2 (fun e => ?_) (fun e => ?_)⟩
            · rw [ends_dash z] at e
              have e3 : isNm (.str z) = false := by
                show nm (tl z) = false
                unfold nm
                rw [e]
                simp
              rw [e3] at q
              exact q _ (Same.refl _)
            · rw [ends_dash z] at e
              have n2 : decide ((tl z).getLast? = some 45) = false := Bool.eq_false_iff.mpr e
              refine ⟨.str z, rfl, ⟨_, rfl⟩, _, _, rfl, rfl, _, rfl, ite2 (fun e => ?_) (fun e => ?_)⟩
              · rw [starts_lit z "no-" (l := [110, 111, 45]) (by decide +kernel)] at e
                have e3 : isNm (.str z) = false := by
                  show nm (tl z) = false
                  unfold nm
                  rw [show decide ((tl z).take 3 = [110, 111, 45]) = true from e]
                  simp
                rw [e3] at q
                exact q _ (Same.refl _)
              · rw [starts_lit z "no-" (l := [110, 111, 45]) (by decide +kernel)] at e
                have n3 : decide ((tl z).take 3 = [110, 111, 45]) = false := Bool.eq_false_iff.mpr e
                have e3 : isNm (.str z) = (tl z).all fun c => decide (c ∈ tl nameSet) := by
                  show nm (tl z) = _
                  unfold nm
                  rw [n1, n2, n3, decide_eq_true e2, decide_eq_true hlen]
                  simp
                refine ⟨.str z, rfl, z, rfl, fun D nD => ?_⟩
                refine lc_it walk_str (fun i Hc => Same H Hc ∧ Hc D = some (.lst ((((tl z).take i).map fun c => decide (c ∈ tl nameSet)).map V.bl))) ⟨same_upd nD, upd_same⟩ (fun _ _ _ _ => True.intro) (fun i x Hc H' hi ⟨sc, eD⟩ ⟨eH, c, ec, ex⟩ => ?_) (fun Hc ⟨sc, eD⟩ => ?_)
                · subst eH ex
                  have ec' : (tl z)[i]? = some c := by
                    rw [Array.getElem?_toList]
                    exact ec
                  refine ⟨rfl, ?_⟩
                  refine ⟨_, rfl, c, nameSet, rfl, rfl, _, eD, ?_, ?_, ?_⟩
                  · rw [List.length_map, List.length_map, List.length_take]
                    exact small1000 (by omega)
                  · intro b o e
                    rw [upd_ne (ne_of_none e nD)]
                    exact sc b o e
                  · rw [upd_same, List.take_add_one, ec', List.map_append, List.map_append]
                    rfl
                · refine ⟨D, _, rfl, SqL.of eD, ?_⟩
                  have el : z.cps.size = (tl z).length := by simp
                  rw [el, List.take_length, List.all_map]
                  rw [e3] at q
                  exact q _ sc
      | _ => exact absurd rfl e
/-! ### is_about -/
theorem strs_flat (ys : List Str) : (ys.map V.str).all flatV = true := by
  rw [List.all_map]
  exact List.all_eq_true.mpr fun _ _ => rfl
theorem ok_isAbout {f fW : Addr} {fd fdW : FuncData} {k : Nat} {u1 : Tok} (F : Fun K "is_about" "is_about" st_is_about f fd) (D_is_text_within : Df K mg "is_text_within" st_is_text_within ["value", "most"] fW fdW)
    (m_len : mg "len" = none) (m_str : mg "str" = none) (m_isinstance : mg "isinstance" = none) (c_MOST_ABOUT_SIGNS : mg "MOST_ABOUT_SIGNS" = some (.int 200 u1)) :
    FnOk P w K mg base CX0 (k + 2) f fd ["value"] (spOf isAb) := by
  have G_is_text_within : FnOk P w K mg base CX0 (k + 1) fW fdW ["value", "most"] spWithin := ok_within D_is_text_within.F m_len m_str m_isinstance
  refine F.ok sc_is_about (fun vs H Q E h => ?_) (fun cdv A outer s H vs Q E hr h => ?_)
  · obtain ⟨v, rfl, _⟩ := h
    rfl
  · obtain ⟨v, rfl, hv, q⟩ := h
    refine ⟨_, pss_cons (ps_if (pt_not (pt_val (pe_call G_is_text_within hr (by rfl) D_is_text_within.g D_is_text_within.F.kp D_is_text_within.b .nil pass0 (pa_cons (pv 0) (pa_cons (pe_glob (v := .int 200) rfl c_MOST_ABOUT_SIGNS ⟨_, rfl⟩) pa_nil))))) (pss_one (ps_ret pe_bl)) pss_nil)
      (pss_one (ps_ret (pe_or (pe_cmpR op_eq (pv 0) pe_str (nomark _)) (pe_one (pe_cmpR op_notIn_seq pe_str (pe_split (pv 0) pe_str) (by rfl)))))), ?_⟩
    refine ⟨v, rfl, v, 200, rfl, hv, _, rfl, ite2 (fun e => ?_) (fun e => ?_)⟩
    · cases v with
      | str z =>
        have e1 : ¬ ((z.length : Int) ≤ 200) := fun c => by
          have : within (.str z) 200 = true := decide_eq_true c
          rw [this] at e
          cases e
        have e2 : isAb (.str z) = false := by
          show ab z = false
          unfold ab
          rw [decide_eq_false (p := z.length ≤ 200) (by omega)]
          rfl
        rw [e2] at q
        exact q _ (Same.refl _)
      | _ => exact q _ (Same.refl _)
    · cases v with
      | str z =>
        have e1 : (z.length : Int) ≤ 200 := by
          have : within (.str z) 200 = true := by
            cases c : within (.str z) 200 with
            | true => rfl
            | false => rw [c] at e; exact absurd rfl e
          exact of_decide_eq_true this
        have e2 : isAb (.str z) = (decide (z = Str.ofString "") || !inV (.str (Str.ofString "")) ((Txt.split z (Str.ofString " ")).map V.str)) := by
          show ab z = _
          unfold ab
          rw [decide_eq_true (p := z.length ≤ 200) (by omega), Bool.true_and]
        have e3 : decide (V.str z = V.str (Str.ofString "")) = decide (z = Str.ofString "") := decide_eq_decide.mpr ⟨fun h => V.str.inj h, fun h => by rw [h]⟩
        refine ⟨.str z, rfl, rfl, _, rfl, ite2 (fun e => ?_) (fun e => ?_)⟩
        · rw [e2, ← e3, e] at q
          exact q _ (Same.refl _)
        · have e4 : decide (V.str z = V.str (Str.ofString "")) = false := Bool.eq_false_iff.mpr e
          rw [e2, ← e3, e4, Bool.false_or] at q
          refine ⟨.str z, rfl, ⟨_, rfl⟩, _, _, rfl, rfl, by decide +kernel, ?_, fun p np => ?_⟩
          · have : sizeLine = 16777216 := sizeLine_eq
            omega
          · exact ⟨p, _, rfl, .inl (SqL.of upd_same), rfl, strs_flat _, q _ (same_upd np)⟩
      | _ => exact absurd rfl e
/-! ### is_among -/
def among (v : V) (ys : List Str) : Bool := match v with
  | .str z => inV (.str z) (ys.map V.str)
  | _ => false
def spAmong (K : PySem.W.Frag) : Sp := fun vs H Q _ => ∃ (v : V) (a : Addr) (ys : List Str), vs = [v, .ref a] ∧ Thg H v ∧ SqT K H a (ys.map V.str) ∧ Q (.bl (among v ys)) H
theorem ok_isAmong {f : Addr} {fd : FuncData} {k : Nat} (F : Fun K "is_among" "is_among" st_is_among f fd) (m_str : mg "str" = none) (m_isinstance : mg "isinstance" = none) :
    FnOk P w K mg base CX0 (k + 1) f fd ["value", "texts"] (spAmong K) := by
  refine F.ok sc_is_among (fun vs H Q E h => ?_) (fun cdv A outer s H vs Q E hr h => ?_)
  · obtain ⟨v, a, ys, rfl, _⟩ := h
    rfl
  · obtain ⟨v, a, ys, rfl, hv, hS, q⟩ := h
    refine ⟨_, pss_one (ps_ret (pe_and (pe_callB call_isi (by rfl) m_isinstance (by decide +kernel) (pa_cons (pv 0) (pa_cons (pe_bltn (v := .ty "str") (by rfl) m_str (by decide +kernel) rfl) pa_nil))) (pe_one (pe_cmpR op_in_seq (pv 0) (pv 1) (by rfl))))), ?_⟩
    obtain ⟨t, ht, hk⟩ := hv.isi (K := K)
    refine ⟨v, rfl, v, _, t, _, isS v, rfl, ClsV.ty "str", ht, hk, _, rfl, ?_⟩
    cases v with
    | str z => exact ⟨_, rfl, _, rfl, a, _, rfl, .inr hS, rfl, strs_flat _, q⟩
    | _ => exact q
/-! ### is_default -/
def dflt (v : V) (allowed : Bool) : Bool := decide (v = .non) || (allowed && within v 60)
def spDefault : Sp := fun vs H Q _ => ∃ (v : V) (b : Bool), vs = [v, .bl b] ∧ Thg H v ∧ Q (.bl (dflt v b)) H
theorem ok_isDefault {f fW : Addr} {fd fdW : FuncData} {k : Nat} {u1 : Tok} (F : Fun K "is_default" "is_default" st_is_default f fd) (D_is_text_within : Df K mg "is_text_within" st_is_text_within ["value", "most"] fW fdW)
    (m_len : mg "len" = none) (m_str : mg "str" = none) (m_isinstance : mg "isinstance" = none) (c_MOST_DEFAULT_SIGNS : mg "MOST_DEFAULT_SIGNS" = some (.int 60 u1)) :
    FnOk P w K mg base CX0 (k + 2) f fd ["value", "allowed"] spDefault := by
  have G_is_text_within : FnOk P w K mg base CX0 (k + 1) fW fdW ["value", "most"] spWithin := ok_within D_is_text_within.F m_len m_str m_isinstance
  refine F.ok sc_is_default (fun vs H Q E h => ?_) (fun cdv A outer s H vs Q E hr h => ?_)
  · obtain ⟨v, b, rfl, _⟩ := h
    rfl
  · obtain ⟨v, b, rfl, hv, q⟩ := h
    refine ⟨_, pss_cons (ps_if (pt_cmpR op_isN (pv 0) pe_non (nomark _)) (pss_one (ps_ret pe_bl)) pss_nil)
      (pss_one (ps_ret (pe_and (pv 1) (pe_one (pe_call G_is_text_within hr (by rfl) D_is_text_within.g D_is_text_within.F.kp D_is_text_within.b .nil pass0 (pa_cons (pv 0) (pa_cons (pe_glob (v := .int 60) rfl c_MOST_DEFAULT_SIGNS ⟨_, rfl⟩) pa_nil))))))), ?_⟩
    refine ⟨v, rfl, rfl, _, rfl, ite2 (fun e => ?_) (fun e => ?_)⟩
    · unfold dflt at q
      rw [e] at q
      exact q
    · unfold dflt at q
      rw [Bool.eq_false_iff.mpr e, Bool.false_or] at q
      refine ⟨.bl b, rfl, b, rfl, ?_⟩
      cases b with
      | true => exact ⟨v, rfl, v, 60, rfl, hv, q⟩
      | false => exact q
theorem dp_strs {K : PySem.W.Frag} {H : Hp} : ∀ ys : List Str, DpAll K H (ys.map V.str) (ys.map PyData.str)
  | [] => .nil
  | y :: r => .cons (.str y) (dp_strs r)
theorem strOk_of {z : Str} (h : ∀ c ∈ tl z, c < 256) : PyData.strOk z = true := by
  unfold PyData.strOk
  rw [← Array.all_toList]
  exact List.all_eq_true.mpr fun c hc => decide_eq_true (Nat.lt_trans (h c hc) (by decide))
theorem lay_strs : ∀ ys : List Str, (∀ y ∈ ys, PyData.strOk y = true) → PyData.canLayAll0 (ys.map PyData.str) = true ∧ PyData.depthAll (ys.map PyData.str) = 0
  | [], _ => ⟨by simp [PyData.canLayAll0], by simp [PyData.depthAll]⟩
  | y :: r, h => by
    obtain ⟨h1, h2⟩ := lay_strs r fun z hz => h z (List.mem_cons_of_mem _ hz)
    rw [List.map_cons]
    exact ⟨by simp [PyData.canLayAll0, PyData.canLay0, h1, h y List.mem_cons_self], by simp [PyData.depthAll, PyData.depth, h2]⟩
theorem shaped_strs (ys : List Str) (h : ∀ y ∈ ys, PyData.strOk y = true) : SeqAt.shaped (.list (ys.map PyData.str)) = true := by
  obtain ⟨h1, h2⟩ := lay_strs ys h
  unfold SeqAt.shaped
  simp [PyData.canLay0, PyData.depth, h1, h2]
theorem eqv_nil (ds : List PyData) : PyData.eqv (.list ds) (.list []) = ds.isEmpty := by
  cases ds with
  | nil => simp [PyData.eqv, PyData.eqvAll]
  | cons d r => simp [PyData.eqv, PyData.eqvAll]
theorem filter_all (p : Nat → Bool) : ∀ l : List Nat, (l.filter fun c => !p c).isEmpty = l.all p
  | [] => rfl
  | c :: r => by
    cases h : p c with
    | true =>
      rw [List.filter_cons_of_neg (by rw [h]; decide), filter_all p r, List.all_cons, h, Bool.true_and]
    | false =>
      rw [List.filter_cons_of_pos (by rw [h]; rfl), List.all_cons, h]
      rfl
/-! ### the law's own looks -/
/-! ### shorts -/
def letters : Str := Str.ofString "abcdefghijklmnopqrstuvwxyzABCDEFGHIJKLMNOPQRSTUVWXYZ"
def inLet (z : Str) : Bool := !(Builtin.Str.occurrences letters z 0 letters.length 1).isEmpty
def isSh : V → Bool
  | .str z => decide ((z.length : Int) ≤ 1) && inLet z
  | _ => false
theorem ok_isShort {f fW : Addr} {fd fdW : FuncData} {k : Nat} {u1 : Tok} (F : Fun K "is_short_or_empty" "is_short_or_empty" st_is_short_or_empty f fd) (D_is_text_within : Df K mg "is_text_within" st_is_text_within ["value", "most"] fW fdW)
    (m_len : mg "len" = none) (m_str : mg "str" = none) (m_isinstance : mg "isinstance" = none) (c_LETTERS : mg "LETTERS" = some (.str letters u1)) :
    FnOk P w K mg base CX0 (k + 2) f fd ["value"] (spOf isSh) := by
  have G_is_text_within : FnOk P w K mg base CX0 (k + 1) fW fdW ["value", "most"] spWithin := ok_within D_is_text_within.F m_len m_str m_isinstance
  refine F.ok sc_is_short_or_empty (fun vs H Q E h => ?_) (fun cdv A outer s H vs Q E hr h => ?_)
  · obtain ⟨v, rfl, _⟩ := h
    rfl
  · obtain ⟨v, rfl, hv, q⟩ := h
    refine ⟨_, pss_one (ps_ret (pe_and (pe_call G_is_text_within hr (by rfl) D_is_text_within.g D_is_text_within.F.kp D_is_text_within.b .nil pass0 (pa_cons (pv 0) (pa_cons pe_int pa_nil))) (pe_one (pe_cmpR op_in_str (pv 0) (pe_glob (v := .str letters) rfl c_LETTERS ⟨_, rfl⟩) (by rfl))))), ?_⟩
    refine ⟨v, rfl, v, 1, rfl, hv, _, rfl, ?_⟩
    have q' := q H (Same.refl H)
    cases v with
    | str z =>
      cases e : decide ((z.length : Int) ≤ 1) with
      | true =>
        have e2 : within (.str z) 1 = true := e
        rw [e2]
        have e3 : isSh (.str z) = inLet z := by show (decide ((z.length : Int) ≤ 1) && inLet z) = inLet z; rw [e, Bool.true_and]
        rw [e3] at q'
        exact ⟨_, rfl, _, _, rfl, rfl, q'⟩
      | false =>
        have e2 : within (.str z) 1 = false := e
        rw [e2]
        have e3 : isSh (.str z) = false := by show (decide ((z.length : Int) ≤ 1) && inLet z) = false; rw [e, Bool.false_and]
        rw [e3] at q'
        exact q'
    | _ => exact q'
/-! ### truths -/
def isB : V → Bool
  | .bl _ => true
  | _ => false
theorem Thg.isb {K : PySem.W.Frag} {H : Hp} {v : V} (h : Thg H v) : ∃ t : Value, TyX K H v t ∧ PySem.W.kitOne K t (.type "bool") = some (isB v) := by
  cases h with
  | non => exact ⟨_, .base .non, kit_ty (show kitB "NoneType" "bool" = some false from by decide +kernel)⟩
  | bl b => exact ⟨_, .base (.bl b), kit_ty (show kitB "bool" "bool" = some true from by decide +kernel)⟩
  | int _ _ => exact ⟨_, .base (.int _), kit_ty (show kitB "int" "bool" = some false from by decide +kernel)⟩
  | str _ => exact ⟨_, .base (.str _), kit_ty (show kitB "str" "bool" = some false from by decide +kernel)⟩
  | odd e h =>
    cases h with
    | l0 => exact ⟨_, .base (.lst e), kit_ty (show kitB "list" "bool" = some false from by decide +kernel)⟩
    | l1 _ => exact ⟨_, .base (.lst e), kit_ty (show kitB "list" "bool" = some false from by decide +kernel)⟩
    | t0 => exact ⟨_, .base (.tup e), kit_ty (show kitB "tuple" "bool" = some false from by decide +kernel)⟩
    | t1 _ => exact ⟨_, .base (.tup e), kit_ty (show kitB "tuple" "bool" = some false from by decide +kernel)⟩
    | d0 => exact ⟨_, .base (.dK e), kit_ty (show kitB "dict" "bool" = some false from by decide +kernel)⟩
    | d1 _ _ _ => exact ⟨_, .base (.dK e), kit_ty (show kitB "dict" "bool" = some false from by decide +kernel)⟩
def trth (v : V) (allowed : Bool) : Bool := match v with
  | .bl b => allowed || !b
  | _ => false
def spTruth : Sp := fun vs H Q _ => ∃ (v : V) (b : Bool), vs = [v, .bl b] ∧ Thg H v ∧ Q (.bl (trth v b)) H
theorem ok_isTruth {f : Addr} {fd : FuncData} {k : Nat} (F : Fun K "is_truth" "is_truth" st_is_truth f fd) (m_bool : mg "bool" = none) (m_isinstance : mg "isinstance" = none) : FnOk P w K mg base CX0 (k + 1) f fd ["value", "allowed"] spTruth := by
  refine F.ok sc_is_truth (fun vs H Q E h => ?_) (fun cdv A outer s H vs Q E hr h => ?_)
  · obtain ⟨v, b, rfl, _⟩ := h
    rfl
  · obtain ⟨v, b, rfl, hv, q⟩ := h
    refine ⟨_, pss_one (ps_ret (pe_and (pe_callB call_isi (by rfl) m_isinstance (by decide +kernel) (pa_cons (pv 0) (pa_cons (pe_bltn (v := .ty "bool") (by rfl) m_bool (by decide +kernel) rfl) pa_nil))) (pe_one (pe_or (pv 1) (pe_one (pe_not (pv 0))))))), ?_⟩
    obtain ⟨t, ht, hk⟩ := hv.isb (K := K)
    refine ⟨v, rfl, v, _, t, _, isB v, rfl, ClsV.ty "bool", ht, hk, _, rfl, ?_⟩
    cases v with
    | bl c =>
      refine ⟨.bl b, rfl, b, rfl, ?_⟩
      cases b with
      | true => exact q
      | false => exact ⟨.bl c, rfl, c, rfl, q⟩
    | _ => exact q
/-- x is True, x is False -/
theorem op_isBA {X : Cx} : OpR X (compareOp .Is) (fun x y H Q => ∃ b : Bool, y = .bl b ∧ Q (.bl (decide (x = .bl b))) H) := by
  intro pins s σ H x y v u Q I rx ry h
  obtain ⟨b, rfl, q⟩ := h
  cases (show u = Value.bool b from ry)
  cases x with
  | bl a =>
    cases (show v = Value.bool a from rx)
    by_cases e : a = b
    · subst e
      exact wpAny_is_self rfl ⟨.bl true, H, I, rfl, by simpa using q⟩
    · exact wpAny_is_other rfl (fun z => e (Value.bool.inj z)) ⟨.bl false, H, I, rfl, by simpa [e] using q⟩
  | non =>
    cases (show v = Value.none from rx)
    exact wpAny_is_other rfl (fun z => by cases z) ⟨.bl false, H, I, rfl, by simpa using q⟩
  | int i =>
    obtain ⟨t, rfl⟩ := rx
    exact wpAny_is_other rfl (fun z => by cases z) ⟨.bl false, H, I, rfl, by simpa using q⟩
  | str z =>
    obtain ⟨t, rfl⟩ := rx
    exact wpAny_is_other rfl (fun z => by cases z) ⟨.bl false, H, I, rfl, by simpa using q⟩
  | byt z =>
    obtain ⟨t, rfl⟩ := rx
    exact wpAny_is_other rfl (fun z => by cases z) ⟨.bl false, H, I, rfl, by simpa using q⟩
  | flt z =>
    obtain ⟨t, rfl⟩ := rx
    exact wpAny_is_other rfl (fun z => by cases z) ⟨.bl false, H, I, rfl, by simpa using q⟩
  | ref a =>
    cases (show v = Value.ref a from rx)
    exact wpAny_is_other rfl (fun z => by cases z) ⟨.bl false, H, I, rfl, by simpa using q⟩
  | ty n =>
    cases (show v = Value.type n from rx)
    exact wpAny_is_other rfl (fun z => by cases z) ⟨.bl false, H, I, rfl, by simpa using q⟩
end
end WB

set_option Elab.async false
set_option linter.all false
set_option maxRecDepth 100000
set_option maxHeartbeats 4000000
namespace WB
open PySem PySem.Spec PyProof.Rows L2 WG
open TL (tl)
abbrev st_err : Stmt := inClass (topS 18) 0
abbrev st_init : Stmt := inClass (topS 26) 0
theorem sc_err : FnScope ["self", "field"] ["self", "field"] (defScope st_err) := ⟨rfl, rfl, rfl, by decide +kernel, rfl, by decide +kernel, by decide +kernel⟩
abbrev st_Option_init : Stmt := inClass (topS 26) 0
theorem sc_Option_init : FnScope ["self", "long", "short", "takes", "maker", "default", "needed", "off", "about"] ["self", "long", "short", "takes", "maker", "default", "needed", "off", "about"] (defScope st_Option_init) := ⟨rfl, rfl, rfl, by decide +kernel, rfl, by decide +kernel, by decide +kernel⟩
abbrev sc_init := sc_Option_init
/-! ### what is wrong first -/
def takesL : List Str := [Str.ofString "flag", Str.ofString "count", Str.ofString "one", Str.ofString "last", Str.ofString "each"]
def plainL : List Str := [Str.ofString "flag", Str.ofString "count"]
def singleL : List Str := [Str.ofString "one", Str.ofString "last"]
def taken (v : V) : Str := match v with
  | .str z => z
  | _ => Str.ofString "none"
def plain (v : V) : Bool := inV (.str (taken v)) (plainL.map V.str)
def single (v : V) : Bool := inV (.str (taken v)) (singleL.map V.str)
def wrongF (v0 v1 v2 v3 v4 v5 v6 v7 : V) : Str := if isNm v0 = false then Str.ofString "long" else if isSh v1 = false then Str.ofString "short" else if among v2 takesL = false then Str.ofString "takes" else if isNm v3 = false then Str.ofString "maker" else if dflt v4 (single v2) = false then Str.ofString "default" else if trth v5 (!plain v2 && decide (v4 = .non)) = false then Str.ofString "needed" else if trth v6 (plain v2) = false then Str.ofString "off" else if isAb v7 = false then Str.ofString "about" else Str.ofString ""
/-- NoOption, as the written part tells it -/
structure ErrT (K : PySem.W.Frag) (mg : Str → Option Value) (x : Str) (C fI : Addr) (fd : FuncData) : Prop where
  o : OexC K C
  i : PySem.W.findIn K (.ref C) "__init__" = some (some (.ref fI))
  t : PySem.W.typeIn K (.ref fI) = some (.type "function")
  nf : PySem.W.findIn K (.ref C) "field" = some none
  g : mg x = some (.ref C)
  b : Binds K fd ["self", "field"] []
section
variable {P : Program} {w : World} {K : PySem.W.Frag} {mg : Str → Option Value} {base : Heap}
def spErr (C : Addr) : Sp := fun vs H Q _ => ∃ (a : Addr) (y : V), vs = [.ref a, y] ∧ H a = some (exo a C none) ∧ ∀ dx, H dx = none → dx ≠ a → Q .non (upd (upd H dx (exd dx [(("field" : Str), y)])) a (exo a C (some dx)))
theorem ok_err {C f : Addr} {fd : FuncData} {x q : Str} {k : Nat} (F : Fun K "__init__" q st_err f fd) (T : ErrT K mg x C f fd) : FnOk P w K mg base CX0 (k + 1) f fd ["self", "field"] (spErr C) := by
  refine F.ok sc_err (fun vs H Q E h => ?_) (fun cdv A outer s H vs Q E hr h => ?_)
  · obtain ⟨a, y, rfl, _⟩ := h
    rfl
  · obtain ⟨a, y, rfl, ea, q⟩ := h
    refine ⟨_, pss_one (ps_ost (pv 0) (pv 1)), ?_⟩
    exact ⟨y, rfl, .ref a, rfl, a, C, rfl, T.o, T.nf, .inl ⟨ea, fun dx n ne => q dx n ne⟩⟩
/-- the way out by a raised error -/
theorem err_out {C : Addr} {y : V} {H : Hp} {E : XK} {x : Addr} (h : ∀ H' d, Same H H' → H d = none → H' d = some (.xd [(("field" : Str), y)]) → E (.ref C) (some d) H') (a : Addr) (na : H a = none) :
    spErr C [.ref a, y] (upd H a (exo a C none)) (fun v H2 => v = .non ∧ ∃ (d : Addr) (fs : List (Str × V)), H2 a = some (exo a C (some d)) ∧ H2 d = some (exd d fs) ∧ H d = none ∧ E (.ref C) (some d) (upd (del H2 a) d (.xd fs))) (fun _ _ _ => False) := by
  refine ⟨a, y, rfl, upd_same, fun dx ndx ne => ⟨rfl, dx, [(("field" : Str), y)], upd_same, ?_, ?_, ?_⟩⟩
  · rw [upd_ne ne, upd_same]
  · rw [upd_ne ne] at ndx
    exact ndx
  · rw [upd_ne ne] at ndx
    refine h _ dx (fun b o e => ?_) ndx upd_same
    have nb : b ≠ dx := ne_of_none e ndx
    have nba : b ≠ a := ne_of_none e na
    rw [upd_ne nb, del_ne nba, upd_ne nba, upd_ne nb, upd_ne nba]
    exact e
/-! ### Option.__init__ -/
/-- Option, as the written part tells it -/
structure ClsT (K : PySem.W.Frag) (C : Addr) : Prop where
  cl : Cls K C
  nh : NoAttr K C "held"
def spInit (C CN : Addr) : Sp := fun vs H Q E => ∃ (x dx : Addr) (v0 v1 v2 v3 v4 v5 v6 v7 : V), vs = [.ref x, v0, v1, v2, v3, v4, v5, v6, v7] ∧ H x = some (.ins C dx []) ∧ (Thg H v0 ∧ Thg H v1 ∧ Thg H v2 ∧ Thg H v3 ∧ Thg H v4 ∧ Thg H v5 ∧ Thg H v6 ∧ Thg H v7) ∧
  (wrongF v0 v1 v2 v3 v4 v5 v6 v7 = Str.ofString "" → ∀ H' t, But x H H' → H' x = some (.ins C dx [(("held" : Str), .ref t)]) → H' t = some (.tup [v0, v1, v2, v3, v4, v5, v6, v7]) → Q .non H') ∧
  (wrongF v0 v1 v2 v3 v4 v5 v6 v7 ≠ Str.ofString "" → ∀ H' d, Same H H' → H d = none → H' d = some (.xd [(("field" : Str), .str (wrongF v0 v1 v2 v3 v4 v5 v6 v7))]) → E (.ref CN) (some d) H')
theorem ev_use {t : TE} {σ : L2.St} {H : Hp} {v : V} {R : VK} (e : ∀ R : VK, R v H → t σ H R) (c : R v H) : t σ H R := e R c
theorem lit_ne {s : String} (h : (Str.ofString s).length ≠ 0) : Str.ofString s ≠ Str.ofString "" := fun e => h (by rw [e]; decide +kernel)
theorem ok_init {C CN f fE fW fA fB fM fD fS fR : Addr} {fd fdE fdW fdA fdB fdM fdD fdS fdR : FuncData} {u1 u2 u3 u4 u5 : Tok} {aT aU aW : Addr} {k : Nat} (F : FunD K "__init__" "Option.__init__" (defArgs st_init) (defBody st_init) (defScope st_init) [.str (Str.ofString ""), .str (Str.ofString "flag"), .str (Str.ofString "word"), .non, .bl false, .bl false, .str (Str.ofString "")] [] f fd)
    (FE : Fun K "__init__" "NoOption.__init__" st_err fE fdE) (TE : ErrT K mg "NoOption" CN fE fdE) (T : ClsT K C)
    (D_is_text_within : Df K mg "is_text_within" st_is_text_within ["value", "most"] fW fdW) (D_is_name : Df K mg "is_name" st_is_name ["value"] fA fdA) (D_is_about : Df K mg "is_about" st_is_about ["value"] fB fdB)
    (D_is_among : Df K mg "is_among" st_is_among ["value", "texts"] fM fdM) (D_is_default : Df K mg "is_default" st_is_default ["value", "allowed"] fD fdD) (D_is_short_or_empty : Df K mg "is_short_or_empty" st_is_short_or_empty ["value"] fS fdS) (D_is_truth : Df K mg "is_truth" st_is_truth ["value", "allowed"] fR fdR)
    (m_len : mg "len" = none) (m_str : mg "str" = none) (m_bool : mg "bool" = none) (m_isinstance : mg "isinstance" = none) (m_all : mg "all" = none) (c_MOST_NAME_SIGNS : mg "MOST_NAME_SIGNS" = some (.int 10 u1)) (c_NAME_SIGNS : mg "NAME_SIGNS" = some (.str nameSet u2))
    (c_MOST_ABOUT_SIGNS : mg "MOST_ABOUT_SIGNS" = some (.int 200 u3)) (c_MOST_DEFAULT_SIGNS : mg "MOST_DEFAULT_SIGNS" = some (.int 60 u4)) (c_LETTERS : mg "LETTERS" = some (.str letters u5)) (c_TAKES : mg "TAKES" = some (.ref aT)) (hT : ∀ H, SqT K H aT (takesL.map V.str))
    (c_UNVALUED : mg "UNVALUED" = some (.ref aU)) (hU : ∀ H, SqT K H aU (plainL.map V.str)) (c_WITH_DEFAULT : mg "WITH_DEFAULT" = some (.ref aW)) (hW : ∀ H, SqT K H aW (singleL.map V.str)) :
    FnOk P w K mg base (L2.CX P w) (k + 3) f fd ["self", "long", "short", "takes", "maker", "default", "needed", "off", "about"] (spInit C CN) := by
  have GE : FnOk P w K mg base CX0 (k + 1) fE fdE ["self", "field"] (spErr CN) := ok_err FE TE
  have G_is_name : FnOk P w K mg base CX0 (k + 2) fA fdA ["value"] (spOf isNm) := ok_isName D_is_name.F D_is_text_within m_len m_str m_isinstance m_all c_MOST_NAME_SIGNS c_NAME_SIGNS
  have G_is_about : FnOk P w K mg base CX0 (k + 2) fB fdB ["value"] (spOf isAb) := ok_isAbout D_is_about.F D_is_text_within m_len m_str m_isinstance c_MOST_ABOUT_SIGNS
  have G_is_among : FnOk P w K mg base CX0 (k + 2) fM fdM ["value", "texts"] (spAmong K) := ok_isAmong D_is_among.F m_str m_isinstance
  have G_is_default : FnOk P w K mg base CX0 (k + 2) fD fdD ["value", "allowed"] spDefault := ok_isDefault D_is_default.F D_is_text_within m_len m_str m_isinstance c_MOST_DEFAULT_SIGNS
  have G_is_short_or_empty : FnOk P w K mg base CX0 (k + 2) fS fdS ["value"] (spOf isSh) := ok_isShort D_is_short_or_empty.F D_is_text_within m_len m_str m_isinstance c_LETTERS
  have G_is_truth : FnOk P w K mg base CX0 (k + 2) fR fdR ["value", "allowed"] spTruth := ok_isTruth D_is_truth.F m_bool m_isinstance
  refine F.ok sc_init (fun vs H Q E h => ?_) (fun cdv A outer s H vs Q E hr h => ?_)
  · obtain ⟨x, dx, v0, v1, v2, v3, v4, v5, v6, v7, rfl, _⟩ := h
    rfl
  · obtain ⟨x, dx, v0, v1, v2, v3, v4, v5, v6, v7, rfl, ex, ⟨t0, t1, t2, t3, t4, t5, t6, t7⟩, qok, qbad⟩ := h
    refine ⟨_, pss_cons (ps_if (pt_not (pt_val (pe_call G_is_name hr (by rfl) D_is_name.g D_is_name.F.kp D_is_name.b .nil pass0 (pa_cons (pv 1) pa_nil)))) (pss_one (ps_raise rfl (takes_of rfl rfl rfl rfl) (pmk_oex TE.o TE.i TE.t GE hr TE.b .nil pass0 (by rfl) TE.g (pa_cons pe_str pa_nil)))) pss_nil)
      (pss_cons (ps_if (pt_not (pt_val (pe_call G_is_short_or_empty hr (by rfl) D_is_short_or_empty.g D_is_short_or_empty.F.kp D_is_short_or_empty.b .nil pass0 (pa_cons (pv 2) pa_nil)))) (pss_one (ps_raise rfl (takes_of rfl rfl rfl rfl) (pmk_oex TE.o TE.i TE.t GE hr TE.b .nil pass0 (by rfl) TE.g (pa_cons pe_str pa_nil)))) pss_nil)
      (pss_cons (ps_if (pt_not (pt_val (pe_call G_is_among hr (by rfl) D_is_among.g D_is_among.F.kp D_is_among.b .nil pass0 (pa_cons (pv 3) (pa_cons (pe_glob (v := .ref aT) rfl c_TAKES rfl) pa_nil))))) (pss_one (ps_raise rfl (takes_of rfl rfl rfl rfl) (pmk_oex TE.o TE.i TE.t GE hr TE.b .nil pass0 (by rfl) TE.g (pa_cons pe_str pa_nil)))) pss_nil)
      (pss_cons (ps_if (pt_not (pt_val (pe_call G_is_name hr (by rfl) D_is_name.g D_is_name.F.kp D_is_name.b .nil pass0 (pa_cons (pv 4) pa_nil)))) (pss_one (ps_raise rfl (takes_of rfl rfl rfl rfl) (pmk_oex TE.o TE.i TE.t GE hr TE.b .nil pass0 (by rfl) TE.g (pa_cons pe_str pa_nil)))) pss_nil)
      (pss_cons (ps_if (pt_not (pt_val (pe_call G_is_default hr (by rfl) D_is_default.g D_is_default.F.kp D_is_default.b .nil pass0 (pa_cons (pv 5) (pa_cons (pe_cmpR op_in_seq (pv 3) (pe_glob (v := .ref aW) rfl c_WITH_DEFAULT rfl) (by rfl)) pa_nil))))) (pss_one (ps_raise rfl (takes_of rfl rfl rfl rfl) (pmk_oex TE.o TE.i TE.t GE hr TE.b .nil pass0 (by rfl) TE.g (pa_cons pe_str pa_nil)))) pss_nil)
      (pss_cons (ps_if (pt_not (pt_val (pe_call G_is_truth hr (by rfl) D_is_truth.g D_is_truth.F.kp D_is_truth.b .nil pass0 (pa_cons (pv 6) (pa_cons (pe_and (pe_cmpR op_notIn_seq (pv 3) (pe_glob (v := .ref aU) rfl c_UNVALUED rfl) (by rfl)) (pe_one (pe_cmpR op_isN (pv 5) pe_non (nomark _)))) pa_nil))))) (pss_one (ps_raise rfl (takes_of rfl rfl rfl rfl) (pmk_oex TE.o TE.i TE.t GE hr TE.b .nil pass0 (by rfl) TE.g (pa_cons pe_str pa_nil)))) pss_nil)
      (pss_cons (ps_if (pt_not (pt_val (pe_call G_is_truth hr (by rfl) D_is_truth.g D_is_truth.F.kp D_is_truth.b .nil pass0 (pa_cons (pv 7) (pa_cons (pe_cmpR op_in_seq (pv 3) (pe_glob (v := .ref aU) rfl c_UNVALUED rfl) (by rfl)) pa_nil))))) (pss_one (ps_raise rfl (takes_of rfl rfl rfl rfl) (pmk_oex TE.o TE.i TE.t GE hr TE.b .nil pass0 (by rfl) TE.g (pa_cons pe_str pa_nil)))) pss_nil)
      (pss_cons (ps_if (pt_not (pt_val (pe_call G_is_about hr (by rfl) D_is_about.g D_is_about.F.kp D_is_about.b .nil pass0 (pa_cons (pv 8) pa_nil)))) (pss_one (ps_raise rfl (takes_of rfl rfl rfl rfl) (pmk_oex TE.o TE.i TE.t GE hr TE.b .nil pass0 (by rfl) TE.g (pa_cons pe_str pa_nil)))) pss_nil)
      (pss_one (ps_fld (pv 0) (pe_tup (pa_cons (pv 1) (pa_cons (pv 2) (pa_cons (pv 3) (pa_cons (pv 4) (pa_cons (pv 5) (pa_cons (pv 6) (pa_cons (pv 7) (pa_cons (pv 8) pa_nil))))))))) rfl))))))))), ?_⟩
    refine ⟨v0, rfl, v0, rfl, t0, fun H1 s1 => ⟨_, rfl, ?_⟩⟩
    cases b0 : isNm v0 with
    | false =>
      have e : wrongF v0 v1 v2 v3 v4 v5 v6 v7 = Str.ofString "long" := by unfold wrongF; rw [if_pos b0]
      rw [e] at qbad
      exact ⟨by show 1 ≤ 1000; decide, fun a na => err_out (x := x) (fun H' d sm nd ed => qbad (lit_ne (by decide +kernel)) H' d (s1.trans sm) (s1.free nd) ed) a na⟩
    | true =>
      refine ⟨v1, rfl, v1, rfl, t1.same s1, fun H2 s2 => ⟨_, rfl, ?_⟩⟩
      have s12 := s1.trans s2
      cases b1 : isSh v1 with
      | false =>
        have e : wrongF v0 v1 v2 v3 v4 v5 v6 v7 = Str.ofString "short" := by unfold wrongF; rw [if_neg (by rw [b0]; decide), if_pos b1]
        rw [e] at qbad
        exact ⟨by show 1 ≤ 1000; decide, fun a na => err_out (x := x) (fun H' d sm nd ed => qbad (lit_ne (by decide +kernel)) H' d (s12.trans sm) (s12.free nd) ed) a na⟩
      | true =>
        refine ⟨v2, rfl, v2, aT, takesL, rfl, t2.same s12, hT _, _, rfl, ?_⟩
        cases b2 : among v2 takesL with
        | false =>
          have e : wrongF v0 v1 v2 v3 v4 v5 v6 v7 = Str.ofString "takes" := by unfold wrongF; rw [if_neg (by rw [b0]; decide), if_neg (by rw [b1]; decide), if_pos b2]
          rw [e] at qbad
          exact ⟨by show 1 ≤ 1000; decide, fun a na => err_out (x := x) (fun H' d sm nd ed => qbad (lit_ne (by decide +kernel)) H' d (s12.trans sm) (s12.free nd) ed) a na⟩
        | true =>
          refine ⟨v3, rfl, v3, rfl, t3.same s12, fun H3 s3 => ⟨_, rfl, ?_⟩⟩
          have s13 := s12.trans s3
          cases b3 : isNm v3 with
          | false =>
            have e : wrongF v0 v1 v2 v3 v4 v5 v6 v7 = Str.ofString "maker" := by unfold wrongF; rw [if_neg (by rw [b0]; decide), if_neg (by rw [b1]; decide), if_neg (by rw [b2]; decide), if_pos b3]
            rw [e] at qbad
            exact ⟨by show 1 ≤ 1000; decide, fun a na => err_out (x := x) (fun H' d sm nd ed => qbad (lit_ne (by decide +kernel)) H' d (s13.trans sm) (s13.free nd) ed) a na⟩
          | true =>
            cases v2 with
            | str z2 =>
              refine ⟨v4, rfl, .str z2, rfl, aW, _, rfl, .inr (hW _), rfl, strs_flat _, v4, _, rfl, t4.same s13, _, rfl, ?_⟩
              have em : inV (.str z2) (singleL.map V.str) = single (.str z2) := rfl
              simp only [Bool.false_eq_true, if_false]
              rw [em]
              cases b4 : dflt v4 (single (.str z2)) with
              | false =>
                have e : wrongF v0 v1 (.str z2) v3 v4 v5 v6 v7 = Str.ofString "default" := by unfold wrongF; rw [if_neg (by rw [b0]; decide), if_neg (by rw [b1]; decide), if_neg (by rw [b2]; decide), if_neg (by rw [b3]; decide), if_pos b4]
                rw [e] at qbad
                exact ⟨by show 1 ≤ 1000; decide, fun a na => err_out (x := x) (fun H' d sm nd ed => qbad (lit_ne (by decide +kernel)) H' d (s13.trans sm) (s13.free nd) ed) a na⟩
              | true =>
                have ep : inV (.str z2) (plainL.map V.str) = plain (.str z2) := rfl
                refine ⟨v5, rfl, ?_⟩
                refine ev_use (t := tAndV _ _) (v := .bl (!plain (.str z2) && decide (v4 = .non))) (fun R c => ?_) ?_
                · refine ⟨.str z2, rfl, aU, _, rfl, .inr (hU _), rfl, strs_flat _, ?_⟩
                  simp only [if_true, ep]
                  cases bp : plain (.str z2) with
                  | true =>
                    rw [bp] at c
                    exact ⟨_, rfl, c⟩
                  | false =>
                    rw [bp] at c
                    exact ⟨_, rfl, v4, rfl, rfl, c⟩
                refine ⟨v5, _, rfl, t5.same s13, _, rfl, ?_⟩
                cases b5 : trth v5 (!plain (.str z2) && decide (v4 = .non)) with
                | false =>
                  have e : wrongF v0 v1 (.str z2) v3 v4 v5 v6 v7 = Str.ofString "needed" := by unfold wrongF; rw [if_neg (by rw [b0]; decide), if_neg (by rw [b1]; decide), if_neg (by rw [b2]; decide), if_neg (by rw [b3]; decide), if_neg (by rw [b4]; decide), if_pos b5]
                  rw [e] at qbad
                  exact ⟨by show 1 ≤ 1000; decide, fun a na => err_out (x := x) (fun H' d sm nd ed => qbad (lit_ne (by decide +kernel)) H' d (s13.trans sm) (s13.free nd) ed) a na⟩
                | true =>
                  refine ⟨v6, rfl, .str z2, rfl, aU, _, rfl, .inr (hU _), rfl, strs_flat _, v6, _, rfl, t6.same s13, _, rfl, ?_⟩
                  simp only [Bool.false_eq_true, if_false]
                  rw [ep]
                  cases b6 : trth v6 (plain (.str z2)) with
                  | false =>
                    have e : wrongF v0 v1 (.str z2) v3 v4 v5 v6 v7 = Str.ofString "off" := by unfold wrongF; rw [if_neg (by rw [b0]; decide), if_neg (by rw [b1]; decide), if_neg (by rw [b2]; decide), if_neg (by rw [b3]; decide), if_neg (by rw [b4]; decide), if_neg (by rw [b5]; decide), if_pos b6]
                    rw [e] at qbad
                    exact ⟨by show 1 ≤ 1000; decide, fun a na => err_out (x := x) (fun H' d sm nd ed => qbad (lit_ne (by decide +kernel)) H' d (s13.trans sm) (s13.free nd) ed) a na⟩
                  | true =>
                    refine ⟨v7, rfl, v7, rfl, t7.same s13, fun H4 s4 => ⟨_, rfl, ?_⟩⟩
                    have s14 := s13.trans s4
                    cases b7 : isAb v7 with
                    | false =>
                      have e : wrongF v0 v1 (.str z2) v3 v4 v5 v6 v7 = Str.ofString "about" := by unfold wrongF; rw [if_neg (by rw [b0]; decide), if_neg (by rw [b1]; decide), if_neg (by rw [b2]; decide), if_neg (by rw [b3]; decide), if_neg (by rw [b4]; decide), if_neg (by rw [b5]; decide), if_neg (by rw [b6]; decide), if_pos b7]
                      rw [e] at qbad
                      exact ⟨by show 1 ≤ 1000; decide, fun a na => err_out (x := x) (fun H' d sm nd ed => qbad (lit_ne (by decide +kernel)) H' d (s14.trans sm) (s14.free nd) ed) a na⟩
                    | true =>
                      have e : wrongF v0 v1 (.str z2) v3 v4 v5 v6 v7 = Str.ofString "" := by unfold wrongF; rw [if_neg (by rw [b0]; decide), if_neg (by rw [b1]; decide), if_neg (by rw [b2]; decide), if_neg (by rw [b3]; decide), if_neg (by rw [b4]; decide), if_neg (by rw [b5]; decide), if_neg (by rw [b6]; decide), if_neg (by rw [b7]; decide)]
                      have ex4 := s14 _ _ ex
                      refine ⟨_, rfl, _, rfl, _, rfl, _, rfl, _, rfl, _, rfl, _, rfl, _, rfl, by show 8 ≤ sizeLine; decide, fun t nt => ?_⟩
                      have nxt : x ≠ t := ne_of_none ex4 nt
                      refine ⟨.ref x, rfl, x, C, dx, [], rfl, ?_, T.cl, T.nh, by decide, ?_⟩
                      · rw [upd_ne nxt]
                        exact ex4
                      · refine qok e _ t (fun b o nb eb => ?_) upd_same ?_
                        · rw [upd_ne nb]
                          exact same_upd nt _ _ (s14 _ _ eb)
                        · rw [upd_ne nxt.symm, upd_same]
            | _ => cases b2
/-! ### the methods -/
end
end WB

set_option Elab.async false
set_option linter.all false
set_option maxRecDepth 100000
set_option maxHeartbeats 4000000
namespace WP
open PySem PySem.Spec PyProof.Rows L2 WG WB
open TL (tl)
abbrev st_err : Stmt := inClass (topS 19) 0
abbrev st_init : Stmt := inClass (topS 27) 0
theorem sc_err : FnScope ["self", "field"] ["self", "field"] (defScope st_err) := ⟨rfl, rfl, rfl, by decide +kernel, rfl, by decide +kernel, by decide +kernel⟩
theorem sc_init : FnScope ["self", "name", "many", "maker", "default", "about"] ["self", "name", "many", "maker", "default", "about"] (defScope st_init) := ⟨rfl, rfl, rfl, by decide +kernel, rfl, by decide +kernel, by decide +kernel⟩
/-! ### what is wrong first -/
def manies : List Str := [Str.ofString "one", Str.ofString "maybe", Str.ofString "some", Str.ofString "any"]
def isMb (v : V) : Bool := decide (v = .str (Str.ofString "maybe"))
def wrongF (v0 v1 v2 v3 v4 : V) : Str :=
  if isNm v0 = false then Str.ofString "name" else if among v1 manies = false then Str.ofString "many" else if isNm v2 = false then Str.ofString "maker" else
  if dflt v3 (isMb v1) = false then Str.ofString "default" else if isAb v4 = false then Str.ofString "about" else Str.ofString ""
/-- NoPlace, as the written part tells it -/
structure ErrT (K : PySem.W.Frag) (mg : Str → Option Value) (x : Str) (C fI : Addr) (fd : FuncData) : Prop where
  o : OexC K C
  i : PySem.W.findIn K (.ref C) "__init__" = some (some (.ref fI))
  t : PySem.W.typeIn K (.ref fI) = some (.type "function")
  nf : PySem.W.findIn K (.ref C) "field" = some none
  g : mg x = some (.ref C)
  b : Binds K fd ["self", "field"] []
section
variable {P : Program} {w : World} {K : PySem.W.Frag} {mg : Str → Option Value} {base : Heap}
def spErr (C : Addr) : Sp := fun vs H Q _ => ∃ (a : Addr) (y : V), vs = [.ref a, y] ∧ H a = some (exo a C none) ∧ ∀ dx, H dx = none → dx ≠ a → Q .non (upd (upd H dx (exd dx [(("field" : Str), y)])) a (exo a C (some dx)))
theorem ok_err {C f : Addr} {fd : FuncData} {x q : Str} {k : Nat} (F : Fun K "__init__" q st_err f fd) (T : ErrT K mg x C f fd) : FnOk P w K mg base CX0 (k + 1) f fd ["self", "field"] (spErr C) := by
  refine F.ok sc_err (fun vs H Q E h => ?_) (fun cdv A outer s H vs Q E hr h => ?_)
  · obtain ⟨a, y, rfl, _⟩ := h
    rfl
  · obtain ⟨a, y, rfl, ea, q⟩ := h
    refine ⟨_, pss_one (ps_ost (pv 0) (pv 1)), ?_⟩
    exact ⟨y, rfl, .ref a, rfl, a, C, rfl, T.o, T.nf, .inl ⟨ea, fun dx n ne => q dx n ne⟩⟩
/-- the way out by a raised error -/
theorem err_out {C : Addr} {y : V} {H : Hp} {E : XK} {x : Addr} (h : ∀ H' d, Same H H' → H d = none → H' d = some (.xd [(("field" : Str), y)]) → E (.ref C) (some d) H') (a : Addr) (na : H a = none) :
    spErr C [.ref a, y] (upd H a (exo a C none)) (fun v H2 => v = .non ∧ ∃ (d : Addr) (fs : List (Str × V)), H2 a = some (exo a C (some d)) ∧ H2 d = some (exd d fs) ∧ H d = none ∧ E (.ref C) (some d) (upd (del H2 a) d (.xd fs))) (fun _ _ _ => False) := by
  refine ⟨a, y, rfl, upd_same, fun dx ndx ne => ⟨rfl, dx, [(("field" : Str), y)], upd_same, ?_, ?_, ?_⟩⟩
  · rw [upd_ne ne, upd_same]
  · rw [upd_ne ne] at ndx
    exact ndx
  · rw [upd_ne ne] at ndx
    refine h _ dx (fun b o e => ?_) ndx upd_same
    have nb : b ≠ dx := ne_of_none e ndx
    have nba : b ≠ a := ne_of_none e na
    rw [upd_ne nb, del_ne nba, upd_ne nba, upd_ne nb, upd_ne nba]
    exact e
/-! ### Place.__init__ -/
/-- Place, as the written part tells it -/
structure ClsT (K : PySem.W.Frag) (C : Addr) : Prop where
  cl : Cls K C
  nh : NoAttr K C "held"
def spInit (C CN : Addr) : Sp := fun vs H Q E => ∃ (x dx : Addr) (v0 v1 v2 v3 v4 : V), vs = [.ref x, v0, v1, v2, v3, v4] ∧ H x = some (.ins C dx []) ∧ (Thg H v0 ∧ Thg H v1 ∧ Thg H v2 ∧ Thg H v3 ∧ Thg H v4) ∧
  (wrongF v0 v1 v2 v3 v4 = Str.ofString "" → ∀ H' t, But x H H' → H' x = some (.ins C dx [(("held" : Str), .ref t)]) → H' t = some (.tup [v0, v1, v2, v3, v4]) → Q .non H') ∧
  (wrongF v0 v1 v2 v3 v4 ≠ Str.ofString "" → ∀ H' d, Same H H' → H d = none → H' d = some (.xd [(("field" : Str), .str (wrongF v0 v1 v2 v3 v4))]) → E (.ref CN) (some d) H')
theorem lit_ne {s : String} (h : (Str.ofString s).length ≠ 0) : Str.ofString s ≠ Str.ofString "" := fun e => h (by rw [e]; decide +kernel)
theorem ok_init {C CN f fE fW fA fB fM fD : Addr} {fd fdE fdW fdA fdB fdM fdD : FuncData} {u1 u2 u3 u4 : Tok} {aM : Addr} {k : Nat} (F : FunD K "__init__" "Place.__init__" (defArgs st_init) (defBody st_init) (defScope st_init) [.str (Str.ofString "one"), .str (Str.ofString "word"), .non, .str (Str.ofString "")] [] f fd)
    (FE : Fun K "__init__" "NoPlace.__init__" st_err fE fdE) (TE : ErrT K mg "NoPlace" CN fE fdE) (T : ClsT K C)
    (D_is_text_within : Df K mg "is_text_within" st_is_text_within ["value", "most"] fW fdW) (D_is_name : Df K mg "is_name" st_is_name ["value"] fA fdA) (D_is_about : Df K mg "is_about" st_is_about ["value"] fB fdB)
    (D_is_among : Df K mg "is_among" st_is_among ["value", "texts"] fM fdM) (D_is_default : Df K mg "is_default" st_is_default ["value", "allowed"] fD fdD)
    (m_len : mg "len" = none) (m_str : mg "str" = none) (m_isinstance : mg "isinstance" = none) (m_all : mg "all" = none) (c_MOST_NAME_SIGNS : mg "MOST_NAME_SIGNS" = some (.int 10 u1)) (c_NAME_SIGNS : mg "NAME_SIGNS" = some (.str nameSet u2))
    (c_MOST_ABOUT_SIGNS : mg "MOST_ABOUT_SIGNS" = some (.int 200 u3)) (c_MOST_DEFAULT_SIGNS : mg "MOST_DEFAULT_SIGNS" = some (.int 60 u4)) (c_MANIES : mg "MANIES" = some (.ref aM)) (hM : ∀ H, SqT K H aM (manies.map V.str)) :
    FnOk P w K mg base (L2.CX P w) (k + 3) f fd ["self", "name", "many", "maker", "default", "about"] (spInit C CN) := by
  have GE : FnOk P w K mg base CX0 (k + 1) fE fdE ["self", "field"] (spErr CN) := ok_err FE TE
  have G_is_name : FnOk P w K mg base CX0 (k + 2) fA fdA ["value"] (spOf isNm) := ok_isName D_is_name.F D_is_text_within m_len m_str m_isinstance m_all c_MOST_NAME_SIGNS c_NAME_SIGNS
  have G_is_about : FnOk P w K mg base CX0 (k + 2) fB fdB ["value"] (spOf isAb) := ok_isAbout D_is_about.F D_is_text_within m_len m_str m_isinstance c_MOST_ABOUT_SIGNS
  have G_is_among : FnOk P w K mg base CX0 (k + 2) fM fdM ["value", "texts"] (spAmong K) := ok_isAmong D_is_among.F m_str m_isinstance
  have G_is_default : FnOk P w K mg base CX0 (k + 2) fD fdD ["value", "allowed"] spDefault := ok_isDefault D_is_default.F D_is_text_within m_len m_str m_isinstance c_MOST_DEFAULT_SIGNS
  refine F.ok sc_init (fun vs H Q E h => ?_) (fun cdv A outer s H vs Q E hr h => ?_)
  · obtain ⟨x, dx, v0, v1, v2, v3, v4, rfl, _⟩ := h
    rfl
  · obtain ⟨x, dx, v0, v1, v2, v3, v4, rfl, ex, ⟨t0, t1, t2, t3, t4⟩, qok, qbad⟩ := h
    refine ⟨_, pss_cons (ps_if (pt_not (pt_val (pe_call G_is_name hr (by rfl) D_is_name.g D_is_name.F.kp D_is_name.b .nil pass0 (pa_cons (pv 1) pa_nil)))) (pss_one (ps_raise rfl (takes_of rfl rfl rfl rfl) (pmk_oex TE.o TE.i TE.t GE hr TE.b .nil pass0 (by rfl) TE.g (pa_cons pe_str pa_nil)))) pss_nil)
      (pss_cons (ps_if (pt_not (pt_val (pe_call G_is_among hr (by rfl) D_is_among.g D_is_among.F.kp D_is_among.b .nil pass0 (pa_cons (pv 2) (pa_cons (pe_glob (v := .ref aM) rfl c_MANIES rfl) pa_nil))))) (pss_one (ps_raise rfl (takes_of rfl rfl rfl rfl) (pmk_oex TE.o TE.i TE.t GE hr TE.b .nil pass0 (by rfl) TE.g (pa_cons pe_str pa_nil)))) pss_nil)
      (pss_cons (ps_if (pt_not (pt_val (pe_call G_is_name hr (by rfl) D_is_name.g D_is_name.F.kp D_is_name.b .nil pass0 (pa_cons (pv 3) pa_nil)))) (pss_one (ps_raise rfl (takes_of rfl rfl rfl rfl) (pmk_oex TE.o TE.i TE.t GE hr TE.b .nil pass0 (by rfl) TE.g (pa_cons pe_str pa_nil)))) pss_nil)
      (pss_cons (ps_if (pt_not (pt_val (pe_call G_is_default hr (by rfl) D_is_default.g D_is_default.F.kp D_is_default.b .nil pass0 (pa_cons (pv 4) (pa_cons (pe_cmpR op_eq (pv 2) pe_str (nomark _)) pa_nil))))) (pss_one (ps_raise rfl (takes_of rfl rfl rfl rfl) (pmk_oex TE.o TE.i TE.t GE hr TE.b .nil pass0 (by rfl) TE.g (pa_cons pe_str pa_nil)))) pss_nil)
      (pss_cons (ps_if (pt_not (pt_val (pe_call G_is_about hr (by rfl) D_is_about.g D_is_about.F.kp D_is_about.b .nil pass0 (pa_cons (pv 5) pa_nil)))) (pss_one (ps_raise rfl (takes_of rfl rfl rfl rfl) (pmk_oex TE.o TE.i TE.t GE hr TE.b .nil pass0 (by rfl) TE.g (pa_cons pe_str pa_nil)))) pss_nil)
      (pss_one (ps_fld (pv 0) (pe_tup (pa_cons (pv 1) (pa_cons (pv 2) (pa_cons (pv 3) (pa_cons (pv 4) (pa_cons (pv 5) pa_nil)))))) rfl)))))), ?_⟩
    refine ⟨v0, rfl, v0, rfl, t0, fun H1 s1 => ⟨_, rfl, ?_⟩⟩
    cases b0 : isNm v0 with
    | false =>
      have e : wrongF v0 v1 v2 v3 v4 = Str.ofString "name" := by unfold wrongF; rw [if_pos b0]
      rw [e] at qbad
      refine ⟨by show 1 ≤ 1000; decide, fun a na => err_out (x := x) (fun H' d sm nd ed => qbad (lit_ne (by decide +kernel)) H' d (s1.trans sm) (s1.free nd) ed) a na⟩
    | true =>
      refine ⟨v1, rfl, v1, aM, manies, rfl, t1.same s1, hM _, _, rfl, ?_⟩
      cases b1 : among v1 manies with
      | false =>
        have e : wrongF v0 v1 v2 v3 v4 = Str.ofString "many" := by unfold wrongF; rw [if_neg (by rw [b0]; decide), if_pos b1]
        rw [e] at qbad
        refine ⟨by show 1 ≤ 1000; decide, fun a na => err_out (x := x) (fun H' d sm nd ed => qbad (lit_ne (by decide +kernel)) H' d (s1.trans sm) (s1.free nd) ed) a na⟩
      | true =>
        refine ⟨v2, rfl, v2, rfl, t2.same s1, fun H2 s2 => ⟨_, rfl, ?_⟩⟩
        have s12 := s1.trans s2
        cases b2 : isNm v2 with
        | false =>
          have e : wrongF v0 v1 v2 v3 v4 = Str.ofString "maker" := by unfold wrongF; rw [if_neg (by rw [b0]; decide), if_neg (by rw [b1]; decide), if_pos b2]
          rw [e] at qbad
          refine ⟨by show 1 ≤ 1000; decide, fun a na => err_out (x := x) (fun H' d sm nd ed => qbad (lit_ne (by decide +kernel)) H' d (s12.trans sm) (s12.free nd) ed) a na⟩
        | true =>
          cases v1 with
          | str z1 =>
            refine ⟨v3, rfl, .str z1, rfl, rfl, v3, _, rfl, t3.same s12, _, rfl, ?_⟩
            have em : decide (V.str z1 = V.str (Str.ofString "maybe")) = isMb (.str z1) := rfl
            rw [em]
            cases b3 : dflt v3 (isMb (.str z1)) with
            | false =>
              have e : wrongF v0 (.str z1) v2 v3 v4 = Str.ofString "default" := by unfold wrongF; rw [if_neg (by rw [b0]; decide), if_neg (by rw [b1]; decide), if_neg (by rw [b2]; decide), if_pos b3]
              rw [e] at qbad
              refine ⟨by show 1 ≤ 1000; decide, fun a na => err_out (x := x) (fun H' d sm nd ed => qbad (lit_ne (by decide +kernel)) H' d (s12.trans sm) (s12.free nd) ed) a na⟩
            | true =>
              refine ⟨v4, rfl, v4, rfl, t4.same s12, fun H4 s4 => ⟨_, rfl, ?_⟩⟩
              have s14 := s12.trans s4
              cases b4 : isAb v4 with
              | false =>
                have e : wrongF v0 (.str z1) v2 v3 v4 = Str.ofString "about" := by unfold wrongF; rw [if_neg (by rw [b0]; decide), if_neg (by rw [b1]; decide), if_neg (by rw [b2]; decide), if_neg (by rw [b3]; decide), if_pos b4]
                rw [e] at qbad
                refine ⟨by show 1 ≤ 1000; decide, fun a na => err_out (x := x) (fun H' d sm nd ed => qbad (lit_ne (by decide +kernel)) H' d (s14.trans sm) (s14.free nd) ed) a na⟩
              | true =>
                have e : wrongF v0 (.str z1) v2 v3 v4 = Str.ofString "" := by unfold wrongF; rw [if_neg (by rw [b0]; decide), if_neg (by rw [b1]; decide), if_neg (by rw [b2]; decide), if_neg (by rw [b3]; decide), if_neg (by rw [b4]; decide)]
                have ex4 := s14 _ _ ex
                refine ⟨_, rfl, _, rfl, _, rfl, _, rfl, _, rfl, by show 5 ≤ sizeLine; decide, fun t nt => ?_⟩
                have nxt : x ≠ t := ne_of_none ex4 nt
                refine ⟨.ref x, rfl, x, C, dx, [], rfl, ?_, T.cl, T.nh, by decide, ?_⟩
                · rw [upd_ne nxt]
                  exact ex4
                · refine qok e _ t (fun b o nb eb => ?_) upd_same ?_
                  · rw [upd_ne nb]
                    exact same_upd nt _ _ (s14 _ _ eb)
                  · rw [upd_ne nxt.symm, upd_same]
          | _ => cases b1
/-! ### the methods -/
end
end WP

set_option Elab.async false
set_option linter.all false
set_option maxRecDepth 100000
set_option maxHeartbeats 4000000
namespace WB
open PySem PySem.Spec PyProof.Rows L2 WG
open TL (tl)
/-! ### signs and names as they have to be -/
theorem cut1 (z : Str) : tl (cutS z (some 1) none) = (tl z).drop 1 := by
  show ((z.cps.toList.drop (HT.sIx z.length 0 (some 1))).take (HT.sIx z.length z.length none - HT.sIx z.length 0 (some 1))) = _
  rw [HT.sIx_none, show HT.sIx z.length 0 (some 1) = min 1 z.length from HT.sIx_nat z.length 0 1]
  have hl : z.length = z.cps.toList.length := TL.len_tl z
  show (z.cps.toList.drop (min 1 z.length)).take (z.length - min 1 z.length) = z.cps.toList.drop 1
  by_cases h : 1 ≤ z.length
  · rw [Nat.min_eq_left h, List.take_of_length_le (by rw [List.length_drop]; omega)]
  · rw [Nat.min_eq_right (by omega), List.drop_of_length_le (by omega), List.drop_of_length_le (by omega), List.take_nil]
structure Sg (n : Nat) (y : Str) : Prop where
  pos : 0 < y.length
  le : y.length ≤ n
  al : ∀ c ∈ tl y, c ∈ tl allSigns
theorem Sg.one {c : Nat} (h : c ∈ tl allSigns) : Sg 1 ⟨#[c]⟩ := ⟨by show 0 < 1; decide, Nat.le_refl _, fun d hd => by
  have hd' : d ∈ [c] := hd
  rw [List.mem_singleton.mp hd']
  exact h⟩
theorem Sg.tx {n : Nat} {y : Str} (h : Sg n y) : Tx n y := ⟨h.le, fun c hc => allSigns_len.2.2 c (h.al c hc)⟩
theorem Sg.nob {n : Nat} {y : Str} (h : Sg n y) : 32 ∉ tl y := fun hc => by
  have := h.al 32 hc
  exact absurd this (by decide +kernel)
theorem Sg.len1 {y : Str} (h : Sg 1 y) : y.length = 1 := by
  have := h.pos
  have := h.le
  omega
theorem join0 : ∀ ys : List Str, (∀ y ∈ ys, y.length = 1) → (Txt.join (Str.ofString "") ys).length = ys.length := by
  intro ys h
  rw [TL.join_eq, TL.len_tl, TL.tl_join]
  have e : tl (Str.ofString "") = [] := by decide +kernel
  rw [e]
  induction ys with
  | nil => rfl
  | cons a r ih =>
    have ha := h a List.mem_cons_self
    rw [TL.len_tl] at ha
    cases r with
    | nil => exact ha
    | cons b s =>
      have ih' := ih fun y hy => h y (List.mem_cons_of_mem _ hy)
      show (tl a ++ ([] ++ TL.joinL [] ((b :: s).map tl))).length = _
      rw [List.nil_append, List.length_append, ha, ih']
      show 1 + (s.length + 1) = s.length + 1 + 1
      omega
theorem sp_tl : tl (Str.ofString " ") = [32] := by decide +kernel
theorem ab_split {z : Str} {ps : List Str} (hl : z.length ≤ 200) (hs : Txt.split z (Str.ofString " ") = ps) (hp : ∀ p ∈ ps, 0 < p.length) : ab z = true := by
  unfold ab
  rw [decide_eq_true hl, hs, Bool.true_and]
  refine Bool.or_eq_true_iff.mpr (.inr ?_)
  cases h : inV (.str (Str.ofString "")) (ps.map V.str) with
  | false => rfl
  | true =>
    exfalso
    unfold inV at h
    obtain ⟨v, hv, e⟩ := List.any_eq_true.mp h
    obtain ⟨p, hpm, rfl⟩ := List.mem_map.mp hv
    have e' : p = Str.ofString "" := eq_of_beq e
    have := hp p hpm
    rw [e'] at this
    exact absurd this (by decide +kernel)
theorem ab_join {ys : List Str} (ne : ys ≠ []) (hl : (Txt.join (Str.ofString " ") ys).length ≤ 200) (h : ∀ y ∈ ys, 0 < y.length ∧ 32 ∉ tl y) : ab (Txt.join (Str.ofString " ") ys) = true :=
  ab_split hl (TL.split_join sp_tl (by decide +kernel) ne fun p hp => (h p hp).2) fun p hp => (h p hp).1
theorem ab_one {z : Str} (h0 : 0 < z.length) (hl : z.length ≤ 200) (h : 32 ∉ tl z) : ab z = true := by
  have := ab_join (ys := [z]) (by simp) hl (fun y hy => by rw [List.mem_singleton.mp hy]; exact ⟨h0, h⟩)
  exact this
theorem nameSigns_in : ∀ y ∈ nameSigns, ∀ c ∈ tl y, c ∈ tl nameSet := by decide +kernel
/-- the first i of n signs of a name -/
structure Lq (n i : Nat) (cs : List Nat) : Prop where
  len : cs.length = i
  al : ∀ c ∈ cs, c ∈ tl nameSet
  hd : cs.take 1 ≠ [45]
  la : i = n → 0 < n → cs.getLast? ≠ some 45
theorem Lq.nil {n : Nat} : Lq n 0 (tl (Str.ofString "")) := by
  have e : tl (Str.ofString "") = [] := by decide +kernel
  rw [e]
  exact ⟨rfl, (fun c hc => by cases hc), by decide, fun h1 h2 => by omega⟩
theorem Lq.snoc {n i : Nat} {cs : List Nat} (h : Lq n i cs) {c : Nat} (hc : c ∈ tl nameSet) (hd : i = 0 ∨ i + 1 = n → c ≠ 45) : Lq n (i + 1) (cs ++ [c]) := by
  refine ⟨by rw [List.length_append, h.len]; rfl, fun d hd' => ?_, ?_, fun h1 _ => ?_⟩
  · rcases List.mem_append.mp hd' with z | z
    · exact h.al d z
    · rw [List.mem_singleton.mp z]
      exact hc
  · cases cs with
    | nil =>
      have e : i = 0 := h.len.symm
      intro z
      exact hd (.inl e) (List.cons.inj z).1
    | cons a r => exact h.hd
  · rw [List.getLast?_concat]
    intro z
    exact hd (.inr h1) (Option.some.inj z)
theorem Lq.fin {n : Nat} {cs : List Nat} (h : Lq n n cs) (h0 : 0 < n) (h1 : n ≤ 10) (t : cs.take 3 ≠ [110, 111, 45]) : nm cs = true := by
  unfold nm
  have e1 : cs ≠ [] := fun e => by
    have := h.len
    rw [e] at this
    exact absurd this (by simp; omega)
  have e2 : cs.length ≤ 10 := by rw [h.len]; exact h1
  rw [decide_eq_true e1, decide_eq_true e2, decide_eq_false h.hd, decide_eq_false (h.la rfl h0), decide_eq_false t, List.all_eq_true.mpr (fun c hc => decide_eq_true (h.al c hc))]
  rfl
theorem Lq.no {n : Nat} {cs : List Nat} (h : Lq n n cs) (h0 : 0 < n) (h1 : n ≤ 10) (t : cs.take 3 = [110, 111, 45]) : nm ([109] ++ cs.drop 1) = true := by
  have m : 109 ∈ tl nameSet := by decide +kernel
  have hl := h.len
  have la := h.la rfl h0
  match cs, h, hl, la, t with
  | [], _, _, _, t => cases t
  | [a], _, _, _, t => cases t
  | a :: b :: r, h, hl, la, t =>
    refine Lq.fin (n := n) ⟨hl, fun d hd' => ?_, by show [109] ≠ [45]; decide, fun _ _ z => la ?_⟩ h0 h1 (fun z => by cases z)
    · rcases List.mem_cons.mp hd' with z | z
      · rw [z]
        exact m
      · exact h.al d (List.mem_cons_of_mem _ z)
    · have e1 : ([109] ++ (a :: b :: r).drop 1).getLast? = (b :: r).getLast? := by
        show (109 :: b :: r).getLast? = _
        rw [List.getLast?_cons_cons]
      rw [List.getLast?_cons_cons, ← e1]
      exact z
section
variable {P : Program} {w : World} {K : PySem.W.Frag} {mg : Str → Option Value} {base : Heap}
def spNm : Sp := fun vs H Q _ => ∃ p : Addr, vs = [.ref p] ∧ Pot H p ∧ ∀ H' (y : Str), But p H H' → Pot H' p → nm (tl y) = true → Q (.str y) H'
theorem ok_nm {f fT : Addr} {fd fdT : FuncData} {k : Nat} (F : Fun K "_law_name" "_law_name" sName f fd) (T : Df K mg "_law_take" sTake ["_law_pot_here", "_law_room"] fT fdT) (mL : mg "len" = none) (mR : mg "range" = none) :
    FnOk P w K mg base CX0 (k + 2) f fd ["_law_pot_here"] spNm := by
  have GT : FnOk P w K mg base CX0 (k + 1) fT fdT ["_law_pot_here", "_law_room"] spTake := ok_take T.F
  refine F.ok scName (fun vs H Q E h => ?_) (fun cdv A outer s H vs Q E hr h => ?_)
  · obtain ⟨p, rfl, _⟩ := h
    rfl
  · obtain ⟨p, rfl, hp, q⟩ := h
    refine ⟨_, pss_cons (ps_set (i := 1) scName.nd rfl (.inl rfl) (pe_ix ix_list (pe_lst (pa_cons pe_str (pa_cons pe_str (pa_cons pe_str pa_nil)))) (pe_call GT hr (by rfl) T.g T.F.kp T.b .nil pass0 (pa_cons (pv 0) (pa_cons pe_int pa_nil))) (fun _ _ => rfl)))
      (pss_cons (ps_set (i := 2) scName.nd rfl (.inl rfl) (pe_op op_add pe_int (pe_call GT hr (by rfl) T.g T.F.kp T.b .nil pass0 (pa_cons (pv 0) (pa_cons (pe_ix ix_list (pe_lst (pa_cons pe_int (pa_cons pe_int pa_nil)))
        (pe_call GT hr (by rfl) T.g T.F.kp T.b .nil pass0 (pa_cons (pv 0) (pa_cons pe_int pa_nil))) (fun _ _ => rfl)) pa_nil)))))
      (pss_cons (ps_set (i := 3) scName.nd rfl (.inl rfl) pe_str)
      (pss_cons (ps_for PassesOwn.never rfl (pi_range1 rfl mR (pa_cons (pv 2) pa_nil)) (pg_name (i := 4) scName.nd rfl (Or.inl rfl))
        (pss_cons (ps_set (i := 5) scName.nd rfl (.inl rfl) (pe_ix ix_str (pv 1) (pe_call GT hr (by rfl) T.g T.F.kp T.b .nil pass0 (pa_cons (pv 0) (pa_cons (pe_callB call_len_str (by rfl) mL PySem.boot_len (pa_cons (pv 1) pa_nil)) pa_nil))) (fun _ _ => rfl)))
        (pss_cons (ps_if (PW.pt (pw_and (pt_cmpR op_eq (pv 5) pe_str (nomark _)) (pw_and1 (pt_cmpR op_in_seq (pv 4) (pe_tup (pa_cons pe_int (pa_cons (pe_op op_sub (pv 2) pe_int) pa_nil))) (by rfl)))))
          (pss_one (ps_set (i := 5) scName.nd rfl (.inl rfl) pe_str)) pss_nil)
        (pss_one (ps_set (i := 3) scName.nd rfl (.inl rfl) (pe_op op_add_str (pv 3) (pv 5)))))))
      (pss_cons (ps_if (pt_cmpR op_eq (pe_slice sl_str (pv 3) po_none (po_some pe_int)) pe_str (nomark _))
        (pss_one (ps_set (i := 3) scName.nd rfl (.inl rfl) (pe_op op_add_str pe_str (pe_slice sl_str (pv 3) (po_some pe_int) po_none)))) pss_nil)
      (pss_one (ps_ret (pv 3))))))), ?_⟩
    refine ⟨by decide +kernel, fun l1 n1 => ?_⟩
    have p1 := hp.new (o := .lst (nameSigns.map V.str)) n1
    have nl1 := hp.ne n1
    refine ⟨.ref p, rfl, p, 3, rfl, p1, by decide, by decide, fun H2 d2 b2 p2 d20 d21 => ?_⟩
    obtain ⟨z, hzm, hze⟩ := at_strs nameSigns d2 d20 (by show d2 < 3; exact d21)
    obtain ⟨hz0, hz1, hz2⟩ := nameSigns_len z hzm
    refine ⟨l1, _, d2, .str z, rfl, rfl, SqL.of (b2 _ _ nl1.symm upd_same), hze, .ref p, rfl, by decide +kernel, fun l2 n2 => ?_⟩
    have p3 := p2.new (o := .lst ([(3 : Int), 10].map V.int)) n2
    have nl2 := p2.ne n2
    refine ⟨.ref p, rfl, p, 2, rfl, p3, by decide, by decide, fun H4 d4 b4 p4 d40 d41 => ?_⟩
    obtain ⟨mo, mom, moe⟩ := at_ints [(3 : Int), 10] d4 d40 (by show d4 < 2; exact d41)
    have hmo : 0 < mo ∧ mo ≤ 10 := (by decide : ∀ y ∈ [(3 : Int), 10], 0 < y ∧ y ≤ 10) mo mom
    refine ⟨l2, _, d4, .int mo, rfl, rfl, SqL.of (b4 _ _ nl2.symm upd_same), moe, p, mo, rfl, p4, hmo.1, by omega, fun H5 d5 b5 p5 d50 d51 => ?_⟩
    refine ⟨1, d5, rfl, rfl, ?_⟩
    have bb : But p H H5 := ((((But.new n1).trans b2).trans (But.new n2)).trans b4).trans b5
    have hzn := nameSigns_in z hzm
    have e101 : (101 : Nat) ∈ tl nameSet := by decide +kernel
    refine ⟨.int (1 + d5), rfl, _, rfl, by omega, by omega, for_range (lo := 0) (n := (1 + d5).toNat) (fun i σ H' => But p H5 H' ∧ Pot H' p ∧ ∃ (x : Str) (x4 x5 : Option V), σ = [some (.ref p), some (.str z), some (.int (1 + d5)), some (.str x), x4, x5] ∧ Lq (1 + d5).toNat i (tl x))
      ⟨But.refl _ _, p5, Str.ofString "", none, none, rfl, Lq.nil⟩ ?_ ?_⟩
    · rintro i σ H6 hi ⟨b6, p6, x, x4, x5, rfl, hx⟩
      have hzl : z.length ≤ sizeLine := Nat.le_trans hz1 (by decide)
      refine ⟨.str z, rfl, .ref p, rfl, .str z, rfl, z, rfl, hzl, p, z.length, rfl, p6, by omega, by omega, fun H7 j b7 p7 j0 j1 => ?_⟩
      obtain ⟨n, rfl⟩ := Int.eq_ofNat_of_zero_le j0
      have hn : n < z.cps.toList.length := by
        have e : z.cps.toList.length = z.length := by simp [Str.length]
        omega
      have cm : z.cps.toList[n] ∈ tl nameSet := hzn _ (List.getElem_mem hn)
      have lx : x.length = i := by
        rw [TL.len_tl]
        exact hx.len
      refine ⟨z, n, z.cps.toList[n], rfl, rfl, hzl, atI_nat (List.getElem?_eq_getElem hn), ?_⟩
      have fin : ∀ (H8 : Hp) (c : Nat), But p H7 H8 → Pot H8 p → c ∈ tl nameSet → (i = 0 ∨ i + 1 = (1 + d5).toNat → c ≠ 45) → (tAsg (tOp (fun x y H Q => ∃ i j, x = .str i ∧ y = .str j ∧ i.length + j.length ≤ sizeLine ∧ Q (.str (i ++ j)) H) (tVar 3) (tVar 5)) (gName 3)) { nx := fun σ H' => But p H5 H' ∧ Pot H' p ∧ ∃ (x : Str) (x4 x5 : Option V), σ = [some (.ref p), some (.str z), some (.int (1 + d5)), some (.str x), x4, x5] ∧ Lq (1 + d5).toNat (i + 1) (tl x), rt := Q }
          [some (.ref p), some (.str z), some (.int (1 + d5)), some (.str x), some (.int (0 + (i : Int))), some (.str ⟨#[c]⟩)] H8 := by
        intro H8 c b8 p8 hc hd
        refine ⟨_, rfl, _, rfl, x, ⟨#[c]⟩, rfl, rfl, ?_, (b6.trans b7).trans b8, p8, x ++ ⟨#[c]⟩, _, _, rfl, ?_⟩
        · show x.length + 1 ≤ _
          exact Nat.le_of_lt (small1000 (by omega))
        · rw [TL.tl_append]
          exact hx.snoc hc hd
      refine ⟨_, rfl, rfl, _, rfl, ite2 (fun e => ?_) (fun e => ?_)⟩
      · refine ⟨_, rfl, .int (1 + d5), rfl, _, _, rfl, rfl, by show 2 ≤ sizeLine; decide, fun t nt => ?_⟩
        refine ⟨t, _, rfl, .inr (SqT.of upd_same), rfl, rfl, _, rfl, ite2 (fun e2 => ?_) (fun e2 => ?_)⟩
        · exact fin _ 101 (But.new nt) (p7.new nt) e101 (fun _ => by decide)
        · refine fin _ _ (But.new nt) (p7.new nt) cm (fun hi' => ?_)
          exfalso
          refine e2 ?_
          show (eqV (.int 0) (.int (0 + (i : Int))) || (eqV (.int (1 + d5 - 1)) (.int (0 + (i : Int))) || false)) = true
          rcases hi' with z0 | z1
          · rw [z0]
            rfl
          · have e5 : (1 + d5 - 1 : Int) = 0 + (i : Int) := by omega
            rw [e5]
            show (_ || (((0 + (i : Int)) == (0 + (i : Int))) || false)) = true
            rw [beq_self_eq_true, Bool.true_or, Bool.or_true]
      · refine fin _ _ (But.refl _ _) p7 cm (fun _ z45 => e ?_)
        rw [z45]
        decide +kernel
    · rintro σ H6 ⟨b6, p6, x, x4, x5, rfl, hx⟩
      have lx : x.length = (1 + d5).toNat := by
        rw [TL.len_tl]
        exact hx.len
      have hxl : x.length ≤ 10 := by omega
      refine ⟨_, rfl, 3, rfl, x, rfl, Nat.le_trans hxl (by decide), rfl, _, rfl, ite2 (fun e => ?_) (fun e => ?_)⟩
      · have e3 : (tl x).take 3 = [110, 111, 45] := by
          rw [dec_lit _ "no-" (l := [110, 111, 45]) (by decide +kernel)] at e
          rw [← cut3 x]
          exact of_decide_eq_true e
        refine ⟨_, rfl, 1, rfl, x, rfl, Nat.le_trans hxl (by decide), _, _, rfl, rfl, ?_, _, rfl, q _ _ (bb.trans b6) p6 ?_⟩
        · have := cutS_length x (some 1) none
          exact Nat.le_of_lt (small1000 (by rw [show (Str.ofString "m").length = 1 from by decide +kernel]; omega))
        · rw [TL.tl_append, show tl (Str.ofString "m") = [109] from by decide +kernel, cut1 x]
          exact hx.no (by omega) (by omega) e3
      · refine ⟨_, rfl, q _ _ (bb.trans b6) p6 (hx.fin (by omega) (by omega) fun w => e ?_)⟩
        rw [dec_lit _ "no-" (l := [110, 111, 45]) (by decide +kernel)]
        refine decide_eq_true ?_
        rw [cut3 x]
        exact w
def spSg : Sp := fun vs H Q _ => ∃ (p : Addr) (m : Int), vs = [.ref p, .int m] ∧ Pot H p ∧ 0 < m ∧ m ≤ 100 ∧ ∀ H' (y : Str), But p H H' → Pot H' p → Sg m.toNat y → Q (.str y) H'
theorem ok_sg {f fT : Addr} {fd fdT : FuncData} {k : Nat} (F : Fun K "_law_signs" "_law_signs" sSigns f fd) (T : Df K mg "_law_take" sTake ["_law_pot_here", "_law_room"] fT fdT) (mL : mg "len" = none) (mR : mg "range" = none) :
    FnOk P w K mg base CX0 (k + 2) f fd ["_law_pot_here", "_law_most"] spSg := by
  have GT : FnOk P w K mg base CX0 (k + 1) fT fdT ["_law_pot_here", "_law_room"] spTake := ok_take T.F
  refine F.ok scSigns (fun vs H Q E h => ?_) (fun cdv A outer s H vs Q E hr h => ?_)
  · obtain ⟨p, m, rfl, _⟩ := h
    rfl
  · obtain ⟨p, m, rfl, hp, hm0, hm1, q⟩ := h
    refine ⟨_, pss_cons (ps_set (i := 2) scSigns.nd rfl (.inr rfl) pe_str) (pss_one (ps_ret (pe_join pe_str (pe_lc (own := [("_law_k", 3)]) (g := gName 3) (tt := tYes) rfl scSigns.nd
      (pi_range1 rfl mR (pa_cons (pe_op op_add pe_int (pe_call GT hr (by rfl) T.g T.F.kp T.b .nil pass0 (pa_cons (pv 0) (pa_cons (pv 1) pa_nil)))) pa_nil))
      (blkOk_by (N := ["_law_pot_here", "_law_most", "_law_signs_here", "_law_k"]) (sc := defScope sSigns) (by decide +kernel))
      (fun _ _ _ _ _ => pg_name (i := 3) scSigns.nd rfl (Or.inl rfl)) (fun _ _ _ _ _ => pts_nil)
      (fun _ _ _ _ _ => pe_ix ix_str (pv 2) (pe_call GT hr (by rfl) T.g T.F.kp T.b .nil pass0 (pa_cons (pv 0) (pa_cons (pe_callB call_len_str (by rfl) mL PySem.boot_len (pa_cons (pv 2) pa_nil)) pa_nil))) (fun _ _ => rfl)))))), ?_⟩
    obtain ⟨hz0, hz1, hz2⟩ := allSigns_len
    refine ⟨⟨_, rfl⟩, .ref p, rfl, .int m, rfl, p, m, rfl, hp, hm0, by omega, fun H1 d b1 p1 d0 d1 => ?_⟩
    refine ⟨1, d, rfl, rfl, 1 + d, rfl, by omega, by omega, fun T' nT => ?_⟩
    have npT : p ≠ T' := p1.ne nT
    refine lc_range (lo := 0) (n := (1 + d).toNat) (fun i Hc => But p H1 Hc ∧ Pot Hc p ∧ ∃ ys : List Str, Hc T' = some (.lst (ys.map V.str)) ∧ ys.length = i ∧ ∀ y ∈ ys, Sg 1 y)
      ⟨But.new nT, p1.new nT, [], upd_same, rfl, fun y hy => by cases hy⟩ (fun i Hc hi ⟨bc, pc, ys, eT, el, e1⟩ => ?_) (fun Hc ⟨bc, pc, ys, eT, el, e1⟩ => ?_)
    · refine ⟨rfl, ?_⟩
      have hzl : allSigns.length ≤ sizeLine := Nat.le_trans hz1 (by decide)
      refine ⟨.str allSigns, rfl, .ref p, rfl, .str allSigns, rfl, allSigns, rfl, hzl, p, allSigns.length, rfl, pc, by omega, by omega, fun H4 j b4 p4 j0 j1 => ?_⟩
      obtain ⟨n, rfl⟩ := Int.eq_ofNat_of_zero_le j0
      have hn : n < allSigns.cps.toList.length := by
        have e : allSigns.cps.toList.length = allSigns.length := by simp [Str.length]
        omega
      have eT4 : H4 T' = some (.lst (ys.map V.str)) := b4 T' _ npT.symm eT
      refine ⟨allSigns, n, allSigns.cps.toList[n], rfl, rfl, hzl, atI_nat (List.getElem?_eq_getElem hn), ys.map V.str, eT4, ?_, ?_, ?_, ys ++ [⟨#[allSigns.cps.toList[n]]⟩], ?_, ?_, ?_⟩
      · rw [List.length_map, el]
        exact small1000 (by omega)
      · exact fun b o nb e => by
          rw [upd_ne (ne_of_none e nT)]
          exact b4 b o nb (bc b o nb e)
      · obtain ⟨x, y, e, h1, h2⟩ := p4
        refine ⟨x, y, ?_, h1, h2⟩
        rw [upd_ne npT]
        exact e
      · rw [upd_same, List.map_append]
        rfl
      · rw [List.length_append, el]
        rfl
      · intro y hy
        rcases List.mem_append.mp hy with hy | hy
        · exact e1 y hy
        · rw [List.mem_singleton.mp hy]
          exact Sg.one (List.getElem_mem hn)
    · have e0 : (Str.ofString "").length = 0 := by decide +kernel
      have es := sum_most 1 ys (fun y hy => (e1 y hy).tx)
      refine ⟨_, T', ys, rfl, rfl, .inl (SqL.of eT), ?_, q _ _ (b1.trans bc) pc ?_⟩
      · rw [e0]
        omega
      · have jl := join0 ys (fun y hy => (e1 y hy).len1)
        refine ⟨by rw [jl]; omega, by rw [jl]; omega, fun c hc => ?_⟩
        rw [TL.join_eq, TL.tl_join] at hc
        rcases mem_joinL _ _ c hc with h1 | ⟨p', hp', h1⟩
        · rw [show tl (Str.ofString "") = [] from by decide +kernel] at h1
          cases h1
        · obtain ⟨y, hy, rfl⟩ := List.mem_map.mp hp'
          exact (e1 y hy).al c h1
def spAb : Sp := fun vs H Q _ => ∃ p : Addr, vs = [.ref p] ∧ Pot H p ∧ ∀ H' (y : Str), But p H H' → Pot H' p → Tx 300 y → ab y = true → Q (.str y) H'
theorem ok_ab {f fT fS : Addr} {fd fdT fdS : FuncData} {k : Nat} (F : Fun K "_law_about" "_law_about" sAbout f fd) (T : Df K mg "_law_take" sTake ["_law_pot_here", "_law_room"] fT fdT) (S : Df K mg "_law_signs" sSigns ["_law_pot_here", "_law_most"] fS fdS)
    (mL : mg "len" = none) (mR : mg "range" = none) : FnOk P w K mg base CX0 (k + 3) f fd ["_law_pot_here"] spAb := by
  have GT : FnOk P w K mg base CX0 (k + 2) fT fdT ["_law_pot_here", "_law_room"] spTake := ok_take T.F
  have GS : FnOk P w K mg base CX0 (k + 2) fS fdS ["_law_pot_here", "_law_most"] spSg := ok_sg S.F T mL mR
  refine F.ok scAbout (fun vs H Q E h => ?_) (fun cdv A outer s H vs Q E hr h => ?_)
  · obtain ⟨p, rfl, _⟩ := h
    rfl
  · obtain ⟨p, rfl, hp, q⟩ := h
    refine ⟨_, pss_cons (ps_set (i := 1) scAbout.nd rfl (.inl rfl) (pe_call GT hr (by rfl) T.g T.F.kp T.b .nil pass0 (pa_cons (pv 0) (pa_cons pe_int pa_nil))))
      (pss_cons (ps_if (pt_cmpR op_eq (pv 1) pe_int (nomark _)) (pss_one (ps_ret pe_str)) pss_nil)
      (pss_cons (ps_if (pt_cmpR op_eq (pv 1) pe_int (nomark _)) (pss_one (ps_ret (pe_op op_mul_str (pe_call GS hr (by rfl) S.g S.F.kp S.b .nil pass0 (pa_cons (pv 0) (pa_cons pe_int pa_nil))) pe_int))) pss_nil)
      (pss_one (ps_ret (pe_join pe_str (pe_lc (own := [("_law_k", 2)]) (g := gName 2) (tt := tYes) rfl scAbout.nd
      (pi_range1 rfl mR (pa_cons (pe_op op_add pe_int (pe_call GT hr (by rfl) T.g T.F.kp T.b .nil pass0 (pa_cons (pv 0) (pa_cons pe_int pa_nil)))) pa_nil))
      (blkOk_by (N := ["_law_pot_here", "_law_way", "_law_k"]) (sc := defScope sAbout) (by decide +kernel))
      (fun _ _ _ _ _ => pg_name (i := 2) scAbout.nd rfl (Or.inl rfl)) (fun _ _ _ _ _ => pts_nil)
      (fun _ _ _ _ _ => pe_call GS hr (by rfl) S.g S.F.kp S.b .nil pass0 (pa_cons (pv 0) (pa_cons pe_int pa_nil))))))))), ?_⟩
    refine ⟨.ref p, rfl, p, 6, rfl, hp, by decide, by decide, fun H1 d1 b1 p1 d10 d11 => ?_⟩
    refine ⟨_, rfl, rfl, _, rfl, ite2 (fun e => q _ _ b1 p1 (Tx.lit "" _ (by decide +kernel) (by decide +kernel)) (by decide +kernel)) (fun e => ?_)⟩
    refine ⟨_, rfl, rfl, _, rfl, ite2 (fun e => ?_) (fun e => ?_)⟩
    · refine ⟨.ref p, rfl, p, 1, rfl, p1, by decide, by decide, fun H2 y b2 p2 hy => ?_⟩
      have hy1 : y.length ≤ 1 := hy.le
      have hy0 : 0 < y.length := hy.pos
      exact ⟨y, 200, rfl, rfl, by decide, by omega, fun z hz hc => q _ _ (b1.trans b2) p2 ⟨by omega, fun c h => hy.tx.pl c (hc c h)⟩ (ab_one (by omega) (by omega) (fun h => hy.nob (hc _ h)))⟩
    · refine ⟨⟨_, rfl⟩, .ref p, rfl, p, 12, rfl, p1, by decide, by decide, fun H2 d2 b2 p2 d20 d21 => ?_⟩
      refine ⟨1, d2, rfl, rfl, 1 + d2, rfl, by omega, by omega, fun T' nT => ?_⟩
      have npT : p ≠ T' := p2.ne nT
      refine lc_range (lo := 0) (n := (1 + d2).toNat) (fun i Hc => But p H2 Hc ∧ Pot Hc p ∧ ∃ ys : List Str, Hc T' = some (.lst (ys.map V.str)) ∧ ys.length = i ∧ ∀ y ∈ ys, Sg 15 y)
        ⟨But.new nT, p2.new nT, [], upd_same, rfl, fun y hy => by cases hy⟩ (fun i Hc hi ⟨bc, pc, ys, eT, el, e1⟩ => ?_) (fun Hc ⟨bc, pc, ys, eT, el, e1⟩ => ?_)
      · refine ⟨rfl, ?_⟩
        refine ⟨.ref p, rfl, p, 15, rfl, pc, by decide, by decide, fun H4 y b4 p4 hy => ?_⟩
        have eT4 : H4 T' = some (.lst (ys.map V.str)) := b4 T' _ npT.symm eT
        refine ⟨ys.map V.str, eT4, ?_, ?_, ?_, ys ++ [y], ?_, ?_, ?_⟩
        · rw [List.length_map, el]
          exact small1000 (by omega)
        · exact fun b o nb e => by
            rw [upd_ne (ne_of_none e nT)]
            exact b4 b o nb (bc b o nb e)
        · obtain ⟨x, y, e, h1, h2⟩ := p4
          refine ⟨x, y, ?_, h1, h2⟩
          rw [upd_ne npT]
          exact e
        · rw [upd_same, List.map_append]
          rfl
        · rw [List.length_append, el]
          rfl
        · intro z hz
          rcases List.mem_append.mp hz with hz | hz
          · exact e1 z hz
          · rw [List.mem_singleton.mp hz]
            exact hy
      · have e0 : (Str.ofString " ").length = 1 := by decide +kernel
        have es := sum_most 15 ys (fun y hy => (e1 y hy).tx)
        have tj : Tx 200 (Txt.join (Str.ofString " ") ys) := by
          have l1 := StrLaws.join_length_le (Str.ofString " ") ys
          have tb := Tx.join (n := 300) (Tx.lit " " 1 (by decide +kernel) (by decide +kernel)) (fun y hy => (e1 y hy).tx) (by omega)
          refine ⟨?_, tb.pl⟩
          rw [TL.join_eq]
          rw [e0] at l1
          omega
        refine ⟨_, T', ys, rfl, rfl, .inl (SqL.of eT), ?_, q _ _ ((b1.trans b2).trans bc) pc (tj.mono (by decide)) (ab_join (fun z => by rw [z] at el; simp at el; omega) tj.le (fun y hy => ⟨(e1 y hy).pos, (e1 y hy).nob⟩))⟩
        rw [e0]
        omega
end
end WB

set_option Elab.async false
set_option linter.all false
set_option maxRecDepth 100000
set_option maxHeartbeats 4000000
namespace WB
open PySem PySem.Spec PyProof.Rows L2 WG
open TL (tl)
/-! ### == where one side is an instance with an own == -/
/-- a value, and its class as it stands in the heap -/
inductive OV (H : Hp) : V → Value → Prop
  | non : OV H .non (.type "NoneType")
  | bl (b : Bool) : OV H (.bl b) (.type "bool")
  | int (i : Int) : OV H (.int i) (.type "int")
  | str (z : Str) : OV H (.str z) (.type "str")
  | lst {a : Addr} {xs : List V} (e : H a = some (.lst xs)) : OV H (.ref a) (.type "list")
  | tup {a : Addr} {xs : List V} (e : H a = some (.tup xs)) : OV H (.ref a) (.type "tuple")
  | ins {a C dx : Addr} {fs : List (Str × V)} (e : H a = some (.ins C dx fs)) : OV H (.ref a) (.ref C)
section
variable {X : Cx} {pins : List (Addr × Obj)} {σ : L2.St} {H : Hp} {s : Shared} {A : Around} {n : Nat}
theorem look_obj {M : Model} {h : Heap} {a : Addr} {o : Obj} {c : Value} (e : h.get? a = some o) (k : o.cls = c) : PySem.W.Looks M h (typeOf (.ref a)) c := by
  subst k
  exact (PySem.W.Looks.ld e).andThen .now
theorem OV.looks {y : V} {v t : Value} (I : Inv X pins σ H s) (r : RelV y v) (o : OV H y t) : PySem.W.Looks (model X.prog X.w) s.heap (typeOf v) t := by
  cases o with
  | non => cases r; exact PySem.W.Looks.of_pure rfl
  | bl b => cases r; exact PySem.W.Looks.of_pure rfl
  | int i => obtain ⟨_, rfl⟩ := r; exact PySem.W.Looks.of_pure rfl
  | str z => obtain ⟨_, rfl⟩ := r; exact PySem.W.Looks.of_pure rfl
  | lst e =>
    cases r
    obtain ⟨its, _, pl, _⟩ := I.list (SqL.of e)
    obtain ⟨o, h1, h2⟩ := pl.isList.typeIs
    exact look_obj h1 h2
  | tup e =>
    cases r
    obtain ⟨its, _, pl, _⟩ := I.tuple (SqT.of e)
    obtain ⟨o, h1, h2⟩ := pl.typeIs
    exact look_obj h1 h2
  | ins e =>
    cases r
    obtain ⟨m, J, _⟩ := ins_get I.hok e
    obtain ⟨_, J, _⟩ := J.look
    exact J.type
/-- the own def is called -/
theorem run_own {f : Addr} {fd : FuncData} {ps : List Str} {sp : Sp} {xs : List V} {us : List Value} {b : V} (F : FnOk X.prog X.w X.K X.mg X.base CX0 n f fd ps sp) (hb : Binds X.K fd ps []) (sb : Sub X n A) (I : Inv X pins σ H s) (r : Vals xs us) (h : sp xs H (fun v H' => v = b ∧ H' = H) E0) :
    wpAny (model X.prog X.w) A (call (.ref f) us) (fun w s' => RelV b w ∧ Inv X pins σ H s') X.xe s := by
  have e0 : Env0 X.prog X.w X.K X.mg X.base A X.stack s H := by
    have e := I.env0
    exact ⟨by rw [sb.fr]; exact e.frames, e.mod, e.bs, e.bsz, e.funs, e.frf, e.hok, e.bare⟩
  have hl := F.len _ _ _ _ h
  have bb := hb s us I.kIn (by rw [List.append_nil, ← r.length]; exact hl)
  rw [List.append_nil] at bb
  refine wpAny_call (codeAny_mono (F.run A X.stack s H ⟨us, []⟩ us xs _ E0 sb.room e0 bb r h) fun q s' got => ?_)
  cases q with
  | error e => exact got.elim
  | ok fl =>
    cases fl with
    | ret w =>
      obtain ⟨z, H', I', rz, ez, eh⟩ := I.after got
      subst ez eh
      exact ⟨rz, I'⟩
    | next => exact got.elim
    | brk => exact got.elim
    | cont => exact got.elim
/-- what is known of an own == -/
structure OwnE (X : Cx) (n : Nat) (C f : Addr) (fd : FuncData) (sp : Sp) : Prop where
  F : FnOk X.prog X.w X.K X.mg X.base CX0 n f fd ["self", "other"] sp
  hb : Binds X.K fd ["self", "other"] []
  hs : PySem.W.findIn X.K (.ref C) "__eq__" = some (some (.ref f))
  hf : PySem.W.isFn X.K (.ref f) = true
theorem rc_left {C f a dx : Addr} {fd : FuncData} {sp : Sp} {fs : List (Str × V)} {y : V} {t v : Value} {b : Bool} (O : OwnE X n C f fd sp) (ha : H a = some (.ins C dx fs)) (ov : OV H y t) (nf : PySem.W.notFirst X.K C t = true) (h : sp [.ref a, y] H (fun v H' => v = .bl b ∧ H' = H) E0)
    (sb : Sub X n A) (I : Inv X pins σ H s) (ry : RelV y v) : wpAny (model X.prog X.w) A (richCompare .Eq (.ref a) v) (fun r s' => r = .bool b ∧ Inv X pins σ H s') X.xe s := by
  obtain ⟨mA, J, _⟩ := ins_get I.hok ha
  obtain ⟨od, J, _⟩ := J.look
  obtain ⟨m, hF⟩ := I.fr
  refine PySem.W.cmp_K (op := .Eq) (tb := t) sb.room.units0 hF I.ok.mod.kin J (ov.looks I ry) nf O.hs O.hf ?_
  refine wpAny_mono (run_own O.F O.hb sb I (show Vals [V.ref a, y] [Value.ref a, v] from .cons rfl (.cons ry .nil)) h) (fun r s' ⟨z1, z2⟩ => ?_) fun _ _ e => e
  cases z1
  exact ⟨rfl, z2⟩
/-! ### what a built-in says of an instance -/
theorem isi_own {M : Model} {E : Value → Shared → Prop} {K : PySem.W.Frag} {C b : Addr} {ob : Obj} {T : String} {Q : Bool → Shared → Prop} (kin : K.In s.heap) (sub : PySem.W.subIn K (.ref C) (.type T) = some false) (hb : s.heap.get? b = some ob) (hc : ob.cls = .ref C) (q : Q false s) : wpAny M A (isInstance (.ref b) (.type T)) Q E s := by
  unfold isInstance
  exact wpAny_bind ((look_obj hb hc).here ((PySem.W.looks_subIn kin sub).here q))
end
section
variable {prog : Program} {w : World} {A : Around} {E : Value → Shared → Prop} {s : Shared} {K : PySem.W.Frag} {C b : Addr} {ob : Obj} {Q : Value → Shared → Prop}
theorem list_no {l : Addr} {o : Obj} (kin : K.In s.heap) (sub : PySem.W.subIn K (.ref C) (.type "list") = some false) (hl : s.heap.get? l = some o) (hlc : o.cls = .type "list") (hb : s.heap.get? b = some ob) (hc : ob.cls = .ref C) (q : Q .notImplemented s) :
    wpAny (model prog w) A (call (.builtin "list.__eq__") [.ref l, .ref b]) Q E s := by
  refine GQ.call_here F.slot_list_eq ⟨_, hl, hlc⟩ F.entry_list_eq (F.args_list_eq_2 _ _) ?_
  show wpAny _ _ (isInstance (.ref b) (.type "list") >>= _) _ _ _
  refine wpAny_bind (isi_own kin sub hb hc ?_)
  exact wpAny_pure q
theorem tuple_no {l : Addr} {o : Obj} (kin : K.In s.heap) (sub : PySem.W.subIn K (.ref C) (.type "tuple") = some false) (hl : s.heap.get? l = some o) (hlc : o.cls = .type "tuple") (hb : s.heap.get? b = some ob) (hc : ob.cls = .ref C) (q : Q .notImplemented s) :
    wpAny (model prog w) A (call (.builtin "tuple.__eq__") [.ref l, .ref b]) Q E s := by
  refine GQ.call_here F.slot_tuple_eq ⟨_, hl, hlc⟩ F.entry_tuple_eq (F.args_tuple_eq_2 _ _) ?_
  show wpAny _ _ (isInstance (.ref b) (.type "tuple") >>= _) _ _ _
  refine wpAny_bind (isi_own kin sub hb hc ?_)
  exact wpAny_pure q
theorem none_no (q : Q .notImplemented s) : wpAny (model prog w) A (call (.builtin "NoneType.__eq__") [.none, .ref b]) Q E s :=
  call_gives F.slot_NoneType_eq rfl F.entry_NoneType_eq (F.args_NoneType_eq_2 _ _) (PySem.SeqAt.NoneType___eq___none_ref_0 b) q
theorem str_no {z : Str} {t : Tok} {dx : Addr} (hb : s.heap.get? b = some (PySem.W.instObj C dx)) (q : Q .notImplemented s) : wpAny (model prog w) A (call (.builtin "str.__eq__") [.str z t, .ref b]) Q E s := by
  refine GQ.call_here F.slot_str_eq (typeIs_str _ _ _) F.entry_str_eq (F.args_str_eq_2 _ _) ?_
  obtain ⟨hp, g, d, tk, os⟩ := s
  wp_walk using wpAny_load hb
  exact q
theorem int_no {z : Int} {t : Tok} {dx : Addr} (hb : s.heap.get? b = some (PySem.W.instObj C dx)) (q : Q .notImplemented s) : wpAny (model prog w) A (call (.builtin "int.__eq__") [.int z t, .ref b]) Q E s := by
  refine GQ.call_here F.slot_int_eq rfl F.entry_int_eq (F.args_int_eq_2 _ _) ?_
  obtain ⟨hp, g, d, tk, os⟩ := s
  wp_walk using wpAny_load hb
  exact q
theorem bool_no {z : Bool} {dx : Addr} (hb : s.heap.get? b = some (PySem.W.instObj C dx)) (q : Q .notImplemented s) : wpAny (model prog w) A (call (.builtin "int.__eq__") [.bool z, .ref b]) Q E s := by
  refine GQ.call_here F.slot_bool_eq rfl F.entry_int_eq (F.args_int_eq_2 _ _) ?_
  obtain ⟨hp, g, d, tk, os⟩ := s
  wp_walk using wpAny_load hb
  exact q
end
/-- a built-in on the left, an instance on the right -/
def plainT : List String := ["NoneType", "bool", "int", "str", "list", "tuple"]
section
variable {X : Cx} {pins : List (Addr × Obj)} {σ : L2.St} {H : Hp} {s : Shared} {A : Around} {n : Nat}
theorem left_no {C a dx : Addr} {fs : List (Str × V)} {y : V} {v : Value} {T : String} {Q : Option Value → Shared → Prop} (sub : ∀ T ∈ plainT, PySem.W.subIn X.K (.ref C) (.type T) = some false) (ha : H a = some (.ins C dx fs)) (ov : OV H y (.type T)) (I : Inv X pins σ H s) (ry : RelV y v) (q : Q none s) :
    wpAny (model X.prog X.w) A (tryCompare v "__eq__" (.ref a)) Q X.xe s ∧ T ∈ plainT := by
  obtain ⟨_, _, _, hb, _⟩ := (show ObjOk _ _ H s.heap a (.ins C dx fs) from I.hok a _ ha)
  have kin := I.kIn
  cases ov with
  | non =>
    cases ry
    exact ⟨wpAny_tryCompare_declines (show s.TypeIs .none "NoneType" from rfl) F.slot_NoneType_eq (none_no ⟨rfl, q⟩), by decide⟩
  | bl b =>
    cases ry
    exact ⟨wpAny_tryCompare_declines (show s.TypeIs (.bool b) "bool" from rfl) F.slot_bool_eq (bool_no hb ⟨rfl, q⟩), by decide⟩
  | int i =>
    obtain ⟨t, rfl⟩ := ry
    exact ⟨wpAny_tryCompare_declines (show s.TypeIs (.int i t) "int" from rfl) F.slot_int_eq (int_no hb ⟨rfl, q⟩), by decide⟩
  | str z =>
    obtain ⟨t, rfl⟩ := ry
    exact ⟨wpAny_tryCompare_declines (typeIs_str s z t) F.slot_str_eq (str_no hb ⟨rfl, q⟩), by decide⟩
  | lst e =>
    cases ry
    obtain ⟨its, _, pl, _⟩ := I.list (SqL.of e)
    obtain ⟨o, h1, h2⟩ := pl.isList.typeIs
    exact ⟨wpAny_tryCompare_declines ⟨o, h1, h2⟩ F.slot_list_eq (list_no kin (sub _ (by decide)) h1 h2 hb rfl ⟨rfl, q⟩), by decide⟩
  | tup e =>
    cases ry
    obtain ⟨its, _, pl, _⟩ := I.tuple (SqT.of e)
    obtain ⟨o, h1, h2⟩ := pl.typeIs
    exact ⟨wpAny_tryCompare_declines ⟨o, h1, h2⟩ F.slot_tuple_eq (tuple_no kin (sub _ (by decide)) h1 h2 hb rfl ⟨rfl, q⟩), by decide⟩
theorem rc_right {C f a dx : Addr} {fd : FuncData} {sp : Sp} {fs : List (Str × V)} {y : V} {T : String} {v : Value} {b : Bool} (O : OwnE X n C f fd sp) (sub : ∀ T ∈ plainT, PySem.W.subIn X.K (.ref C) (.type T) = some false) (ha : H a = some (.ins C dx fs)) (ov : OV H y (.type T)) (h : sp [.ref a, y] H (fun v H' => v = .bl b ∧ H' = H) E0)
    (sb : Sub X n A) (I : Inv X pins σ H s) (ry : RelV y v) : wpAny (model X.prog X.w) A (richCompare .Eq v (.ref a)) (fun r s' => r = .bool b ∧ Inv X pins σ H s') X.xe s := by
  obtain ⟨mA, J, _⟩ := ins_get I.hok ha
  obtain ⟨od, J, _⟩ := J.look
  have one : ∀ {Q : Option Value → Shared → Prop}, Q none s → wpAny (model X.prog X.w) A (tryCompare v "__eq__" (.ref a)) Q X.xe s := fun {Q} q => (left_no sub ha ov I ry q).1
  have tm : T ∈ plainT := (left_no (A := A) (Q := fun _ _ => True) sub ha ov I ry trivial).2
  have two : wpAny (model X.prog X.w) A (tryCompare (.ref a) "__eq__" v) (fun r s' => r = some (.bool b) ∧ Inv X pins σ H s') X.xe s := by
    unfold tryCompare
    refine wpAny_bind (PySem.W.ifBound_K I.kIn J O.hs O.hf (wpAny_mono (run_own O.F O.hb sb I (show Vals [V.ref a, y] [Value.ref a, v] from .cons rfl (.cons ry .nil)) h) (fun r s' ⟨z1, z2⟩ => ?_) fun _ _ e => e))
    cases z1
    exact wpAny_pure ⟨rfl, z2⟩
  have nt : oneThing? .Eq v (.ref a) = none := by
    cases ov with
    | non => cases ry; rfl
    | bl _ => cases ry; rfl
    | int _ => obtain ⟨_, rfl⟩ := ry; rfl
    | str _ => obtain ⟨_, rfl⟩ := ry; rfl
    | lst _ => cases ry; rfl
    | tup _ => cases ry; rfl
  unfold richCompare
  simp only [nt]
  refine wpAny_holding (wpAny_bind (wpAny_cRoomFor sb.room.units0 ?_))
  refine wpAny_bind ((ov.looks I ry).here ?_)
  refine wpAny_bind (J.type.here ?_)
  split
  · refine wpAny_bind ((PySem.W.looks_subIn I.kIn (sub T tm)).here ?_)
    simp only [Bool.false_eq_true, if_false, Bool.not_false, if_true]
    refine wpAny_bind (m := tryCompare v _ (.ref a)) (one ?_)
    refine wpAny_bind (m := tryCompare (.ref a) _ v) (wpAny_mono two (fun r s2 ⟨z1, z2⟩ => ?_) fun _ _ e => e)
    subst z1
    exact wpAny_pure ⟨rfl, z2⟩
  · rename_i q
    exact absurd (by simp) q
end
end WB

set_option Elab.async false
set_option linter.all false
set_option maxRecDepth 100000
set_option maxHeartbeats 4000000
namespace WB
open PySem PySem.Spec PyProof.Rows L2 WG
open AutoSeq1 (wpAny_loadPart')
open MeetsSeq MeetsSeq2 MeetsSeq3 SeqRoads2
open TL (tl)
/-! ### lists of one thing -/
section
variable {prog : Program} {w : World} {A : Around} {E : Value → Shared → Prop} {s : Shared} {Q : Value → Shared → Prop} {l m : Addr} {x y : Value} {n n2 : Nat} {b : Bool} {Z : Shared → Prop}
/-- the list at l is [x] -/
def One (s : Shared) (l : Addr) (x : Value) : Prop := ∃ (its : Array Value) (n : Nat), s.heap.get? l = some { cls := .type "list", data := .seq its n } ∧ its[0]? = some x ∧ its.size = 1
theorem con_end {R : Result → Shared → Prop} (hl : One s l x) (h : R (.ok (.ret (.bool false))) s) : wpAny (model prog w) A.in1 (Builtin.«list.__contains__.loop» ⟨[.ref l, y, rawInt 1], []⟩) (GQ.FinOf prog w A R) (fun e s' => R (.error e) s') s := by
  obtain ⟨its, n, hl, e0, ez⟩ := hl
  obtain ⟨hp, g, d, tk, os⟩ := s
  wp_walk using wpAny_loadPart' hl
  have e1 : its[Int.toNat 1]? = none := Array.getElem?_eq_none (by rw [ez]; decide)
  rw [e1]
  wp_walk
  exact h
theorem con_one (hl : One s l x) (he : wpAny (model prog w) A.in1 (eqBool x y) (fun r s' => r = b ∧ Z s') E s) (kp : ∀ s', Z s' → One s' l x) (q : ∀ s', Z s' → Q (.bool b) s') : wpAny (model prog w) A (call (.builtin "list.__contains__") [.ref l, y]) Q E s := by
  obtain ⟨its, n, h1, e0, ez⟩ := id hl
  have loop : wpAny (model prog w) A.in1 (Builtin.«list.__contains__.loop» ⟨[.ref l, y, rawInt 0], []⟩) (GQ.FinOf prog w A (wants Q E)) (fun e s' => wants Q E (.error e) s') s := by
    have he' := he
    obtain ⟨hp, g, d, tk, os⟩ := s
    wp_walk using wpAny_loadPart' h1
    rw [show its[Int.toNat 0]? = some x from e0]
    refine wpAny_bind (wpAny_mono he' (fun r s2 ⟨e1, z2⟩ => ?_) fun _ _ e => e)
    subst e1
    have o2 := kp s2 z2
    have q2 := q s2 z2
    cases r with
    | true =>
      obtain ⟨hp2, g2, d2, tk2, os2⟩ := s2
      wp_walk
      exact q2
    | false =>
      have nx := con_end (prog := prog) (w := w) (A := A) (y := y) (R := wants Q E) o2 q2
      obtain ⟨hp2, g2, d2, tk2, os2⟩ := s2
      wp_walk
      exact ⟨plainId_quiet plain_contains_loop _, codeAny_builtin entry_contains_loop (by
        rw [Around.under_plainId plain_contains_loop _]
        exact nx)⟩
  refine GQ.call_here F.slot_list_contains ⟨_, h1, rfl⟩ F.entry_list_contains (F.args_list_contains_2 _ _) ?_
  obtain ⟨hp, g, d, tk, os⟩ := s
  wp_walk using wpAny_loadPart' h1
  exact ⟨plainId_quiet plain_contains_loop _, codeAny_builtin entry_contains_loop (by
    rw [Around.under_plainId plain_contains_loop _]
    exact loop)⟩
theorem in_one (hl : One s l x) (he : wpAny (model prog w) A.in1 (eqBool x y) (fun r s' => r = b ∧ Z s') E s) (kp : ∀ s', Z s' → One s' l x) (q : ∀ s', Z s' → Q (.bool b) s') : wpAny (model prog w) A (compareOp .In y (.ref l)) Q E s := by
  obtain ⟨its, n, h1, e0, ez⟩ := id hl
  show wpAny _ _ (do return .bool (← contains (.ref l) y)) Q E s
  refine wpAny_bind (wpAny_contains_slot ⟨_, h1, rfl⟩ F.slot_list_contains (con_one hl he kp fun s' z => wpAny_truthy_bool (wpAny_pure (q s' z))))
theorem eql_end {R : Result → Shared → Prop} (hl : One s l x) (hm : One s m y) (h : R (.ok (.ret (.bool true))) s) : wpAny (model prog w) A.in1 (Builtin.«list.__eq__.loop» ⟨[.ref l, .ref m, rawInt 1, rawInt 2], []⟩) (GQ.FinOf prog w A R) (fun e s' => R (.error e) s') s := by
  obtain ⟨its, n, h1, e0, ez⟩ := hl
  obtain ⟨jts, n2, h2, g0, gz⟩ := hm
  obtain ⟨hp, g, d, tk, os⟩ := s
  wp_walk using wpAny_loadPart' h1, wpAny_loadPart' h2
  have e1 : its[Int.toNat 1]? = none := Array.getElem?_eq_none (by rw [ez]; decide)
  have g1 : jts[Int.toNat 1]? = none := Array.getElem?_eq_none (by rw [gz]; decide)
  rw [e1, g1]
  wp_walk using wpAny_loadPart' h1, wpAny_loadPart' h2
  show R (.ok (.ret (.bool (its.size == jts.size)))) _
  rw [ez, gz]
  exact h
theorem rc_one (hu : A.units < cLine) (hl : One s l x) (hm : One s m y) (he : wpAny (model prog w) A.in1 (eqBool x y) (fun r s' => r = b ∧ Z s') E s) (kp : ∀ s', Z s' → One s' l x ∧ One s' m y) (q : ∀ s', Z s' → Q (.bool b) s') : wpAny (model prog w) A (richCompare .Eq (.ref l) (.ref m)) Q E s := by
  obtain ⟨its, n, h1, e0, ez⟩ := id hl
  obtain ⟨jts, n2, h2, g0, gz⟩ := id hm
  have loop : wpAny (model prog w) A.in1 (Builtin.«list.__eq__.loop» ⟨[.ref l, .ref m, rawInt 0, rawInt 2], []⟩) (GQ.FinOf prog w A (wants (fun v s' => v ≠ .notImplemented ∧ Q v s') E)) (fun e s' => wants (fun v s' => v ≠ .notImplemented ∧ Q v s') E (.error e) s') s := by
    have he' := he
    obtain ⟨hp, g, d, tk, os⟩ := s
    wp_walk using wpAny_loadPart' h1, wpAny_loadPart' h2
    rw [show its[Int.toNat 0]? = some x from e0, show jts[Int.toNat 0]? = some y from g0]
    refine wpAny_bind (wpAny_mono he' (fun r s2 ⟨e1, z2⟩ => ?_) fun _ _ e => e)
    subst e1
    obtain ⟨o2, o3⟩ := kp s2 z2
    have q2 := q s2 z2
    cases r with
    | true =>
      have nx := eql_end (prog := prog) (w := w) (A := A) (R := wants (fun v s' => v ≠ .notImplemented ∧ Q v s') E) o2 o3 ⟨(fun z => nomatch z), q2⟩
      obtain ⟨hp2, g2, d2, tk2, os2⟩ := s2
      wp_walk
      exact ⟨plainId_quiet plain_eq_loop _, codeAny_builtin entry_eq_loop (by
        rw [Around.under_plainId plain_eq_loop _]
        exact nx)⟩
    | false =>
      obtain ⟨its2, n3, k1, f0, _⟩ := o2
      obtain ⟨jts2, n4, k2, f1, _⟩ := o3
      obtain ⟨hp2, g2, d2, tk2, os2⟩ := s2
      wp_walk using wpAny_loadPart' k1, wpAny_loadPart' k2
      rw [show its2[Int.toNat 0]? = some x from f0, show jts2[Int.toNat 0]? = some y from f1]
      wp_walk
      exact ⟨(fun z => nomatch z), q2⟩
  refine wpAny_richCompare_same_room (op := .Eq) ⟨_, h1, rfl⟩ ⟨_, h2, rfl⟩ F.slot_list_eq (GQ.call_here F.slot_list_eq ⟨_, h1, rfl⟩ F.entry_list_eq (F.args_list_eq_2 _ _) ?_) hu
  have f3 := AutoSeq1.sub_list_list
  have hne : ¬ (its.size != jts.size) = true := by simp [ez, gz]
  obtain ⟨hp, g, d, tk, os⟩ := s
  wp_walk using wpAny_loadPart' h1, wpAny_loadPart' h2
  exact ⟨plainId_quiet plain_eq_loop _, codeAny_builtin entry_eq_loop (by
    rw [Around.under_plainId plain_eq_loop _]
    exact loop)⟩
end
end WB

set_option Elab.async false
set_option linter.all false
set_option maxRecDepth 100000
set_option maxHeartbeats 4000000
namespace WB
open PySem PySem.Spec PyProof.Rows L2 WG
open TL (tl)
/-! ### != by an own == -/
section
variable {X : Cx} {pins : List (Addr × Obj)} {σ : L2.St} {H : Hp} {s : Shared} {A : Around} {n : Nat}
theorem ne_bound {M : Model} {E : Value → Shared → Prop} {K : PySem.W.Frag} {x C : Addr} {ox : Obj} {od : Option Obj} {args : List Value} {Q : Option Value → Shared → Prop} (kin : K.In s.heap) (J : PySem.W.InstAt s.heap x ox C od) (hn : PySem.W.findIn K (.ref C) "__ne__" = some (some (.builtin "object.__ne__")))
    (h : wpAny M A (call (.builtin "object.__ne__") (.ref x :: args)) (fun v => Q (some v)) E s) : wpAny M A (callSpecialIfBound? (.ref x) "__ne__" args) Q E s := by
  have fin : wpAny M A (call (.builtin "object.__ne__") ([.ref x] ++ args) >>= fun v => pure (some v)) Q E s := wpAny_bind (wpAny_mono h (fun v s' z => wpAny_pure z) fun _ _ z => z)
  simp only [callSpecialIfBound?, bindSpecialIfBound?]
  refine wpAny_holding (wpAny_bind (wpAny_bind (wpAny_bind (J.type.here ((PySem.W.looks_findIn kin hn).here ?_)))))
  refine wpAny_bind (wpAny_askSetting (wpAny_ite ?_))
  split
  · exact wpAny_bind (wpAny_of_eq (F.cmp_object.ne.bind _) (wpAny_pure (by exact fin)))
  · exact wpAny_tryCatch (wpAny_bind (wpAny_of_eq (F.cmp_object.ne.bind _) (wpAny_pure (by exact fin))))
theorem rc_ne {C f a dx : Addr} {fd : FuncData} {sp : Sp} {fs : List (Str × V)} {y : V} {t v : Value} {b : Bool} (O : OwnE X n C f fd sp) (hn : PySem.W.findIn X.K (.ref C) "__ne__" = some (some (.builtin "object.__ne__"))) (hm : PySem.W.mroIn X.K C (.type "object") = some true) (ha : H a = some (.ins C dx fs)) (ov : OV H y t) (nf : PySem.W.notFirst X.K C t = true)
    (h : sp [.ref a, y] H (fun v H' => v = .bl b ∧ H' = H) E0) (sb : Sub X (n + 1) A) (I : Inv X pins σ H s) (ry : RelV y v) : wpAny (model X.prog X.w) A (richCompare .NotEq (.ref a) v) (fun r s' => r = .bool (!b) ∧ Inv X pins σ H s') X.xe s := by
  obtain ⟨mA, J, _⟩ := ins_get I.hok ha
  obtain ⟨od, J, _⟩ := J.look
  have own : wpAny (model X.prog X.w) A.in1 (callSpecialIfBound? (.ref a) "__eq__" [v]) (fun r s' => r = some (.bool b) ∧ Inv X pins σ H s') X.xe s := by
    refine PySem.W.ifBound_K I.kIn J O.hs O.hf (wpAny_mono (run_own O.F O.hb sb.in1 I (show Vals [V.ref a, y] [Value.ref a, v] from .cons rfl (.cons ry .nil)) h) (fun r s' ⟨z1, z2⟩ => ?_) fun _ _ e => e)
    cases z1
    exact ⟨rfl, z2⟩
  have entry : wpAny (model X.prog X.w) A.in1 (Builtin.«object.__ne__» ⟨[.ref a, v], []⟩) (GQ.FinOf X.prog X.w A (wants (fun r s' => r = .bool (!b) ∧ Inv X pins σ H s') X.xe)) (fun e s' => wants (fun r s' => r = .bool (!b) ∧ Inv X pins σ H s') X.xe (.error e) s') s := by
    unfold Builtin.«object.__ne__»
    repeat (first
      | with_reducible refine wpAny_cRoomFor sb.in1.room.units0 ?_
      | (refine wpAny_bind (m := callSpecialIfBound? (.ref a) (Str.ofString "__eq__") [v]) (wpAny_mono own (fun r s' ⟨z1, z2⟩ => ?_) fun _ _ e => e)
         subst z1)
      | exact wpAny_bind (wpAny_truthy_bool (wpAny_pure ⟨rfl, z2⟩))
      | wp_step)
  have one : wpAny (model X.prog X.w) A (tryCompare (.ref a) "__ne__" v) (fun r s' => r = some (.bool (!b)) ∧ Inv X pins σ H s') X.xe s := by
    unfold tryCompare
    refine wpAny_bind (ne_bound I.kIn J hn (wpAny_mono (wpAny_call (codeAny_call_builtin F.cmp_object.ne.plain F.cmpEntry_ne (PySem.W.check_slot F.cmpKind_ne F.cmpSplit_ne (J.type.andThen (PySem.W.looks_mroIn I.kIn hm)) (F.cmpArgs_ne _ _) entry))) (fun r s' ⟨z1, z2⟩ => ?_) fun _ _ e => e))
    subst z1
    exact wpAny_pure ⟨rfl, z2⟩
  unfold richCompare
  simp only [oneThing_ref]
  refine wpAny_holding (wpAny_bind (wpAny_cRoomFor sb.room.units0 ?_))
  refine wpAny_bind (J.type.here (wpAny_bind ((ov.looks I ry).here ?_)))
  have no : PySem.W.subIn X.K t (.ref C) = some false ∨ t = .ref C := by
    rcases Bool.or_eq_true_iff.mp nf with e | e
    · exact .inr (beq_iff_eq.mp e)
    · exact .inl (beq_iff_eq.mp e)
  split
  · rename_i q
    rcases no with no | no
    · refine wpAny_bind ((PySem.W.looks_subIn I.kIn no).here ?_)
      simp only [Bool.false_eq_true, if_false]
      refine wpAny_bind (m := tryCompare (.ref a) _ v) (wpAny_mono one (fun r s2 ⟨z1, z2⟩ => ?_) fun _ _ e => e)
      subst z1
      exact wpAny_pure ⟨rfl, z2⟩
    · rw [no] at q
      exact absurd q (by simp)
  · refine wpAny_bind (wpAny_pure ?_)
    simp only [Bool.false_eq_true, if_false]
    refine wpAny_bind (m := tryCompare (.ref a) _ v) (wpAny_mono one (fun r s2 ⟨z1, z2⟩ => ?_) fun _ _ e => e)
    subst z1
    exact wpAny_pure ⟨rfl, z2⟩
end
end WB

set_option Elab.async false
set_option linter.all false
set_option maxRecDepth 100000
set_option maxHeartbeats 4000000
namespace WB
open PySem PySem.Spec PyProof.Rows L2 WG
open TL (tl)
/-! ### flat values -/
inductive Fl : V → Prop
  | non : Fl .non
  | bl (b : Bool) : Fl (.bl b)
  | str {z : Str} (h : Tx 300 z) : Fl (.str z)
def AllFl (vs : List V) : Prop := ∀ v ∈ vs, Fl v
def dV : V → PyData
  | .bl b => .bool b
  | .str z => .str z
  | _ => .none
theorem Fl.thg {H : Hp} {v : V} (h : Fl v) : Thg H v := by
  cases h with
  | non => exact .non
  | bl b => exact .bl b
  | str h => exact .str h
theorem Fl.dp {K : PySem.W.Frag} {H : Hp} {v : V} (h : Fl v) : Dp K H v (dV v) := by
  cases h with
  | non => exact .non
  | bl b => exact .bl b
  | str h => exact .str _
theorem AllFl.tail {v : V} {vs : List V} (h : AllFl (v :: vs)) : AllFl vs := fun x hx => h x (List.mem_cons_of_mem _ hx)
theorem AllFl.dp {K : PySem.W.Frag} {H : Hp} : ∀ {vs : List V}, AllFl vs → DpAll K H vs (vs.map dV)
  | [], _ => .nil
  | v :: r, h => .cons (h v List.mem_cons_self).dp (AllFl.dp h.tail)
theorem AllFl.lay : ∀ {vs : List V}, AllFl vs → PyData.canLayAll0 (vs.map dV) = true ∧ PyData.depthAll (vs.map dV) = 0
  | [], _ => ⟨by simp [PyData.canLayAll0], by simp [PyData.depthAll]⟩
  | v :: r, h => by
    obtain ⟨h1, h2⟩ := AllFl.lay h.tail
    have hv := h v List.mem_cons_self
    rw [List.map_cons]
    cases hv with
    | non => exact ⟨by simp [dV, PyData.canLayAll0, PyData.canLay0, h1], by simp [dV, PyData.depthAll, PyData.depth, h2]⟩
    | bl b => exact ⟨by simp [dV, PyData.canLayAll0, PyData.canLay0, h1], by simp [dV, PyData.depthAll, PyData.depth, h2]⟩
    | str hz => exact ⟨by simp [dV, PyData.canLayAll0, PyData.canLay0, h1, strOk_of hz.pl], by simp [dV, PyData.depthAll, PyData.depth, h2]⟩
theorem AllFl.shT {vs : List V} (h : AllFl vs) : SeqAt.shaped (.tuple (vs.map dV)) = true := by
  obtain ⟨h1, h2⟩ := h.lay
  unfold SeqAt.shaped
  simp [PyData.canLay0, PyData.depth, h1, h2]
theorem AllFl.shL {vs : List V} (h : AllFl vs) : SeqAt.shaped (.list (vs.map dV)) = true := by
  obtain ⟨h1, h2⟩ := h.lay
  unfold SeqAt.shaped
  simp [PyData.canLay0, PyData.depth, h1, h2]
theorem eqv_fl {v w : V} (h : Fl v) (k : Fl w) : PyData.eqv (dV v) (dV w) = decide (v = w) := by
  cases h with
  | non =>
    cases k with
    | non => simp [dV, PyData.eqv]
    | bl b => simp [dV, PyData.eqv]
    | str _ => simp [dV, PyData.eqv]
  | bl b =>
    cases k with
    | non => simp [dV, PyData.eqv]
    | bl c => cases b <;> cases c <;> simp [dV, PyData.eqv]
    | str _ => simp [dV, PyData.eqv]
  | @str z _ =>
    cases k with
    | non => simp [dV, PyData.eqv]
    | bl b => simp [dV, PyData.eqv]
    | @str y _ =>
      show (z == y) = _
      by_cases e : z = y
      · subst e
        simp
      · rw [decide_eq_false (fun q => e (V.str.inj q))]
        simpa using e
theorem eqvAll_fl : ∀ {vs ws : List V}, AllFl vs → AllFl ws → PyData.eqvAll (vs.map dV) (ws.map dV) = decide (vs = ws)
  | [], [], _, _ => by simp [PyData.eqvAll]
  | [], w :: r, _, _ => by simp [PyData.eqvAll]
  | v :: r, [], _, _ => by simp [PyData.eqvAll]
  | v :: r, w :: t, h, k => by
    rw [List.map_cons, List.map_cons]
    simp only [PyData.eqvAll]
    rw [eqvAll_fl h.tail k.tail, eqv_fl (h v List.mem_cons_self) (k w List.mem_cons_self)]
    by_cases e : v = w
    · subst e
      by_cases e2 : r = t
      · subst e2
        simp
      · simp [e2]
    · simp [e]
theorem eqv_tup {vs ws : List V} (h : AllFl vs) (k : AllFl ws) : PyData.eqv (.tuple (vs.map dV)) (.tuple (ws.map dV)) = decide (vs = ws) := by
  simp only [PyData.eqv]
  exact eqvAll_fl h k
theorem eqv_lst {vs ws : List V} (h : AllFl vs) (k : AllFl ws) : PyData.eqv (.list (vs.map dV)) (.list (ws.map dV)) = decide (vs = ws) := by
  simp only [PyData.eqv]
  exact eqvAll_fl h k
/-! ### what an own == says -/
/-- an instance of C that holds vs -/
def IsT (H : Hp) (C a : Addr) (vs : List V) : Prop := AllFl vs ∧ ∃ dx t, H a = some (.ins C dx [(("held" : Str), .ref t)]) ∧ H t = some (.tup vs)
theorem IsT.same {H H' : Hp} {C a : Addr} {vs : List V} (h : IsT H C a vs) (s : Same H H') : IsT H' C a vs := by
  obtain ⟨f, dx, t, e1, e2⟩ := h
  exact ⟨f, dx, t, s _ _ e1, s _ _ e2⟩
inductive EqTo (K : PySem.W.Frag) (H : Hp) (C : Addr) (us : List V) : V → Bool → Prop
  | same {c : Addr} {ws : List V} (h : IsT H C c ws) : EqTo K H C us (.ref c) (decide (us = ws))
  | other {y : V} {t : Value} (ty : TyX K H y t) (k : PySem.W.kitOne K t (.ref C) = some false) : EqTo K H C us y false
def spEqO (K : PySem.W.Frag) (C : Addr) : Sp := fun vs H Q _ => ∃ (a : Addr) (y : V) (us : List V) (b : Bool), vs = [.ref a, y] ∧ IsT H C a us ∧ EqTo K H C us y b ∧ Q (.bl b) H
/-- the classes with an own == -/
structure EqCl (X : Cx) (n : Nat) (C : Addr) : Prop where
  own : ∃ f fd, OwnE X n C f fd (spEqO X.K C)
  sub : ∀ T ∈ plainT, PySem.W.subIn X.K (.ref C) (.type T) = some false
  nr : ∀ T ∈ plainT, PySem.W.subIn X.K (.type T) (.ref C) = some false
  ne : PySem.W.findIn X.K (.ref C) "__ne__" = some (some (.builtin "object.__ne__"))
  mo : PySem.W.mroIn X.K C (.type "object") = some true
/-- x == y: b -/
inductive EqOp (X : Cx) (n : Nat) (H : Hp) : V → V → Bool → Prop
  | left {C a : Addr} {us : List V} {y : V} {t : Value} {b : Bool} (c : EqCl X n C) (h : IsT H C a us) (ov : OV H y t) (nf : PySem.W.notFirst X.K C t = true) (e : EqTo X.K H C us y b) : EqOp X n H (.ref a) y b
  | right {C a : Addr} {us : List V} {y : V} {T : String} {b : Bool} (c : EqCl X n C) (h : IsT H C a us) (ov : OV H y (.type T)) (e : EqTo X.K H C us y b) : EqOp X n H y (.ref a) b
section
variable {X : Cx} {pins : List (Addr × Obj)} {σ : L2.St} {H : Hp} {s : Shared} {A : Around} {n : Nat}
theorem EqOp.rc {x y : V} {u v : Value} {b : Bool} (e : EqOp X n H x y b) (sb : Sub X n A) (I : Inv X pins σ H s) (rx : RelV x u) (ry : RelV y v) : wpAny (model X.prog X.w) A (richCompare .Eq u v) (fun r s' => r = .bool b ∧ Inv X pins σ H s') X.xe s := by
  cases e with
  | left c h ov nf e =>
    obtain ⟨f, fd, O⟩ := c.own
    obtain ⟨_, dx, t, ea, et⟩ := id h
    cases rx
    exact rc_left O ea ov nf ⟨_, _, _, _, rfl, h, e, rfl, rfl⟩ sb I ry
  | right c h ov e =>
    obtain ⟨f, fd, O⟩ := c.own
    obtain ⟨_, dx, t, ea, et⟩ := id h
    cases ry
    exact rc_right O c.sub ea ov ⟨_, _, _, _, rfl, h, e, rfl, rfl⟩ sb I rx
theorem EqOp.eb {a c : Addr} {b : Bool} (ne : a ≠ c) (e : EqOp X n H (.ref a) (.ref c) b) (sb : Sub X n A) (I : Inv X pins σ H s) : wpAny (model X.prog X.w) A (eqBool (.ref a) (.ref c)) (fun r s' => r = b ∧ Inv X pins σ H s') X.xe s :=
  GQ.eqBool_refG ne (wpAny_mono (e.rc sb I rfl rfl) (fun r s' ⟨z1, z2⟩ => ⟨b, z1, rfl, z2⟩) fun _ _ x => x)
def rEqI (X : Cx) (n : Nat) : R2 := fun x y H Q => ∃ b, EqOp X n H x y b ∧ Q (.bl b) H
theorem op_eqI (hr : Room n X.A) : OpR X (compareOp .Eq) (rEqI X n) := by
  intro pins s σ H x y v u Q I rx ry h
  obtain ⟨b, e, q⟩ := h
  show wpAny (model X.prog X.w) X.A (richCompare .Eq v u) (EP X pins σ Q) X.xe s
  refine wpAny_mono (e.rc ⟨hr, rfl⟩ I rx ry) (fun r s' ⟨z1, z2⟩ => ?_) fun _ _ x => x
  subst z1
  exact ⟨.bl b, H, z2, rfl, q⟩
theorem one_of_list {l : Addr} {x : V} {u : Value} (I : Inv X pins σ H s) (e : H l = some (.lst [x])) (r : ∀ w, RelV x w → w = u) : One s l u := by
  obtain ⟨_, its, n, rv, g⟩ := (show ObjOk _ _ H s.heap l (.lst [x]) from I.hok l _ e)
  cases rv with
  | cons r1 r2 =>
    cases r2
    rw [r _ r1] at g
    exact ⟨_, n, g, rfl, rfl⟩
def rInI (X : Cx) (n : Nat) : R2 := fun x y H Q => ∃ (l a c : Addr) (b : Bool), x = .ref c ∧ y = .ref l ∧ H l = some (.lst [.ref a]) ∧ a ≠ c ∧ EqOp X n H (.ref a) (.ref c) b ∧ Q (.bl b) H
theorem op_inI (hr : Room (n + 1) X.A) : OpR X (compareOp .In) (rInI X n) := by
  intro pins s σ H x y v u Q I rx ry h
  obtain ⟨l, a, c, b, rfl, rfl, el, ne, e, q⟩ := h
  cases rx
  cases ry
  have sb : Sub X (n + 1) X.A := ⟨hr, rfl⟩
  exact in_one (Z := fun s' => Inv X pins σ H s') (one_of_list I el (fun _ z => z)) (e.eb ne sb.in1 I) (fun s' z => one_of_list z el (fun _ w => w)) (fun s' z => ⟨.bl b, H, z, rfl, q⟩)
def rEqL1 (X : Cx) (n : Nat) : R2 := fun x y H Q => ∃ (l m a c : Addr) (b : Bool), x = .ref l ∧ y = .ref m ∧ H l = some (.lst [.ref a]) ∧ H m = some (.lst [.ref c]) ∧ a ≠ c ∧ EqOp X n H (.ref a) (.ref c) b ∧ Q (.bl b) H
theorem op_eqL1 (hr : Room (n + 1) X.A) : OpR X (compareOp .Eq) (rEqL1 X n) := by
  intro pins s σ H x y v u Q I rx ry h
  obtain ⟨l, m, a, c, b, rfl, rfl, el, em, ne, e, q⟩ := h
  cases rx
  cases ry
  have sb : Sub X (n + 1) X.A := ⟨hr, rfl⟩
  exact rc_one (Z := fun s' => Inv X pins σ H s') hr.units0 (one_of_list I el (fun _ z => z)) (one_of_list I em (fun _ z => z)) (e.eb ne sb.in1 I) (fun s' z => ⟨one_of_list z el (fun _ w => w), one_of_list z em (fun _ w => w)⟩) (fun s' z => ⟨.bl b, H, z, rfl, q⟩)
def rNeI (X : Cx) (n : Nat) : R2 := fun x y H Q => ∃ (C a c : Addr) (us ws : List V), x = .ref a ∧ y = .ref c ∧ EqCl X n C ∧ IsT H C a us ∧ IsT H C c ws ∧ Q (.bl (!decide (us = ws))) H
theorem op_neI (hr : Room (n + 1) X.A) : OpR X (compareOp .NotEq) (rNeI X n) := by
  intro pins s σ H x y v u Q I rx ry h
  obtain ⟨C, a, c, us, ws, rfl, rfl, cl, h1, h2, q⟩ := h
  cases rx
  cases ry
  obtain ⟨f, fd, O⟩ := cl.own
  obtain ⟨_, dx, t, ea, et⟩ := id h1
  obtain ⟨_, dx2, t2, ec, et2⟩ := id h2
  show wpAny (model X.prog X.w) X.A (richCompare .NotEq (.ref a) (.ref c)) (EP X pins σ Q) X.xe s
  refine wpAny_mono (rc_ne O cl.ne cl.mo ea (.ins ec) (by simp [PySem.W.notFirst]) ⟨_, _, _, _, rfl, h1, .same h2, rfl, rfl⟩ ⟨hr, rfl⟩ I rfl) (fun r s' ⟨z1, z2⟩ => ?_) fun _ _ x => x
  subst z1
  exact ⟨.bl _, H, z2, rfl, q⟩
end
end WB

set_option Elab.async false
set_option linter.all false
set_option maxRecDepth 100000
set_option maxHeartbeats 4000000
namespace WB
open PySem PySem.Spec PyProof.Rows L2 WG
open TL (tl)
abbrev st_comma_joined : Stmt := topS 15
theorem sc_comma_joined : FnScope ["values", "value"] ["values"] (defScope st_comma_joined) := ⟨rfl, rfl, rfl, by decide +kernel, rfl, by decide +kernel, by decide +kernel⟩
abbrev st_Option_eq : Stmt := inClass (topS 26) 9
theorem sc_Option_eq : FnScope ["self", "other"] ["self", "other"] (defScope st_Option_eq) := ⟨rfl, rfl, rfl, by decide +kernel, rfl, by decide +kernel, by decide +kernel⟩
abbrev st_Place_eq : Stmt := inClass (topS 27) 6
theorem sc_Place_eq : FnScope ["self", "other"] ["self", "other"] (defScope st_Place_eq) := ⟨rfl, rfl, rfl, by decide +kernel, rfl, by decide +kernel, by decide +kernel⟩
abbrev st_Option_repr : Stmt := inClass (topS 26) 10
theorem sc_Option_repr : FnScope ["self"] ["self"] (defScope st_Option_repr) := ⟨rfl, rfl, rfl, by decide +kernel, rfl, by decide +kernel, by decide +kernel⟩
abbrev st_Place_repr : Stmt := inClass (topS 27) 7
theorem sc_Place_repr : FnScope ["self"] ["self"] (defScope st_Place_repr) := ⟨rfl, rfl, rfl, by decide +kernel, rfl, by decide +kernel, by decide +kernel⟩
/-! ### repr of a flat value -/
def rp : V → Str
  | .bl b => if b then Str.ofString "True" else Str.ofString "False"
  | .str z => reprText z
  | _ => Str.ofString "None"
theorem Fl.len {v : V} (h : Fl v) : (rp v).length ≤ 3002 := by
  cases h with
  | non => decide +kernel
  | bl b => cases b <;> decide +kernel
  | str h => exact repr_tx h
def rReprF : List V → Hp → VK → Prop := fun xs H Q => ∃ v : V, xs = [v] ∧ Fl v ∧ Q (.str (rp v)) H
theorem call_reprF {X : Cx} : CallR X (.builtin "repr") rReprF := by
  intro pins s σ H xs us Q I rels ask
  obtain ⟨v, rfl, fl, q⟩ := ask
  obtain ⟨u, rfl, rel⟩ := vals1 rels
  have sl : sizeLine = 16777216 := sizeLine_eq
  have fin : ∀ {x : Str}, x = rp v → EP X pins σ Q (.str x s.toks) { s with toks := s.toks + 1 } := fun {x} e => ⟨.str x, H, I.tok _, ⟨_, rfl⟩, by rw [e]; exact q⟩
  have ln := fl.len
  cases fl with
  | non =>
    cases rel
    exact P.repr_of_none (fin rfl)
  | bl b =>
    cases rel
    refine P.repr_of_bool (fin ?_)
    cases b <;> rfl
  | str h =>
    obtain ⟨t, rfl⟩ := rel
    refine P.repr_of_str (fin rfl) ?_
    have : (reprText _).length ≤ 3002 := ln
    omega
def cj (vs : List V) : Str := Txt.join (Str.ofString ", ") (vs.map rp)
theorem sum_rp : ∀ {vs : List V}, AllFl vs → ((vs.map rp).map (·.length)).sum ≤ vs.length * 3002
  | [], _ => Nat.le_refl _
  | v :: r, h => by
    have h1 := sum_rp h.tail
    have h2 := (h v List.mem_cons_self).len
    rw [List.map_cons, List.map_cons, List.sum_cons, List.length_cons, Nat.succ_mul]
    omega
theorem cj_len {vs : List V} (h : AllFl vs) (l : vs.length ≤ 20) : (cj vs).length ≤ 70000 := by
  unfold cj
  rw [TL.join_eq]
  have e := StrLaws.join_length_le (Str.ofString ", ") (vs.map rp)
  have e2 := sum_rp h
  have e3 : (Str.ofString ", ").length = 2 := by decide +kernel
  rw [e3, List.length_map] at e
  omega
section
variable {P : Program} {w : World} {K : PySem.W.Frag} {mg : Str → Option Value} {base : Heap}
def spComma (K : PySem.W.Frag) : Sp := fun xs H Q _ => ∃ (t : Addr) (vs : List V), xs = [.ref t] ∧ H t = some (.tup vs) ∧ AllFl vs ∧ vs.length ≤ 20 ∧ ∀ H', Same H H' → Q (.str (cj vs)) H'
theorem ok_comma {f : Addr} {fd : FuncData} {k : Nat} (F : Fun K "comma_joined" "comma_joined" st_comma_joined f fd) (m_repr : mg "repr" = none) : FnOk P w K mg base CX0 (k + 1) f fd ["values"] (spComma K) := by
  refine F.ok sc_comma_joined (fun vs H Q E h => ?_) (fun cdv A outer s H vs Q E hr h => ?_)
  · obtain ⟨t, ws, rfl, _⟩ := h
    rfl
  · obtain ⟨t, ws, rfl, et, fl, le, q⟩ := h
    have sl : sizeLine = 16777216 := sizeLine_eq
    refine ⟨_, pss_one (ps_ret (pe_join pe_str (pe_lc (own := [("value", 1)]) (g := gName 1) (tt := tYes) rfl sc_comma_joined.nd (pi_tup (pv 0)) (blkOk_by (N := ["values", "value"]) (sc := defScope st_comma_joined) (by decide +kernel)) (fun _ _ _ _ _ => (pg_name (i := 1) sc_comma_joined.nd rfl (Or.inl rfl))) (fun _ _ _ _ _ => pts_nil) (fun _ _ _ _ _ => (pe_callB (r := rReprF) call_reprF (by rfl) m_repr (by decide +kernel) (pa_cons (pv 1) pa_nil)))))), ?_⟩
    refine ⟨⟨_, rfl⟩, .ref t, rfl, t, rfl, ⟨_, SqT.of et⟩, fun D nD => ?_⟩
    refine lc_tup (K := K) (a := t) (xs := ws) (fun i Hc => Same H Hc ∧ Hc D = some (.lst (((ws.take i).map rp).map V.str))) ⟨same_upd nD, upd_same⟩ (fun i Hc _ h => SqT.of (h.1 _ _ et)) (fun i v Hc hv ⟨sc, eD⟩ => ?_) (fun Hc ⟨sc, eD⟩ => ?_)
    · refine ⟨rfl, v, rfl, v, rfl, fl v (List.mem_of_getElem? hv), _, eD, ?_, ?_, ?_⟩
      · rw [List.length_map, List.length_map, List.length_take]
        omega
      · intro b o e
        rw [upd_ne (ne_of_none e nD)]
        exact sc b o e
      · rw [upd_same, List.take_add_one, hv, List.map_append, List.map_append]
        rfl
    · rw [List.take_length] at eD
      refine ⟨_, D, ws.map rp, rfl, rfl, .inl (SqL.of eD), ?_, q _ sc⟩
      have e2 := sum_rp fl
      have e3 : (Str.ofString ", ").length = 2 := by decide +kernel
      rw [e3, List.length_map]
      omega
theorem held_look {t : Addr} : List.lookup ("held" : Str) [(("held" : Str), V.ref t)] = some (.ref t) := by simp [List.lookup]
/-- what isinstance asks of the class -/
structure IsiC (K : PySem.W.Frag) (C : Addr) : Prop where
  ca : PySem.W.findIn K (.ref C) "__class__" = some (some (.builtin "object.__class__"))
  cn : PySem.W.specialIn K (.builtin "object.__class__") "__get__" = some (some (.builtin "getset_descriptor.__get__"))
  ct : PySem.W.takesIn K (.builtin "object.__class__") = some true
  cm : PySem.W.mroIn K C (.type "object") = some true
theorem isi_ty {H : Hp} {C a : Addr} {vs : List V} (T : ClsT K C) (c : IsiC K C) (h : IsT H C a vs) : TyX K H (.ref a) (.ref C) := by
  obtain ⟨_, dx, t, ea, _⟩ := h
  exact .base (.ins ea T.cl c.ca c.cn c.ct c.cm)
theorem ok_eqO {C f : Addr} {fd : FuncData} {k : Nat} (F : Fun K "__eq__" "Option.__eq__" st_Option_eq f fd) (T : ClsT K C) (IC : IsiC K C) (gC : mg "Option" = some (.ref C)) (m_isinstance : mg "isinstance" = none) : FnOk P w K mg base CX0 (k + 1) f fd ["self", "other"] (spEqO K C) := by
  refine F.ok sc_Option_eq (fun vs H Q E h => ?_) (fun cdv A outer s H vs Q E hr h => ?_)
  · obtain ⟨a, y, us, b, rfl, _⟩ := h
    rfl
  · obtain ⟨a, y, us, b, rfl, ht, eq, q⟩ := h
    refine ⟨_, pss_one (ps_ret (pe_and (pe_callB call_isi (by rfl) m_isinstance (by decide +kernel) (pa_cons (pv 1) (pa_cons (pe_glob (v := .ref C) rfl gC rfl) pa_nil))) (pe_one (pe_cmpR (op_eqD hr.units) (pe_fld (pv 0) rfl) (pe_fld (pv 1) rfl) (nomark _))))), ?_⟩
    cases eq with
    | same h2 =>
      refine ⟨_, rfl, _, _, _, _, true, rfl, ClsV.own C, isi_ty T IC h2, by unfold PySem.W.kitOne; rw [if_pos (beq_self_eq_true _)], _, rfl, ?_⟩
      obtain ⟨f1, dx, t, ea, et⟩ := ht
      obtain ⟨f2, dx2, t2, ec, et2⟩ := h2
      refine ⟨.ref a, rfl, a, C, dx, _, _, rfl, ea, T.cl, T.nh, held_look, _, rfl, _, C, dx2, _, _, rfl, ec, T.cl, T.nh, held_look, _, _, .tup (SqT.of et) f1.dp, .tup (SqT.of et2) f2.dp, f1.shT, f2.shT, ?_⟩
      rw [eqv_tup f1 f2]
      exact q
    | other ty kk =>
      exact ⟨_, rfl, _, _, _, _, false, rfl, ClsV.own C, ty, kk, _, rfl, q⟩
theorem ok_eqP {C f : Addr} {fd : FuncData} {k : Nat} (F : Fun K "__eq__" "Place.__eq__" st_Place_eq f fd) (T : ClsT K C) (IC : IsiC K C) (gC : mg "Place" = some (.ref C)) (m_isinstance : mg "isinstance" = none) : FnOk P w K mg base CX0 (k + 1) f fd ["self", "other"] (spEqO K C) := by
  refine F.ok sc_Place_eq (fun vs H Q E h => ?_) (fun cdv A outer s H vs Q E hr h => ?_)
  · obtain ⟨a, y, us, b, rfl, _⟩ := h
    rfl
  · obtain ⟨a, y, us, b, rfl, ht, eq, q⟩ := h
    refine ⟨_, pss_one (ps_ret (pe_and (pe_callB call_isi (by rfl) m_isinstance (by decide +kernel) (pa_cons (pv 1) (pa_cons (pe_glob (v := .ref C) rfl gC rfl) pa_nil))) (pe_one (pe_cmpR (op_eqD hr.units) (pe_fld (pv 0) rfl) (pe_fld (pv 1) rfl) (nomark _))))), ?_⟩
    cases eq with
    | same h2 =>
      refine ⟨_, rfl, _, _, _, _, true, rfl, ClsV.own C, isi_ty T IC h2, by unfold PySem.W.kitOne; rw [if_pos (beq_self_eq_true _)], _, rfl, ?_⟩
      obtain ⟨f1, dx, t, ea, et⟩ := ht
      obtain ⟨f2, dx2, t2, ec, et2⟩ := h2
      refine ⟨.ref a, rfl, a, C, dx, _, _, rfl, ea, T.cl, T.nh, held_look, _, rfl, _, C, dx2, _, _, rfl, ec, T.cl, T.nh, held_look, _, _, .tup (SqT.of et) f1.dp, .tup (SqT.of et2) f2.dp, f1.shT, f2.shT, ?_⟩
      rw [eqv_tup f1 f2]
      exact q
    | other ty kk =>
      exact ⟨_, rfl, _, _, _, _, false, rfl, ClsV.own C, ty, kk, _, rfl, q⟩
/-! ### repr -/
def shw (nm : String) (vs : List V) : Str := Str.empty ++ Str.ofString nm ++ cj vs ++ Str.ofString ")"
def spRepr (C : Addr) (nm : String) : Sp := fun xs H Q _ => ∃ (a : Addr) (vs : List V), xs = [.ref a] ∧ IsT H C a vs ∧ vs.length ≤ 20 ∧ ∀ H', Same H H' → Q (.str (shw nm vs)) H'
theorem ok_reprO {C f fC : Addr} {fd fdC : FuncData} {k : Nat} (F : Fun K "__repr__" "Option.__repr__" st_Option_repr f fd) (T : ClsT K C) (D_comma_joined : Df K mg "comma_joined" st_comma_joined ["values"] fC fdC) (m_repr : mg "repr" = none) : FnOk P w K mg base CX0 (k + 2) f fd ["self"] (spRepr C "Option(") := by
  have G_comma_joined : FnOk P w K mg base CX0 (k + 1) fC fdC ["values"] (spComma K) := ok_comma D_comma_joined.F m_repr
  refine F.ok sc_Option_repr (fun vs H Q E h => ?_) (fun cdv A outer s H vs Q E hr h => ?_)
  · obtain ⟨a, us, rfl, _⟩ := h
    rfl
  · obtain ⟨a, us, rfl, ht, le, q⟩ := h
    have sl : sizeLine = 16777216 := sizeLine_eq
    refine ⟨_, pss_one (ps_ret (pe_joined (.cons pe_str (.cons (pe_fmt (pe_call G_comma_joined hr (by rfl) D_comma_joined.g D_comma_joined.F.kp D_comma_joined.b .nil pass0 (pa_cons (pe_fld (pv 0) rfl) pa_nil))) (.cons pe_str .nil))))), ?_⟩
    obtain ⟨f1, dx, t, ea, et⟩ := ht
    have l1 := cj_len f1 le
    have l2 : (Str.empty ++ Str.ofString "Option(").length = 7 := by decide +kernel
    have l3 : (Str.ofString ")").length = 1 := by decide +kernel
    refine ⟨_, rfl, by rw [l2]; omega, .ref a, rfl, a, C, dx, _, _, rfl, ea, T.cl, T.nh, held_look, t, us, rfl, et, f1, le, fun H' s' => .inl ⟨_, rfl, by omega, _, rfl, by rw [Str.length_append, l2]; omega, _, rfl, by rw [Str.length_append, Str.length_append, l2, l3]; omega, q H' s'⟩⟩
theorem ok_reprP {C f fC : Addr} {fd fdC : FuncData} {k : Nat} (F : Fun K "__repr__" "Place.__repr__" st_Place_repr f fd) (T : ClsT K C) (D_comma_joined : Df K mg "comma_joined" st_comma_joined ["values"] fC fdC) (m_repr : mg "repr" = none) : FnOk P w K mg base CX0 (k + 2) f fd ["self"] (spRepr C "Place(") := by
  have G_comma_joined : FnOk P w K mg base CX0 (k + 1) fC fdC ["values"] (spComma K) := ok_comma D_comma_joined.F m_repr
  refine F.ok sc_Place_repr (fun vs H Q E h => ?_) (fun cdv A outer s H vs Q E hr h => ?_)
  · obtain ⟨a, us, rfl, _⟩ := h
    rfl
  · obtain ⟨a, us, rfl, ht, le, q⟩ := h
    have sl : sizeLine = 16777216 := sizeLine_eq
    refine ⟨_, pss_one (ps_ret (pe_joined (.cons pe_str (.cons (pe_fmt (pe_call G_comma_joined hr (by rfl) D_comma_joined.g D_comma_joined.F.kp D_comma_joined.b .nil pass0 (pa_cons (pe_fld (pv 0) rfl) pa_nil))) (.cons pe_str .nil))))), ?_⟩
    obtain ⟨f1, dx, t, ea, et⟩ := ht
    have l1 := cj_len f1 le
    have l2 : (Str.empty ++ Str.ofString "Place(").length = 6 := by decide +kernel
    have l3 : (Str.ofString ")").length = 1 := by decide +kernel
    refine ⟨_, rfl, by rw [l2]; omega, .ref a, rfl, a, C, dx, _, _, rfl, ea, T.cl, T.nh, held_look, t, us, rfl, et, f1, le, fun H' s' => .inl ⟨_, rfl, by omega, _, rfl, by rw [Str.length_append, l2]; omega, _, rfl, by rw [Str.length_append, Str.length_append, l2, l3]; omega, q H' s'⟩⟩
end
end WB

set_option Elab.async false
set_option linter.all false
set_option maxRecDepth 100000
set_option maxHeartbeats 4000000
namespace WB
open PySem PySem.Spec PyProof.Rows L2 WG
open TL (tl)
/-! ### repr of instances -/
section
variable {X : Cx} {pins : List (Addr × Obj)} {σ : L2.St} {H : Hp} {s : Shared} {A : Around} {n : Nat} {E : Value → Shared → Prop}
theorem run_ownQ {f : Addr} {fd : FuncData} {ps : List Str} {sp : Sp} {xs : List V} {us : List Value} {want : VK} (F : FnOk X.prog X.w X.K X.mg X.base CX0 n f fd ps sp) (hb : Binds X.K fd ps []) (sb : Sub X n A) (I : Inv X pins σ H s) (r : Vals xs us) (h : sp xs H want E0) :
    wpAny (model X.prog X.w) A (call (.ref f) us) (fun w s' => ∃ v H', RelV v w ∧ Inv X pins σ H' s' ∧ want v H') E s := by
  have e0 : Env0 X.prog X.w X.K X.mg X.base A X.stack s H := by
    have e := I.env0
    exact ⟨by rw [sb.fr]; exact e.frames, e.mod, e.bs, e.bsz, e.funs, e.frf, e.hok, e.bare⟩
  have hl := F.len _ _ _ _ h
  have bb := hb s us I.kIn (by rw [List.append_nil, ← r.length]; exact hl)
  rw [List.append_nil] at bb
  refine wpAny_call (codeAny_mono (F.run A X.stack s H ⟨us, []⟩ us xs _ E0 sb.room e0 bb r h) fun q s' got => ?_)
  cases q with
  | error e => exact got.elim
  | ok fl =>
    cases fl with
    | ret w =>
      obtain ⟨z, H', I', rz, ez⟩ := I.after got
      exact ⟨z, H', rz, I', ez⟩
    | next => exact got.elim
    | brk => exact got.elim
    | cont => exact got.elim
/-- the instance at a is shown as t, by an own repr -/
def RpI (X : Cx) (n : Nat) (H : Hp) (a : Addr) (t : Str) : Prop := ∃ (C f dx : Addr) (fd : FuncData) (sp : Sp) (fs : List (Str × V)), FnOk X.prog X.w X.K X.mg X.base CX0 n f fd ["self"] sp ∧ Binds X.K fd ["self"] [] ∧ PySem.W.findIn X.K (.ref C) "__repr__" = some (some (.ref f)) ∧ PySem.W.isFn X.K (.ref f) = true ∧
  H a = some (.ins C dx fs) ∧ ∀ H1, Same H H1 → sp [.ref a] H1 (fun v H2 => v = .str t ∧ Same H1 H2) E0
theorem RpI.same {H' : Hp} {a : Addr} {t : Str} (h : RpI X n H a t) (s' : Same H H') : RpI X n H' a t := by
  obtain ⟨C, f, dx, fd, sp, fs, h1, h2, h3, h4, h5, h6⟩ := h
  exact ⟨C, f, dx, fd, sp, fs, h1, h2, h3, h4, s' _ _ h5, fun H1 s1 => h6 H1 (s'.trans s1)⟩
theorem RpI.call {a : Addr} {t : Str} (h : RpI X n H a t) (sb : Sub X n A) (I : Inv X pins σ H s) : ∃ (C f : Addr) (ox : Obj) (od : Option Obj), PySem.W.InstAt s.heap a ox C od ∧ PySem.W.findIn X.K (.ref C) "__repr__" = some (some (.ref f)) ∧ PySem.W.isFn X.K (.ref f) = true ∧
    wpAny (model X.prog X.w) A (call (.ref f) [.ref a]) (fun w s' => ∃ u H', w = .str t u ∧ Inv X pins σ H' s' ∧ Same H H') E s := by
  obtain ⟨C, f, dx, fd, sp, fs, h1, h2, h3, h4, h5, h6⟩ := h
  obtain ⟨mA, J, _⟩ := ins_get I.hok h5
  obtain ⟨od, J, _⟩ := J.look
  refine ⟨C, f, _, _, J, h3, h4, wpAny_mono (run_ownQ h1 h2 sb I (show Vals [V.ref a] [Value.ref a] from .cons rfl .nil) (h6 H (Same.refl _))) (fun w s' ⟨v, H', rv, I', ev, sm⟩ => ?_) fun _ _ e => e⟩
  subst ev
  obtain ⟨u, rfl⟩ := rv
  exact ⟨u, H', rfl, I', sm⟩
def rReprI (X : Cx) (n : Nat) : List V → Hp → VK → Prop := fun xs H Q => ∃ (a : Addr) (t : Str), xs = [.ref a] ∧ RpI X n H a t ∧ ∀ H', Same H H' → Q (.str t) H'
theorem call_reprI (hr : Room (n + 1) X.A) : CallR X (.builtin "repr") (rReprI X n) := by
  intro pins s σ H xs us Q I rels ask
  obtain ⟨a, t, rfl, rp, q⟩ := ask
  obtain ⟨u, rfl, rel⟩ := vals1 rels
  cases rel
  have sb : Sub X (n + 1) X.A := ⟨hr, rfl⟩
  obtain ⟨C, f, ox, od, J, h3, h4, run⟩ := rp.call (E := X.xe) sb.in1 I
  obtain ⟨m, hF⟩ := I.fr
  refine PySem.W.repr_K sb.in1.room.units0 hF I.ok.mod.kin J h3 h4 (wpAny_mono run (fun w s' ⟨u, H', ew, I', sm⟩ => ?_) fun _ _ e => e)
  subst ew
  exact ⟨.str t, H', I', ⟨u, rfl⟩, q H' sm⟩
theorem under_own {a : Addr} {t : Str} {b : Nat} (h : RpI X n H a t) (hb : b ≤ sizeLine) (sb : Sub X n A) (I : Inv X pins σ H s) : wpAny (model X.prog X.w) A (pyReprUnder b (.ref a)) (fun r s' => r = t ∧ ∃ H', Inv X pins σ H' s' ∧ Same H H') E s := by
  obtain ⟨C, f, ox, od, J, h3, h4, run⟩ := h.call (E := E) sb I
  refine wpAny_pyReprUnder_ref hb ?_
  unfold pyReprObjUnder pyReprObjBy
  refine wpAny_bind (wpAny_cRoomFor sb.room.units0 ?_)
  have look : PySem.W.Looks (model X.prog X.w) s.heap (specialOf (.ref a) "__repr__") (some (.ref f)) := J.type.andThen (PySem.W.looks_findIn I.kIn h3)
  refine wpAny_bind (look.here ?_)
  refine wpAny_bind ?_
  simp only [callSpecialIfBoundBy?, bindSpecialIfBound?]
  refine wpAny_holding (wpAny_bind (wpAny_bind (look.here ?_)))
  refine wpAny_bind (wpAny_askSetting (wpAny_ite ?_))
  have fin : wpAny (model X.prog X.w) A (call (.ref f) ([.ref a] ++ []) >>= fun v => pure (some v)) (fun r s' => wpAny (model X.prog X.w) A (match r with
      | some r => do
        if ← isInstance r (.type "str") then pure r else raiseError "TypeError" s!"__repr__ returned non-string (type {← typeNameOf r})"
      | none => unsupported "repr:special-get-raises") (fun v s' => ∃ x u, v = .str x u ∧ x = t ∧ ∃ H', Inv X pins σ H' s' ∧ Same H H') E s') E s := by
    refine wpAny_bind (wpAny_mono run (fun w s' ⟨u, H', ew, I', sm⟩ => wpAny_pure ?_) fun _ _ e => e)
    subst ew
    exact wpAny_bind (wpAny_isInstance (T := "str") (b := true) rfl isSubtype_str_str (wpAny_pure ⟨_, _, rfl, rfl, H', I', sm⟩))
  split
  · exact wpAny_bind ((PySem.W.bind_fn I.kIn _ (beq_iff_eq.mp h4)).here (wpAny_pure (by exact fin)))
  · exact wpAny_tryCatch (wpAny_bind ((PySem.W.bind_fn I.kIn _ (beq_iff_eq.mp h4)).here (wpAny_pure (by exact fin))))
end
end WB

set_option Elab.async false
set_option linter.all false
set_option maxRecDepth 100000
set_option maxHeartbeats 4000000
namespace WB
open PySem PySem.Spec PyProof.Rows L2 WG
open Builtin Builtin.List
open TL (tl)
theorem vals_texts : ∀ {ts : List Str} {its : List Value}, Vals (ts.map V.str) its → ∃ done : List (Str × Tok), its = strValues done ∧ done.map (·.1) = ts
  | [], _, .nil => ⟨[], rfl, rfl⟩
  | t :: r, _, .cons h1 h2 => by
    obtain ⟨u, rfl⟩ := h1
    obtain ⟨done, rfl, e⟩ := vals_texts h2
    exact ⟨(t, u) :: done, rfl, by rw [List.map_cons, e]⟩
section
variable {X : Cx} {pins : List (Addr × Obj)} {σ : L2.St} {H : Hp} {A : Around} {n : Nat}
theorem sub_loop {args : Args} (sb : Sub X (n + 1) A) : Sub X n (A.under (.builtin "list.__repr__.loop" args)) := by
  refine ⟨⟨?_, ?_, ?_⟩, ?_⟩
  · have := sb.room.hd
    first | exact this | simpa [Around.under] using this
  · have h1 := sb.room.dp
    have h2 : (A.under (.builtin "list.__repr__.loop" args)).depth ≤ A.depth + 1 := by
      first
      | exact Nat.le_succ _
      | exact Nat.le_refl _
      | simp [Around.under, Code.weight, Code.isCreation, Code.isGuard, Code.isCaller, Code.frames, Code.isFrame, guardIds]
    omega
  · have h1 := sb.room.un
    rw [units_under_list_loop]
    omega
  · have := sb.fr
    first | exact this | simpa [Around.under, Code.frames, Code.isFrame] using this
/-- the turns of a list's repr, its items instances -/
theorem loopI {R : Result → Shared → Prop} {l P : Addr} {as : List Addr} {ts : List Str} (sb : Sub X (n + 1) A) (hlp : l ≠ P) (el : H l = some (.lst (as.map V.ref))) (hlen : ts.length = as.length) (hT : ∀ (i : Nat) (a : Addr), as[i]? = some a → ∃ t, ts[i]? = some t ∧ RpI X n H a t) (hsz : (listText ts).length ≤ sizeLine)
    (hR : ∀ s' u H', Inv X pins σ H' s' → Same H H' → R (.ok (.ret (.str (listText ts) u))) s') :
    ∀ (k i : Nat) (s : Shared) (Hi : Hp), as.length - i = k → i ≤ as.length → Inv X pins σ Hi s → Same H Hi → H P = none → Hi P = some (.lst ((ts.take i).map V.str)) →
      codeAny (model X.prog X.w) A (.builtin "list.__repr__.loop" ⟨[.ref l, rawInt i, .ref P, rawInt ((piled (ts.take i) : Nat) : Int)], []⟩) R s := by
  have hX : (listText ts).length = (textFrom 0 "[" ts).length + 1 := by
    show (textFrom 0 "[" ts ++ "]").length = _
    rw [strLen_append]
    rfl
  have hL := textFrom_len ts 0 "["
  have many : as.length ≤ sizeLine := by
    have h1 := hL.1
    rw [if_neg (Nat.lt_irrefl 0)] at h1
    omega
  have short : ∀ t ∈ ts, t.length ≤ sizeLine := fun t ht => by
    have h2 := hL.2.1 t ht
    omega
  have pile := piled_le_listText ts
  intro k
  induction k with
  | zero =>
    intro i s Hi hk hi I sm hPn eP
    have hin : i = as.length := by omega
    obtain ⟨its, rv, ⟨o, no, ho, hc, hdx, hd⟩, _⟩ := I.list (SqL.of (sm _ _ el))
    obtain ⟨_, jts, nP, rP, gP⟩ := (show ObjOk _ _ Hi s.heap P (.lst _) from I.hok P _ eP)
    obtain ⟨done, rfl, ed⟩ := vals_texts rP
    have il : its.length = as.length := by
      have := rv.length
      rw [List.length_map] at this
      exact this.symm
    refine codeAny_builtin F.entry_list_repr_loop ?_
    show wpAny _ _ («list.__repr__.loop» ⟨[.ref l, .int i 0, .ref P, .int ((piled (ts.take i) : Nat) : Int) 0], []⟩) _ _ s
    rw [repr_loop_tree]
    refine wpAny_bind (wpAny_listItems ho hd ?_)
    have hnone : its.toArray[(i : Int).toNat]? = none := by simp; omega
    simp only [hnone]
    unfold reprEnd
    refine wpAny_bind (wpAny_listItems gP rfl ?_)
    show wpAny _ _ (forIn (strValues done).zipIdx _ reprBody >>= _) _ _ _
    rw [repr_fold]
    refine wpAny_bind (wpAny_pure ?_)
    rw [ed, hin, ← hlen, List.take_length]
    exact wpAny_bind (wpAny_mkStr (wpAny_pure (hR _ _ Hi (I.tok _) sm)) hsz)
  | succ k ih =>
    intro i s Hi hk hi I sm hPn eP
    have lt : i < as.length := by omega
    obtain ⟨its, rv, ⟨o, no, ho, hc, hdx, hd⟩, _⟩ := I.list (SqL.of (sm _ _ el))
    obtain ⟨t, ht, rp⟩ := hT i as[i] (List.getElem?_eq_getElem lt)
    have ea : (as.map V.ref)[i]? = some (.ref as[i]) := by rw [List.getElem?_map, List.getElem?_eq_getElem lt]; rfl
    obtain ⟨u, eu, ru⟩ := rv.get ea
    cases ru
    have step := piled_take_succ ht
    have most := piled_take_le ts (i + 1)
    refine codeAny_builtin F.entry_list_repr_loop ?_
    show wpAny _ _ («list.__repr__.loop» ⟨[.ref l, .int i 0, .ref P, .int ((piled (ts.take i) : Nat) : Int) 0], []⟩) _ _ s
    rw [repr_loop_tree]
    refine wpAny_bind (wpAny_listItems ho hd ?_)
    have hsome : its.toArray[(i : Int).toNat]? = some (.ref as[i]) := by simpa using eu
    simp only [hsome]
    rw [Int.toNat_natCast]
    refine wpAny_bind (wpAny_holding (wpAny_mono (under_own (rp.same sm) (by omega) (sub_loop sb) I) (fun r s2 ⟨er, H2, I2, sm2⟩ => ?_) fun _ _ e => e))
    subst er
    refine wpAny_bind (wpAny_mkStr ?_ (short r (List.mem_of_getElem? ht)))
    refine wpAny_bind ?_
    show wpAny _ _ (updateSeq P _) _ _ _
    have eP2 := sm2 _ _ eP
    obtain ⟨zl, jts, nP, rP, gP⟩ := (show ObjOk _ _ H2 s2.heap P (.lst _) from I2.hok P _ eP2)
    have jl := rP.length
    rw [List.length_map, List.length_take] at jl
    refine wpAny_updateSeq (s := { s2 with toks := s2.toks + 1 }) gP rfl (wpAny_pure ⟨F.quiet_list_repr_loop _, ?_⟩) (by rw [List.size_toArray]; omega)
    have e1 : ((i : Int) + 1) = ((i + 1 : Nat) : Int) := by omega
    have e2 : piled (ts.take i) + (r.length + 2) = piled (ts.take (i + 1)) := by omega
    rw [e1, e2]
    have I3 : Inv X pins σ (upd H2 P (.lst ((ts.take i).map V.str ++ [.str r]))) { s2 with heap := s2.heap.update P (Obj.mapSeq fun xs => xs.push (.str r s2.toks)), toks := s2.toks + 1 } :=
      I2.lset (its' := jts ++ [.str r s2.toks]) eP2 gP (by simp) (rP.append (.cons ⟨_, rfl⟩ .nil)) (by rw [List.length_append, List.length_map, List.length_take]; show _ + 1 ≤ _; omega)
    refine ih (i + 1) _ _ (by omega) lt I3 (fun b ob e => ?_) hPn ?_
    · rw [upd_ne (ne_of_none e hPn)]
      exact sm2 _ _ (sm _ _ e)
    · rw [upd_same, List.take_add_one, ht, List.map_append]
      rfl
def rReprIs (X : Cx) (n : Nat) : List V → Hp → VK → Prop := fun xs H Q => ∃ (l : Addr) (as : List Addr) (ts : List Str), xs = [.ref l] ∧ H l = some (.lst (as.map V.ref)) ∧ as ≠ [] ∧ ts.length = as.length ∧ (∀ (i : Nat) (a : Addr), as[i]? = some a → ∃ t, ts[i]? = some t ∧ RpI X n H a t) ∧ (listText ts).length ≤ sizeLine ∧ ∀ H', Same H H' → Q (.str (listText ts)) H'
/-- repr of a list of instances -/
theorem call_reprIs (hg : X.A.guards = some []) (hr : Room (n + 2) X.A) : CallR X (.builtin "repr") (rReprIs X n) := by
  intro pins s σ H xs us Q I rels ask
  obtain ⟨l, as, ts, rfl, el, ne, hlen, hT, hsz, q⟩ := ask
  obtain ⟨u, rfl, rel⟩ := vals1 rels
  cases rel
  have sb : Sub X (n + 2) X.A := ⟨hr, rfl⟩
  obtain ⟨its, rv, ⟨o, no, ho, hc, hdx, hd⟩, _⟩ := I.list (SqL.of el)
  cases its with
  | nil =>
    have := rv.length
    rw [List.length_map] at this
    exact absurd (List.length_eq_zero_iff.mp this) ne
  | cons x xl =>
    refine call_repr_slot (T := "list") (idr := "list.__repr__") (by have := hr.un; omega) ⟨o, ho, hc⟩ F.slot_list_repr.toG ?_
    refine wpAny_call (codeAny_call_builtin F.slot_list_repr.plain F.entry_list_repr (F.slot_list_repr.check _ _ _ _ _ _ _ _ ⟨o, ho, hc⟩ (F.args_list_repr_1 _) ?_))
    refine wpAny_list_repr_head (A := X.A.in1.in1) (g := []) (b := 0) hg (fun v rest kw hm => nomatch hm) ho hd ?_
    refine wpAny_bind (m := newList []) (wpAny_newObj_type ?_)
    refine wpAny_pure ⟨F.quiet_list_repr_loop _, ?_⟩
    have hPn : H s.heap.objs.size = none := I.hok.fresh (Nat.le_refl _)
    have lt : l < s.heap.objs.size := Heap.lt_size ho
    have I1 : Inv X pins σ (upd H s.heap.objs.size (.lst [])) { s with heap := s.heap.push { cls := .type "list", data := .seq ([] : List Value).toArray }, toks := s.toks } := I.lnew .nil (Nat.zero_le _)
    exact loopI (R := callEnd _ _) sb.in1 (Nat.ne_of_lt lt) el hlen hT hsz (fun s' u H' I' sm => ⟨_, _, rfl, .str _, H', I', ⟨u, rfl⟩, q H' sm⟩) _ 0 _ _ rfl (Nat.zero_le _) I1 (same_upd hPn) hPn upd_same
end
end WB

set_option Elab.async false
set_option linter.all false
set_option maxRecDepth 100000
set_option maxHeartbeats 4000000
namespace WB
open PySem PySem.Spec PyProof.Rows L2 WG
open TL (tl)
abbrev st_is_list_within : Stmt := topS 14
theorem sc_is_list_within : FnScope ["value", "most"] ["value", "most"] (defScope st_is_list_within) := ⟨rfl, rfl, rfl, by decide +kernel, rfl, by decide +kernel, by decide +kernel⟩
abbrev st_are_options : Stmt := topS 35
theorem sc_are_options : FnScope ["value", "each"] ["value"] (defScope st_are_options) := ⟨rfl, rfl, rfl, by decide +kernel, rfl, by decide +kernel, by decide +kernel⟩
abbrev st_are_places : Stmt := topS 36
theorem sc_are_places : FnScope ["value", "each"] ["value"] (defScope st_are_places) := ⟨rfl, rfl, rfl, by decide +kernel, rfl, by decide +kernel, by decide +kernel⟩
abbrev st_is_group : Stmt := topS 37
theorem sc_is_group : FnScope ["value", "each"] ["value"] (defScope st_is_group) := ⟨rfl, rfl, rfl, by decide +kernel, rfl, by decide +kernel, by decide +kernel⟩
abbrev st_are_groups : Stmt := topS 38
theorem sc_are_groups : FnScope ["value", "each"] ["value"] (defScope st_are_groups) := ⟨rfl, rfl, rfl, by decide +kernel, rfl, by decide +kernel, by decide +kernel⟩
abbrev st_are_commands : Stmt := topS 39
theorem sc_are_commands : FnScope ["value", "each"] ["value"] (defScope st_are_commands) := ⟨rfl, rfl, rfl, by decide +kernel, rfl, by decide +kernel, by decide +kernel⟩
abbrev st_empty_for_none : Stmt := topS 40
theorem sc_empty_for_none : FnScope ["value"] ["value"] (defScope st_empty_for_none) := ⟨rfl, rfl, rfl, by decide +kernel, rfl, by decide +kernel, by decide +kernel⟩
abbrev st_copied_groups : Stmt := topS 41
theorem sc_copied_groups : FnScope ["groups", "group"] ["groups"] (defScope st_copied_groups) := ⟨rfl, rfl, rfl, by decide +kernel, rfl, by decide +kernel, by decide +kernel⟩
/-! ### things that may be handed in to a command -/
def isL (H : Hp) : V → Bool
  | .ref a => match H a with
    | some (.lst _) => true
    | _ => false
  | _ => false
def its (H : Hp) : V → List V
  | .ref a => match H a with
    | some (.lst xs) => xs
    | _ => []
  | _ => []
def isC (H : Hp) (C : Addr) : V → Bool
  | .ref a => match H a with
    | some (.ins D _ _) => decide (D = C)
    | _ => false
  | _ => false
inductive Wf (Cs : List Addr) (H : Hp) : V → Prop
  | non : Wf Cs H .non
  | bl (b : Bool) : Wf Cs H (.bl b)
  | int (i : Int) : Wf Cs H (.int i)
  | str {z : Str} (h : Tx 300 z) : Wf Cs H (.str z)
  | lst {a : Addr} {xs : List V} (e : H a = some (.lst xs)) (le : xs.length ≤ 1000) (h : ∀ x ∈ xs, Wf Cs H x) : Wf Cs H (.ref a)
  | tup {a : Addr} {xs : List V} (e : H a = some (.tup xs)) : Wf Cs H (.ref a)
  | dic {a : Addr} {kvs : List (Key × V)} (e : H a = some (.dK kvs)) : Wf Cs H (.ref a)
  | ins {a C dx : Addr} {fs : List (Str × V)} (e : H a = some (.ins C dx fs)) (c : C ∈ Cs) : Wf Cs H (.ref a)
def allT : List String := ["NoneType", "bool", "int", "str", "list", "tuple", "dict"]
structure Cl3 (K : PySem.W.Frag) (Cs : List Addr) : Prop where
  cl : ∀ c ∈ Cs, Cls K c
  isi : ∀ c ∈ Cs, IsiC K c
  kT : ∀ T ∈ allT, ∀ c ∈ Cs, PySem.W.kitOne K (.type T) (.ref c) = some false
  kC : ∀ d ∈ Cs, ∀ c ∈ Cs, PySem.W.kitOne K (.ref d) (.ref c) = some (decide (d = c))
  kS : ∀ d ∈ Cs, PySem.W.kitOne K (.ref d) (.type "str") = some false
  kL : ∀ d ∈ Cs, PySem.W.kitOne K (.ref d) (.type "list") = some false
theorem isL_lst {H : Hp} {a : Addr} {xs : List V} (e : H a = some (.lst xs)) : isL H (.ref a) = true ∧ its H (.ref a) = xs := by
  unfold isL its
  simp only [e]
  exact ⟨trivial, trivial⟩
theorem Wf.ty {K : PySem.W.Frag} {Cs : List Addr} {H : Hp} {v : V} (c : Cl3 K Cs) (h : Wf Cs H v) : ∃ t, TyX K H v t ∧ (∀ D ∈ Cs, PySem.W.kitOne K t (.ref D) = some (isC H D v)) ∧ PySem.W.kitOne K t (.type "list") = some (isL H v) ∧ PySem.W.kitOne K t (.type "str") = some (isS v) := by
  cases h with
  | non => exact ⟨_, .base .non, c.kT _ (by decide), kit_ty (show kitB "NoneType" "list" = some false from by decide +kernel), kit_ty (show kitB "NoneType" "str" = some false from by decide +kernel)⟩
  | bl b => exact ⟨_, .base (.bl b), c.kT _ (by decide), kit_ty (show kitB "bool" "list" = some false from by decide +kernel), kit_ty (show kitB "bool" "str" = some false from by decide +kernel)⟩
  | int i => exact ⟨_, .base (.int i), c.kT _ (by decide), kit_ty (show kitB "int" "list" = some false from by decide +kernel), kit_ty (show kitB "int" "str" = some false from by decide +kernel)⟩
  | str h => exact ⟨_, .base (.str _), c.kT _ (by decide), kit_ty (show kitB "str" "list" = some false from by decide +kernel), kit_ty (show kitB "str" "str" = some true from by decide +kernel)⟩
  | lst e le h =>
    refine ⟨_, .base (.lst e), fun D hD => ?_, ?_, kit_ty (show kitB "list" "str" = some false from by decide +kernel)⟩
    · rw [show isC H D (.ref _) = false from by unfold isC; simp only [e]]
      exact c.kT _ (by decide) D hD
    · rw [(isL_lst e).1]
      exact kit_ty (show kitB "list" "list" = some true from by decide +kernel)
  | tup e =>
    refine ⟨_, .base (.tup e), fun D hD => ?_, ?_, kit_ty (show kitB "tuple" "str" = some false from by decide +kernel)⟩
    · rw [show isC H D (.ref _) = false from by unfold isC; simp only [e]]
      exact c.kT _ (by decide) D hD
    · rw [show isL H (.ref _) = false from by unfold isL; simp only [e]]
      exact kit_ty (show kitB "tuple" "list" = some false from by decide +kernel)
  | dic e =>
    refine ⟨_, .base (.dK e), fun D hD => ?_, ?_, kit_ty (show kitB "dict" "str" = some false from by decide +kernel)⟩
    · rw [show isC H D (.ref _) = false from by unfold isC; simp only [e]]
      exact c.kT _ (by decide) D hD
    · rw [show isL H (.ref _) = false from by unfold isL; simp only [e]]
      exact kit_ty (show kitB "dict" "list" = some false from by decide +kernel)
  | @ins a C dx fs e hc =>
    have i := c.isi C hc
    refine ⟨_, .base (.ins e (c.cl C hc) i.ca i.cn i.ct i.cm), fun D hD => ?_, ?_, c.kS C hc⟩
    · rw [show isC H D (.ref a) = decide (C = D) from by unfold isC; simp only [e]]
      exact c.kC C hc D hD
    · rw [show isL H (.ref a) = false from by unfold isL; simp only [e]]
      exact c.kL C hc
theorem Wf.same {Cs : List Addr} {H H' : Hp} {v : V} (h : Wf Cs H v) (s : Same H H') : Wf Cs H' v := by
  induction h with
  | non => exact .non
  | bl b => exact .bl b
  | int i => exact .int i
  | str h => exact .str h
  | lst e le h ih => exact .lst (s _ _ e) le ih
  | tup e => exact .tup (s _ _ e)
  | dic e => exact .dic (s _ _ e)
  | ins e c => exact .ins (s _ _ e) c
theorem Wf.at_ {Cs : List Addr} {H H' : Hp} {v : V} (h : Wf Cs H v) (s : Same H H') : isL H' v = isL H v ∧ its H' v = its H v ∧ ∀ D, isC H' D v = isC H D v := by
  cases h with
  | non => exact ⟨rfl, rfl, fun _ => rfl⟩
  | bl b => exact ⟨rfl, rfl, fun _ => rfl⟩
  | int i => exact ⟨rfl, rfl, fun _ => rfl⟩
  | str h => exact ⟨rfl, rfl, fun _ => rfl⟩
  | lst e le h => exact ⟨by rw [(isL_lst e).1, (isL_lst (s _ _ e)).1], by rw [(isL_lst e).2, (isL_lst (s _ _ e)).2], fun D => by unfold isC; simp only [e, s _ _ e]⟩
  | tup e => exact ⟨by unfold isL; simp only [e, s _ _ e], by unfold its; simp only [e, s _ _ e], fun D => by unfold isC; simp only [e, s _ _ e]⟩
  | dic e => exact ⟨by unfold isL; simp only [e, s _ _ e], by unfold its; simp only [e, s _ _ e], fun D => by unfold isC; simp only [e, s _ _ e]⟩
  | ins e c => exact ⟨by unfold isL; simp only [e, s _ _ e], by unfold its; simp only [e, s _ _ e], fun D => by unfold isC; simp only [e, s _ _ e]⟩
theorem Wf.items {Cs : List Addr} {H : Hp} {v : V} (h : Wf Cs H v) : (its H v).length ≤ 1000 ∧ ∀ x ∈ its H v, Wf Cs H x := by
  cases h with
  | lst e le h => rw [(isL_lst e).2]; exact ⟨le, h⟩
  | tup e => unfold its; simp only [e]; exact ⟨by decide, fun x hx => by cases hx⟩
  | dic e => unfold its; simp only [e]; exact ⟨by decide, fun x hx => by cases hx⟩
  | ins e c => unfold its; simp only [e]; exact ⟨by decide, fun x hx => by cases hx⟩
  | _ => exact ⟨Nat.zero_le _, fun x hx => by cases hx⟩
theorem Wf.list {Cs : List Addr} {H : Hp} {v : V} (h : Wf Cs H v) (l : isL H v = true) : ∃ a, v = .ref a ∧ H a = some (.lst (its H v)) := by
  cases h with
  | lst e le h => exact ⟨_, rfl, by rw [(isL_lst e).2]; exact e⟩
  | tup e => unfold isL at l; simp only [e] at l; cases l
  | dic e => unfold isL at l; simp only [e] at l; cases l
  | ins e c => unfold isL at l; simp only [e] at l; cases l
  | _ => cases l
def lok (H : Hp) (m : Nat) (g : V → Bool) (v : V) : Bool := isL H v && decide ((its H v).length ≤ m) && (its H v).all g
def grp (H : Hp) (v : V) : Bool := isL H v && decide ((its H v).length ≤ 6) && decide (2 ≤ (its H v).length) && (its H v).all isS
theorem Wf.grp {Cs : List Addr} {H H' : Hp} {v : V} (h : Wf Cs H v) (s : Same H H') : WB.grp H' v = WB.grp H v := by
  obtain ⟨e1, e2, _⟩ := h.at_ s
  unfold WB.grp
  rw [e1, e2]
section
variable {P : Program} {w : World} {K : PySem.W.Frag} {mg : Str → Option Value} {base : Heap} {Cs : List Addr}
def spLW (Cs : List Addr) : Sp := fun xs H Q _ => ∃ (v : V) (m : Nat), xs = [v, .int m] ∧ Wf Cs H v ∧ Q (.bl (isL H v && decide ((its H v).length ≤ m))) H
theorem ok_listWithin {f : Addr} {fd : FuncData} {k : Nat} (c : Cl3 K Cs) (F : Fun K "is_list_within" "is_list_within" st_is_list_within f fd) (m_len : mg "len" = none) (m_list : mg "list" = none) (m_isinstance : mg "isinstance" = none) :
    FnOk P w K mg base CX0 (k + 1) f fd ["value", "most"] (spLW Cs) := by
  refine F.ok sc_is_list_within (fun vs H Q E h => ?_) (fun cdv A outer s H vs Q E hr h => ?_)
  · obtain ⟨v, m, rfl, _⟩ := h
    rfl
  · obtain ⟨v, m, rfl, hv, q⟩ := h
    refine ⟨_, pss_one (ps_ret (pe_and (pe_callB call_isi (by rfl) m_isinstance (by decide +kernel) (pa_cons (pv 0) (pa_cons (pe_bltn (v := .ty "list") (by rfl) m_list (by decide +kernel) rfl) pa_nil))) (pe_one (pe_cmpR op_le (pe_callB call_len_seq (by rfl) m_len PySem.boot_len (pa_cons (pv 0) pa_nil)) (pv 1) (nomark _))))), ?_⟩
    obtain ⟨t, ht, _, hl, _⟩ := hv.ty c
    refine ⟨v, rfl, v, _, t, _, isL H v, rfl, ClsV.ty "list", ht, hl, _, rfl, ?_⟩
    cases b : isL H v with
    | false =>
      rw [b] at q
      exact q
    | true =>
      rw [b] at q
      obtain ⟨a, rfl, ea⟩ := hv.list b
      refine ⟨_, rfl, a, _, rfl, .inl (SqL.of ea), _, rfl, _, _, rfl, rfl, ?_⟩
      show Q (.bl (decide (((its H (.ref a)).length : Int) ≤ (m : Int)))) H
      rw [show decide (((its H (.ref a)).length : Int) ≤ (m : Int)) = decide ((its H (.ref a)).length ≤ m) from decide_eq_decide.mpr (by omega)]
      exact q
def spAre (Cs : List Addr) (m : Nat) (g : Hp → V → Bool) : Sp := fun xs H Q _ => ∃ v, xs = [v] ∧ Wf Cs H v ∧ ∀ H', Same H H' → Q (.bl (lok H m (g H) v)) H'
theorem ok_areOptions {C f fL : Addr} {fd fdL : FuncData} {k : Nat} {u1 : Tok} (c : Cl3 K Cs) (hC : C ∈ Cs) (F : Fun K "are_options" "are_options" st_are_options f fd) (D_is_list_within : Df K mg "is_list_within" st_is_list_within ["value", "most"] fL fdL) (gO : mg "Option" = some (.ref C)) (c_OP : mg "MOST_OPTIONS" = some (.int 12 u1))
    (m_len : mg "len" = none) (m_list : mg "list" = none) (m_isinstance : mg "isinstance" = none) (m_all : mg "all" = none) : FnOk P w K mg base CX0 (k + 2) f fd ["value"] (spAre Cs 12 (fun H => isC H C)) := by
  have G_is_list_within : FnOk P w K mg base CX0 (k + 1) fL fdL ["value", "most"] (spLW Cs) := ok_listWithin c D_is_list_within.F m_len m_list m_isinstance
  refine F.ok sc_are_options (fun vs H Q E h => ?_) (fun cdv A outer s H vs Q E hr h => ?_)
  · obtain ⟨v, rfl, _⟩ := h
    rfl
  · obtain ⟨v, rfl, hv, q⟩ := h
    have sl : sizeLine = 16777216 := sizeLine_eq
    refine ⟨_, pss_one (ps_ret (pe_and (pe_call G_is_list_within hr (by rfl) D_is_list_within.g D_is_list_within.F.kp D_is_list_within.b .nil pass0 (pa_cons (pv 0) (pa_cons (pe_glob (v := .int 12) rfl c_OP ⟨_, rfl⟩) pa_nil))) (pe_one (pe_callB (cr_all rfl) (by rfl) m_all (by decide +kernel) (pa_cons (pe_lc (own := [("each", 1)]) (g := gName 1) (tt := tYes) rfl sc_are_options.nd (pi_list (pv 0)) (blkOk_by (N := ["value", "each"]) (sc := defScope st_are_options) (by decide +kernel)) (fun _ _ _ _ _ => (pg_name (i := 1) sc_are_options.nd rfl (Or.inl rfl))) (fun _ _ _ _ _ => pts_nil) (fun _ _ _ _ _ => (pe_callB (r := rIsi K) call_isi (by rfl) m_isinstance (by decide +kernel) (pa_cons (pv 1) (pa_cons (pe_glob (v := .ref C) rfl gO rfl) pa_nil))))) pa_nil))))), ?_⟩
    refine ⟨v, rfl, v, 12, rfl, hv, _, rfl, ?_⟩
    unfold lok at q
    cases b : (isL H v && decide ((its H v).length ≤ 12)) with
    | false =>
      rw [b] at q
      exact q _ (Same.refl _)
    | true =>
      rw [b] at q
      obtain ⟨b1, b2⟩ := Bool.and_eq_true_iff.mp b
      obtain ⟨a, rfl, ea⟩ := hv.list b1
      obtain ⟨le, hw⟩ := hv.items
      revert q
      generalize its H (.ref a) = ys at *
      intro q
      refine ⟨.ref a, rfl, a, rfl, ⟨_, SqL.of ea⟩, fun D nD => ?_⟩
      refine lc_list (K := K) (a := a) (xs := ys) (fun i Hc => Same H Hc ∧ Hc D = some (.lst (((ys.take i).map (isC H C)).map V.bl))) ⟨same_upd nD, upd_same⟩ (fun i Hc _ h => SqL.of (h.1 _ _ ea)) (fun i x Hc hx ⟨sc, eD⟩ => ?_) (fun Hc ⟨sc, eD⟩ => ?_)
      · have wx := hw x (List.mem_of_getElem? hx)
        obtain ⟨t, ht, hk, _⟩ := (wx.same sc).ty c
        refine ⟨rfl, x, rfl, x, _, t, _, _, rfl, ClsV.own C, ht, hk C hC, _, eD, ?_, ?_, ?_⟩
        · rw [List.length_map, List.length_map, List.length_take]
          omega
        · intro b o e
          rw [upd_ne (ne_of_none e nD)]
          exact sc b o e
        · rw [upd_same, (wx.at_ sc).2.2, List.take_add_one, hx, List.map_append, List.map_append]
          rfl
      · refine ⟨D, _, rfl, SqL.of eD, ?_⟩
        rw [List.take_length, List.all_map]
        exact q _ sc
end
end WB

set_option Elab.async false
set_option linter.all false
set_option maxRecDepth 100000
set_option maxHeartbeats 4000000
namespace WB
open PySem PySem.Spec PyProof.Rows L2 WG
open TL (tl)
section
variable {P : Program} {w : World} {K : PySem.W.Frag} {mg : Str → Option Value} {base : Heap} {Cs : List Addr}
theorem ok_arePlaces {C f fL : Addr} {fd fdL : FuncData} {k : Nat} {u1 : Tok} (c : Cl3 K Cs) (hC : C ∈ Cs) (F : Fun K "are_places" "are_places" st_are_places f fd) (D_is_list_within : Df K mg "is_list_within" st_is_list_within ["value", "most"] fL fdL) (gP : mg "Place" = some (.ref C)) (c_PL : mg "MOST_PLACES" = some (.int 6 u1))
    (m_len : mg "len" = none) (m_list : mg "list" = none) (m_isinstance : mg "isinstance" = none) (m_all : mg "all" = none) : FnOk P w K mg base CX0 (k + 2) f fd ["value"] (spAre Cs 6 (fun H => isC H C)) := by
  have G_is_list_within : FnOk P w K mg base CX0 (k + 1) fL fdL ["value", "most"] (spLW Cs) := ok_listWithin c D_is_list_within.F m_len m_list m_isinstance
  refine F.ok sc_are_places (fun vs H Q E h => ?_) (fun cdv A outer s H vs Q E hr h => ?_)
  · obtain ⟨v, rfl, _⟩ := h
    rfl
  · obtain ⟨v, rfl, hv, q⟩ := h
    have sl : sizeLine = 16777216 := sizeLine_eq
    refine ⟨_, pss_one (ps_ret (pe_and (pe_call G_is_list_within hr (by rfl) D_is_list_within.g D_is_list_within.F.kp D_is_list_within.b .nil pass0 (pa_cons (pv 0) (pa_cons (pe_glob (v := .int 6) rfl c_PL ⟨_, rfl⟩) pa_nil))) (pe_one (pe_callB (cr_all rfl) (by rfl) m_all (by decide +kernel) (pa_cons (pe_lc (own := [("each", 1)]) (g := gName 1) (tt := tYes) rfl sc_are_places.nd (pi_list (pv 0)) (blkOk_by (N := ["value", "each"]) (sc := defScope st_are_places) (by decide +kernel)) (fun _ _ _ _ _ => (pg_name (i := 1) sc_are_places.nd rfl (Or.inl rfl))) (fun _ _ _ _ _ => pts_nil) (fun _ _ _ _ _ => (pe_callB (r := rIsi K) call_isi (by rfl) m_isinstance (by decide +kernel) (pa_cons (pv 1) (pa_cons (pe_glob (v := .ref C) rfl gP rfl) pa_nil))))) pa_nil))))), ?_⟩
    refine ⟨v, rfl, v, 6, rfl, hv, _, rfl, ?_⟩
    unfold lok at q
    cases b : (isL H v && decide ((its H v).length ≤ 6)) with
    | false =>
      rw [b] at q
      exact q _ (Same.refl _)
    | true =>
      rw [b] at q
      obtain ⟨b1, b2⟩ := Bool.and_eq_true_iff.mp b
      obtain ⟨a, rfl, ea⟩ := hv.list b1
      obtain ⟨le, hw⟩ := hv.items
      revert q
      generalize its H (.ref a) = ys at *
      intro q
      refine ⟨.ref a, rfl, a, rfl, ⟨_, SqL.of ea⟩, fun D nD => ?_⟩
      refine lc_list (K := K) (a := a) (xs := ys) (fun i Hc => Same H Hc ∧ Hc D = some (.lst (((ys.take i).map (isC H C)).map V.bl))) ⟨same_upd nD, upd_same⟩ (fun i Hc _ h => SqL.of (h.1 _ _ ea)) (fun i x Hc hx ⟨sc, eD⟩ => ?_) (fun Hc ⟨sc, eD⟩ => ?_)
      · have wx := hw x (List.mem_of_getElem? hx)
        obtain ⟨t, ht, hk, _⟩ := (wx.same sc).ty c
        refine ⟨rfl, x, rfl, x, _, t, _, _, rfl, ClsV.own C, ht, hk C hC, _, eD, ?_, ?_, ?_⟩
        · rw [List.length_map, List.length_map, List.length_take]
          omega
        · intro b o e
          rw [upd_ne (ne_of_none e nD)]
          exact sc b o e
        · rw [upd_same, (wx.at_ sc).2.2, List.take_add_one, hx, List.map_append, List.map_append]
          rfl
      · refine ⟨D, _, rfl, SqL.of eD, ?_⟩
        rw [List.take_length, List.all_map]
        exact q _ sc
theorem ok_areCommands {C f fL : Addr} {fd fdL : FuncData} {k : Nat} {u1 : Tok} (c : Cl3 K Cs) (hC : C ∈ Cs) (F : Fun K "are_commands" "are_commands" st_are_commands f fd) (D_is_list_within : Df K mg "is_list_within" st_is_list_within ["value", "most"] fL fdL) (gC : mg "Command" = some (.ref C)) (c_CM : mg "MOST_COMMANDS" = some (.int 8 u1))
    (m_len : mg "len" = none) (m_list : mg "list" = none) (m_isinstance : mg "isinstance" = none) (m_all : mg "all" = none) : FnOk P w K mg base CX0 (k + 2) f fd ["value"] (spAre Cs 8 (fun H => isC H C)) := by
  have G_is_list_within : FnOk P w K mg base CX0 (k + 1) fL fdL ["value", "most"] (spLW Cs) := ok_listWithin c D_is_list_within.F m_len m_list m_isinstance
  refine F.ok sc_are_commands (fun vs H Q E h => ?_) (fun cdv A outer s H vs Q E hr h => ?_)
  · obtain ⟨v, rfl, _⟩ := h
    rfl
  · obtain ⟨v, rfl, hv, q⟩ := h
    have sl : sizeLine = 16777216 := sizeLine_eq
    refine ⟨_, pss_one (ps_ret (pe_and (pe_call G_is_list_within hr (by rfl) D_is_list_within.g D_is_list_within.F.kp D_is_list_within.b .nil pass0 (pa_cons (pv 0) (pa_cons (pe_glob (v := .int 8) rfl c_CM ⟨_, rfl⟩) pa_nil))) (pe_one (pe_callB (cr_all rfl) (by rfl) m_all (by decide +kernel) (pa_cons (pe_lc (own := [("each", 1)]) (g := gName 1) (tt := tYes) rfl sc_are_commands.nd (pi_list (pv 0)) (blkOk_by (N := ["value", "each"]) (sc := defScope st_are_commands) (by decide +kernel)) (fun _ _ _ _ _ => (pg_name (i := 1) sc_are_commands.nd rfl (Or.inl rfl))) (fun _ _ _ _ _ => pts_nil) (fun _ _ _ _ _ => (pe_callB (r := rIsi K) call_isi (by rfl) m_isinstance (by decide +kernel) (pa_cons (pv 1) (pa_cons (pe_glob (v := .ref C) rfl gC rfl) pa_nil))))) pa_nil))))), ?_⟩
    refine ⟨v, rfl, v, 8, rfl, hv, _, rfl, ?_⟩
    unfold lok at q
    cases b : (isL H v && decide ((its H v).length ≤ 8)) with
    | false =>
      rw [b] at q
      exact q _ (Same.refl _)
    | true =>
      rw [b] at q
      obtain ⟨b1, b2⟩ := Bool.and_eq_true_iff.mp b
      obtain ⟨a, rfl, ea⟩ := hv.list b1
      obtain ⟨le, hw⟩ := hv.items
      revert q
      generalize its H (.ref a) = ys at *
      intro q
      refine ⟨.ref a, rfl, a, rfl, ⟨_, SqL.of ea⟩, fun D nD => ?_⟩
      refine lc_list (K := K) (a := a) (xs := ys) (fun i Hc => Same H Hc ∧ Hc D = some (.lst (((ys.take i).map (isC H C)).map V.bl))) ⟨same_upd nD, upd_same⟩ (fun i Hc _ h => SqL.of (h.1 _ _ ea)) (fun i x Hc hx ⟨sc, eD⟩ => ?_) (fun Hc ⟨sc, eD⟩ => ?_)
      · have wx := hw x (List.mem_of_getElem? hx)
        obtain ⟨t, ht, hk, _⟩ := (wx.same sc).ty c
        refine ⟨rfl, x, rfl, x, _, t, _, _, rfl, ClsV.own C, ht, hk C hC, _, eD, ?_, ?_, ?_⟩
        · rw [List.length_map, List.length_map, List.length_take]
          omega
        · intro b o e
          rw [upd_ne (ne_of_none e nD)]
          exact sc b o e
        · rw [upd_same, (wx.at_ sc).2.2, List.take_add_one, hx, List.map_append, List.map_append]
          rfl
      · refine ⟨D, _, rfl, SqL.of eD, ?_⟩
        rw [List.take_length, List.all_map]
        exact q _ sc

def spGrp (Cs : List Addr) : Sp := fun xs H Q _ => ∃ v, xs = [v] ∧ Wf Cs H v ∧ ∀ H', Same H H' → Q (.bl (grp H v)) H'
theorem ok_isGroup {f fL : Addr} {fd fdL : FuncData} {k : Nat} {u1 u2 : Tok} (c : Cl3 K Cs) (F : Fun K "is_group" "is_group" st_is_group f fd) (D_is_list_within : Df K mg "is_list_within" st_is_list_within ["value", "most"] fL fdL) (c_IG : mg "MOST_IN_GROUP" = some (.int 6 u1)) (c_FG : mg "FEWEST_IN_GROUP" = some (.int 2 u2))
    (m_len : mg "len" = none) (m_list : mg "list" = none) (m_str : mg "str" = none) (m_isinstance : mg "isinstance" = none) (m_all : mg "all" = none) : FnOk P w K mg base CX0 (k + 2) f fd ["value"] (spGrp Cs) := by
  have G_is_list_within : FnOk P w K mg base CX0 (k + 1) fL fdL ["value", "most"] (spLW Cs) := ok_listWithin c D_is_list_within.F m_len m_list m_isinstance
  refine F.ok sc_is_group (fun vs H Q E h => ?_) (fun cdv A outer s H vs Q E hr h => ?_)
  · obtain ⟨v, rfl, _⟩ := h
    rfl
  · obtain ⟨v, rfl, hv, q⟩ := h
    have sl : sizeLine = 16777216 := sizeLine_eq
    refine ⟨_, pss_cons (ps_if (PW.pt (pw_or (pt_not (pt_val (pe_call G_is_list_within hr (by rfl) D_is_list_within.g D_is_list_within.F.kp D_is_list_within.b .nil pass0 (pa_cons (pv 0) (pa_cons (pe_glob (v := .int 6) rfl c_IG ⟨_, rfl⟩) pa_nil))))) (pw_or1 (pt_cmpR op_lt (pe_callB call_len_seq (by rfl) m_len PySem.boot_len (pa_cons (pv 0) pa_nil)) (pe_glob (v := .int 2) rfl c_FG ⟨_, rfl⟩) (nomark _))))) (pss_one (ps_ret pe_bl)) pss_nil)
      (pss_one (ps_ret (pe_callB (cr_all rfl) (by rfl) m_all (by decide +kernel) (pa_cons (pe_lc (own := [("each", 1)]) (g := gName 1) (tt := tYes) rfl sc_is_group.nd (pi_list (pv 0)) (blkOk_by (N := ["value", "each"]) (sc := defScope st_is_group) (by decide +kernel)) (fun _ _ _ _ _ => (pg_name (i := 1) sc_is_group.nd rfl (Or.inl rfl))) (fun _ _ _ _ _ => pts_nil) (fun _ _ _ _ _ => (pe_callB (r := rIsi K) call_isi (by rfl) m_isinstance (by decide +kernel) (pa_cons (pv 1) (pa_cons (pe_bltn (v := .ty "str") (by rfl) m_str (by decide +kernel) rfl) pa_nil))))) pa_nil)))), ?_⟩
    refine ⟨v, rfl, v, 6, rfl, hv, _, rfl, ?_⟩
    unfold grp at q
    cases b : (isL H v && decide ((its H v).length ≤ 6)) with
    | false =>
      rw [b] at q
      exact q _ (Same.refl _)
    | true =>
      rw [b] at q
      obtain ⟨b1, b2⟩ := Bool.and_eq_true_iff.mp b
      obtain ⟨a, rfl, ea⟩ := hv.list b1
      obtain ⟨le, hw⟩ := hv.items
      revert q
      generalize its H (.ref a) = ys at *
      intro q
      refine ⟨.ref a, rfl, a, _, rfl, .inl (SqL.of ea), _, _, rfl, rfl, _, rfl, ite2 (fun e => ?_) (fun e => ?_)⟩
      · have e' : (ys.length : Int) < 2 := of_decide_eq_true e
        rw [decide_eq_false (p := 2 ≤ ys.length) (by omega)] at q
        exact q _ (Same.refl _)
      · have e' : ¬ (ys.length : Int) < 2 := fun z => e (decide_eq_true z)
        rw [decide_eq_true (p := 2 ≤ ys.length) (by omega)] at q
        refine ⟨.ref a, rfl, a, rfl, ⟨_, SqL.of ea⟩, fun D nD => ?_⟩
        refine lc_list (K := K) (a := a) (xs := ys) (fun i Hc => Same H Hc ∧ Hc D = some (.lst (((ys.take i).map isS).map V.bl))) ⟨same_upd nD, upd_same⟩ (fun i Hc _ h => SqL.of (h.1 _ _ ea)) (fun i x Hc hx ⟨sc, eD⟩ => ?_) (fun Hc ⟨sc, eD⟩ => ?_)
        · have wx := hw x (List.mem_of_getElem? hx)
          obtain ⟨t, ht, _, _, hk⟩ := (wx.same sc).ty c
          refine ⟨rfl, x, rfl, x, _, t, _, _, rfl, ClsV.ty "str", ht, hk, _, eD, ?_, ?_, ?_⟩
          · rw [List.length_map, List.length_map, List.length_take]
            omega
          · intro b o e
            rw [upd_ne (ne_of_none e nD)]
            exact sc b o e
          · rw [upd_same, List.take_add_one, hx, List.map_append, List.map_append]
            rfl
        · refine ⟨D, _, rfl, SqL.of eD, ?_⟩
          rw [List.take_length, List.all_map]
          exact q _ sc
theorem ok_areGroups {f fL fG : Addr} {fd fdL fdG : FuncData} {k : Nat} {u1 u2 u3 : Tok} (c : Cl3 K Cs) (F : Fun K "are_groups" "are_groups" st_are_groups f fd) (D_is_list_within : Df K mg "is_list_within" st_is_list_within ["value", "most"] fL fdL) (D_is_group : Df K mg "is_group" st_is_group ["value"] fG fdG) (c_IG : mg "MOST_IN_GROUP" = some (.int 6 u1)) (c_FG : mg "FEWEST_IN_GROUP" = some (.int 2 u2)) (c_GR : mg "MOST_GROUPS" = some (.int 4 u3))
    (m_len : mg "len" = none) (m_list : mg "list" = none) (m_str : mg "str" = none) (m_isinstance : mg "isinstance" = none) (m_all : mg "all" = none) : FnOk P w K mg base CX0 (k + 3) f fd ["value"] (spAre Cs 4 grp) := by
  have G_is_list_within : FnOk P w K mg base CX0 (k + 2) fL fdL ["value", "most"] (spLW Cs) := ok_listWithin c D_is_list_within.F m_len m_list m_isinstance
  have G_is_group : FnOk P w K mg base CX0 (k + 2) fG fdG ["value"] (spGrp Cs) := ok_isGroup c D_is_group.F D_is_list_within c_IG c_FG m_len m_list m_str m_isinstance m_all
  refine F.ok sc_are_groups (fun vs H Q E h => ?_) (fun cdv A outer s H vs Q E hr h => ?_)
  · obtain ⟨v, rfl, _⟩ := h
    rfl
  · obtain ⟨v, rfl, hv, q⟩ := h
    have sl : sizeLine = 16777216 := sizeLine_eq
    refine ⟨_, pss_one (ps_ret (pe_and (pe_call G_is_list_within hr (by rfl) D_is_list_within.g D_is_list_within.F.kp D_is_list_within.b .nil pass0 (pa_cons (pv 0) (pa_cons (pe_glob (v := .int 4) rfl c_GR ⟨_, rfl⟩) pa_nil))) (pe_one (pe_callB (cr_all rfl) (by rfl) m_all (by decide +kernel) (pa_cons (pe_lc (own := [("each", 1)]) (g := gName 1) (tt := tYes) rfl sc_are_groups.nd (pi_list (pv 0)) (blkOk_by (N := ["value", "each"]) (sc := defScope st_are_groups) (by decide +kernel)) (fun _ _ _ _ _ => (pg_name (i := 1) sc_are_groups.nd rfl (Or.inl rfl))) (fun _ _ _ _ _ => pts_nil) (fun _ _ _ _ _ => (pe_call G_is_group hr (by rfl) D_is_group.g D_is_group.F.kp D_is_group.b .nil pass0 (pa_cons (pv 1) pa_nil)))) pa_nil))))), ?_⟩
    refine ⟨v, rfl, v, 4, rfl, hv, _, rfl, ?_⟩
    unfold lok at q
    cases b : (isL H v && decide ((its H v).length ≤ 4)) with
    | false =>
      rw [b] at q
      exact q _ (Same.refl _)
    | true =>
      rw [b] at q
      obtain ⟨b1, b2⟩ := Bool.and_eq_true_iff.mp b
      obtain ⟨a, rfl, ea⟩ := hv.list b1
      obtain ⟨le, hw⟩ := hv.items
      revert q
      generalize its H (.ref a) = ys at *
      intro q
      refine ⟨.ref a, rfl, a, rfl, ⟨_, SqL.of ea⟩, fun D nD => ?_⟩
      refine lc_list (K := K) (a := a) (xs := ys) (fun i Hc => Same H Hc ∧ Hc D = some (.lst (((ys.take i).map (grp H)).map V.bl))) ⟨same_upd nD, upd_same⟩ (fun i Hc _ h => SqL.of (h.1 _ _ ea)) (fun i x Hc hx ⟨sc, eD⟩ => ?_) (fun Hc ⟨sc, eD⟩ => ?_)
      · have wx := hw x (List.mem_of_getElem? hx)
        refine ⟨rfl, x, rfl, x, rfl, wx.same sc, fun Hd sd => ⟨_, sd _ _ eD, ?_, ?_, ?_⟩⟩
        · rw [List.length_map, List.length_map, List.length_take]
          omega
        · intro b o e
          rw [upd_ne (ne_of_none e nD)]
          exact sd _ _ (sc b o e)
        · rw [upd_same, wx.grp sc, List.take_add_one, hx, List.map_append, List.map_append]
          rfl
      · refine ⟨D, _, rfl, SqL.of eD, ?_⟩
        rw [List.take_length, List.all_map]
        exact q _ sc
/-! ### None for no list, and copies -/
def rListOf (K : PySem.W.Frag) : List V → Hp → VK → Prop := fun xs H Q => ∃ p ys, xs = [.ref p] ∧ (SqL K H p ys ∨ SqT K H p ys) ∧ ∀ l, H l = none → Q (.ref l) (upd H l (.lst ys))
theorem call_listOf {X : Cx} : CallR X (.type "list") (rListOf X.K) := call_list_of
def spEmpty : Sp := fun xs H Q _ => ∃ v, xs = [v] ∧ (v = .non → ∀ l, H l = none → Q (.ref l) (upd H l (.lst []))) ∧ (v ≠ .non → Q v H)
theorem ok_empty {f : Addr} {fd : FuncData} {k : Nat} (F : Fun K "empty_for_none" "empty_for_none" st_empty_for_none f fd) : FnOk P w K mg base CX0 (k + 1) f fd ["value"] spEmpty := by
  refine F.ok sc_empty_for_none (fun vs H Q E h => ?_) (fun cdv A outer s H vs Q E hr h => ?_)
  · obtain ⟨v, rfl, _⟩ := h
    rfl
  · obtain ⟨v, rfl, q1, q2⟩ := h
    refine ⟨_, pss_one (ps_ret (pe_ifExp (pt_cmpR op_isN (pv 0) pe_non (nomark _)) (pe_lst pa_nil) (pv 0))), ?_⟩
    refine ⟨v, rfl, rfl, _, rfl, ite2 (fun e => ?_) (fun e => ?_)⟩
    · exact ⟨by show 0 ≤ sizeLine; decide, fun l nl => q1 (of_decide_eq_true e) l nl⟩
    · exact ⟨v, rfl, q2 (fun z => e (decide_eq_true z))⟩
/-- at l there is a list of new lists, that hold what gss tells -/
def GL (H0 H : Hp) (l : Addr) (gss : List (List V)) : Prop := H0 l = none ∧ ∃ as : List Addr, H l = some (.lst (as.map V.ref)) ∧ as.length = gss.length ∧ (∀ (i : Nat) (a : Addr), as[i]? = some a → H0 a = none ∧ a ≠ l ∧ ∃ g, gss[i]? = some g ∧ H a = some (.lst g)) ∧ as.Nodup
def spCopied : Sp := fun xs H Q _ => ∃ (a : Addr) (ys : List V) (gss : List (List V)), xs = [.ref a] ∧ H a = some (.lst ys) ∧ ys.length = gss.length ∧ ys.length ≤ 1000 ∧ (∀ (i : Nat) (y : V), ys[i]? = some y → ∃ b g, y = .ref b ∧ H b = some (.lst g) ∧ gss[i]? = some g) ∧ ∀ H' l, Same H H' → GL H H' l gss → Q (.ref l) H'
theorem ok_copied {f : Addr} {fd : FuncData} {k : Nat} (F : Fun K "copied_groups" "copied_groups" st_copied_groups f fd) (m_list : mg "list" = none) : FnOk P w K mg base CX0 (k + 1) f fd ["groups"] spCopied := by
  refine F.ok sc_copied_groups (fun vs H Q E h => ?_) (fun cdv A outer s H vs Q E hr h => ?_)
  · obtain ⟨a, ys, gss, rfl, _⟩ := h
    rfl
  · obtain ⟨a, ys, gss, rfl, ea, hlen, le, hy, q⟩ := h
    have sl : sizeLine = 16777216 := sizeLine_eq
    refine ⟨_, pss_one (ps_ret (pe_lc (own := [("group", 1)]) (g := gName 1) (tt := tYes) rfl sc_copied_groups.nd (pi_list (pv 0)) (blkOk_by (N := ["groups", "group"]) (sc := defScope st_copied_groups) (by decide +kernel)) (fun _ _ _ _ _ => (pg_name (i := 1) sc_copied_groups.nd rfl (Or.inl rfl))) (fun _ _ _ _ _ => pts_nil) (fun _ _ _ _ _ => (pe_callTy (r := rListOf K) call_listOf (by rfl) m_list (by decide +kernel) (pa_cons (pv 1) pa_nil))))), ?_⟩
    refine ⟨.ref a, rfl, a, rfl, ⟨_, SqL.of ea⟩, fun D nD => ?_⟩
    refine lc_list (K := K) (a := a) (xs := ys) (fun i Hc => Same H Hc ∧ ∃ as : List Addr, Hc D = some (.lst (as.map V.ref)) ∧ as.length = min i ys.length ∧ (∀ (j : Nat) (b : Addr), as[j]? = some b → H b = none ∧ b ≠ D ∧ ∃ g, gss[j]? = some g ∧ Hc b = some (.lst g)) ∧ as.Nodup)
      ⟨same_upd nD, [], upd_same, by simp, (fun j b e => by cases e), List.nodup_nil⟩ (fun i Hc _ h => SqL.of (h.1 _ _ ea)) (fun i x Hc hx ⟨sc, as, eD, la, ha, nd⟩ => ?_) (fun Hc ⟨sc, as, eD, la, ha, nd⟩ => ?_)
    · obtain ⟨b, g, rfl, eb, eg⟩ := hy i x hx
      have hi : i < ys.length := (List.getElem?_eq_some_iff.mp hx).1
      refine ⟨rfl, .ref b, rfl, b, g, rfl, .inl (SqL.of (sc _ _ eb)), fun l nl => ?_⟩
      have nlD : l ≠ D := (ne_of_none eD nl).symm
      have nlH : H l = none := by
        cases e : H l with
        | none => rfl
        | some o => rw [sc _ _ e] at nl; cases nl
      have fresh : ∀ c ∈ as, c ≠ l := fun c hc => by
        obtain ⟨j, hj, e⟩ := List.mem_iff_getElem.mp hc
        obtain ⟨_, _, g', _, e'⟩ := ha j c (by rw [List.getElem?_eq_getElem hj, e])
        exact ne_of_none e' nl
      refine ⟨_, by rw [upd_ne nlD.symm]; exact eD, by rw [List.length_map]; omega, fun c o e => ?_, as ++ [l], ?_, by rw [List.length_append, la]; show _ + 1 = _; omega, fun j c e => ?_, ?_⟩
      · rw [upd_ne (ne_of_none e nD), upd_ne (ne_of_none e nlH)]
        exact sc c o e
      · rw [upd_same, List.map_append]
        rfl
      · by_cases q : j < as.length
        · rw [List.getElem?_append_left q] at e
          obtain ⟨h1, h2, g', h3, h4⟩ := ha j c e
          refine ⟨h1, h2, g', h3, ?_⟩
          rw [upd_ne h2, upd_ne (fresh c (List.mem_of_getElem? e))]
          exact h4
        · rw [List.getElem?_append_right (by omega)] at e
          have j0 : j - as.length = 0 := by
            cases h : j - as.length with
            | zero => rfl
            | succ n => rw [h] at e; cases e
          rw [j0] at e
          cases e
          have ji : j = i := by omega
          subst ji
          refine ⟨nlH, nlD, g, eg, ?_⟩
          rw [upd_ne nlD, upd_same]
      · refine List.nodup_append.mpr ⟨nd, List.nodup_cons.mpr ⟨List.not_mem_nil, List.nodup_nil⟩, fun y hy' c hc e => ?_⟩
        rw [List.mem_singleton.mp hc] at e
        exact fresh y hy' e
    · exact q _ D sc ⟨nD, as, eD, by rw [la, ← hlen]; omega, ha, nd⟩
end
end WB

set_option Elab.async false
set_option linter.all false
set_option maxRecDepth 100000
set_option maxHeartbeats 4000000
namespace WB
open PySem PySem.Spec PyProof.Rows L2 WG
open TL (tl)
abbrev st_Command_init : Stmt := inClass (topS 42) 0
theorem sc_Command_init : FnScope ["self", "name", "options", "places", "groups", "commands", "about"] ["self", "name", "options", "places", "groups", "commands", "about"] (defScope st_Command_init) := ⟨rfl, rfl, rfl, by decide +kernel, rfl, by decide +kernel, by decide +kernel⟩
abbrev st_errC : Stmt := inClass (topS 20) 0
theorem sc_errC : FnScope ["self", "field"] ["self", "field"] (defScope st_errC) := ⟨rfl, rfl, rfl, by decide +kernel, rfl, by decide +kernel, by decide +kernel⟩
def ol (H : Hp) (m : Nat) (g : V → Bool) (v : V) : Bool := decide (v = .non) || lok H m g v
/-- None, or a list that holds xs -/
def LV (H : Hp) (v : V) (xs : List V) : Prop := (v = .non ∧ xs = []) ∨ ∃ a, v = .ref a ∧ H a = some (.lst xs)
theorem lv_of {Cs : List Addr} {H : Hp} {m : Nat} {g : V → Bool} {v : V} (w : Wf Cs H v) (h : ol H m g v = true) : LV H v (its H v) := by
  unfold ol lok at h
  by_cases e : v = .non
  · subst e
    exact .inl ⟨rfl, rfl⟩
  · rw [decide_eq_false e, Bool.false_or] at h
    simp only [Bool.and_eq_true] at h
    obtain ⟨a, e1, e2⟩ := w.list h.1.1
    exact .inr ⟨a, e1, e2⟩
theorem LV.but {H H' : Hp} {v : V} {xs : List V} {x C dx : Addr} {fs : List (Str × V)} (h : LV H v xs) (b : But x H H') (hx : H x = some (.ins C dx fs)) : LV H' v xs := by
  rcases h with h | ⟨a, rfl, e⟩
  · exact .inl h
  · refine .inr ⟨a, rfl, b a _ (fun z => ?_) e⟩
    rw [z, hx] at e
    cases e
theorem but_none {x l : Addr} {H G : Hp} {o : HO} (b : But x H G) (hx : G x = some o) (n : G l = none) : H l = none := by
  cases e : H l with
  | none => rfl
  | some u =>
    have nx : l ≠ x := fun z => by rw [z, hx] at n; cases n
    rw [b l u nx e] at n
    cases n
theorem GL.base {H H1 H' : Hp} {l : Addr} {gss : List (List V)} (h : GL H1 H' l gss) (n : ∀ b, H1 b = none → H b = none) : GL H H' l gss := by
  obtain ⟨n1, as, e, le, ha, nd⟩ := h
  exact ⟨n l n1, as, e, le, fun i a e => by obtain ⟨h1, h2⟩ := ha i a e; exact ⟨n a h1, h2⟩, nd⟩
theorem GL.but {H0 H H' : Hp} {l x : Addr} {gss : List (List V)} (h : GL H0 H l gss) (b : But x H H') (hx : H0 x ≠ none) : GL H0 H' l gss := by
  obtain ⟨n1, as, e, le, ha, nd⟩ := h
  refine ⟨n1, as, b _ _ (fun z => hx (by rw [← z]; exact n1)) e, le, fun i a e => ?_, nd⟩
  obtain ⟨h1, h2, g, h3, h4⟩ := ha i a e
  exact ⟨h1, h2, g, h3, b _ _ (fun z => hx (by rw [← z]; exact h1)) h4⟩
section
variable {K : PySem.W.Frag} {Cs : List Addr} {σ : L2.St} {H : Hp} {Q : VK} {i : Nat} {v : V} {E E' : XK}
theorem are_in {m : Nat} {g : Hp → V → Bool} (hv : σ[i]? = some (some v)) (hw : Wf Cs H v) (q : ∀ H', Same H H' → Q (.bl (ol H m (g H) v)) H') : tCall (spAre Cs m g) [] E (tCons (tCall spEmpty [] E' (tCons (tVar i) tNil)) tNil) σ H Q := by
  refine ⟨v, hv, v, rfl, fun e l nl => ?_, fun e => ?_⟩
  · subst e
    refine ⟨.ref l, rfl, .lst upd_same (by decide) (fun x hx => by cases hx), fun H' s' => ?_⟩
    have eq : lok (upd H l (.lst [])) m (g (upd H l (.lst []))) (.ref l) = true := by
      obtain ⟨e1, e2⟩ := isL_lst (H := upd H l (.lst [])) (a := l) upd_same
      unfold lok
      rw [e1, e2]
      simp
    rw [eq]
    exact q _ ((same_upd nl).trans s')
  · refine ⟨v, rfl, hw, fun H' s' => ?_⟩
    have eq : lok H m (g H) v = ol H m (g H) v := by
      unfold ol
      rw [decide_eq_false e, Bool.false_or]
    rw [eq]
    exact q _ s'
theorem list_in {xs : List V} (hv : σ[i]? = some (some v)) (h : LV H v xs) (q : ∀ H' l, Same H H' → H l = none → H' l = some (.lst xs) → Q (.ref l) H') : tCB (rListOf K) (tCons (tCall spEmpty [] E (tCons (tVar i) tNil)) tNil) σ H Q := by
  refine ⟨v, hv, v, rfl, fun e l nl => ?_, fun e => ?_⟩
  · rcases h with ⟨_, rfl⟩ | ⟨a, e', _⟩
    · refine ⟨l, [], rfl, .inl (SqL.of upd_same), fun l2 n2 => q _ l2 ((same_upd nl).trans (same_upd n2)) ?_ upd_same⟩
      cases e3 : H l2 with
      | none => rfl
      | some o => rw [same_upd nl _ _ e3] at n2; cases n2
    · rw [e] at e'
      cases e'
  · rcases h with ⟨e', _⟩ | ⟨a, rfl, ea⟩
    · exact absurd e' e
    · exact ⟨a, xs, rfl, .inl (SqL.of ea), fun l nl => q _ l (same_upd nl) nl upd_same⟩
theorem cop_in {ys : List V} {gss : List (List V)} (hv : σ[i]? = some (some v)) (h : LV H v ys) (hlen : ys.length = gss.length) (le : ys.length ≤ 1000) (hy : ∀ (i : Nat) (y : V), ys[i]? = some y → ∃ b g, y = .ref b ∧ H b = some (.lst g) ∧ gss[i]? = some g)
    (q : ∀ H' l, Same H H' → GL H H' l gss → Q (.ref l) H') : tCall spCopied [] E (tCons (tCall spEmpty [] E' (tCons (tVar i) tNil)) tNil) σ H Q := by
  refine ⟨v, hv, v, rfl, fun e l nl => ?_, fun e => ?_⟩
  · rcases h with ⟨_, rfl⟩ | ⟨a, e', _⟩
    · refine ⟨l, [], gss, rfl, upd_same, hlen, by decide, (fun i y e => by cases e), fun H' l2 s' g => q _ l2 ((same_upd nl).trans s') (g.base fun b n => ?_)⟩
      cases e3 : H b with
      | none => rfl
      | some o => rw [same_upd nl _ _ e3] at n; cases n
    · rw [e] at e'
      cases e'
  · rcases h with ⟨e', _⟩ | ⟨a, rfl, ea⟩
    · exact absurd e' e
    · exact ⟨a, ys, gss, rfl, ea, hlen, le, hy, fun H' l s' g => q _ l s' g⟩
end
section
variable {P : Program} {w : World} {K : PySem.W.Frag} {mg : Str → Option Value} {base : Heap}
theorem ok_errC {C f : Addr} {fd : FuncData} {x q : Str} {k : Nat} (F : Fun K "__init__" q st_errC f fd) (T : ErrT K mg x C f fd) : FnOk P w K mg base CX0 (k + 1) f fd ["self", "field"] (spErr C) := by
  refine F.ok sc_errC (fun vs H Q E h => ?_) (fun cdv A outer s H vs Q E hr h => ?_)
  · obtain ⟨a, y, rfl, _⟩ := h
    rfl
  · obtain ⟨a, y, rfl, ea, q⟩ := h
    refine ⟨_, pss_one (ps_ost (pv 0) (pv 1)), ?_⟩
    exact ⟨y, rfl, .ref a, rfl, a, C, rfl, T.o, T.nf, .inl ⟨ea, fun dx n ne => q dx n ne⟩⟩
def wrongC (CO CP CC : Addr) (H : Hp) (v0 v1 v2 v3 v4 v5 : V) : Str :=
  if isNm v0 = false then Str.ofString "name" else if ol H 12 (isC H CO) v1 = false then Str.ofString "options" else if ol H 6 (isC H CP) v2 = false then Str.ofString "places" else if ol H 4 (grp H) v3 = false then Str.ofString "groups" else
  if ol H 8 (isC H CC) v4 = false then Str.ofString "commands" else if isAb v5 = false then Str.ofString "about" else Str.ofString ""
structure ClsC (K : PySem.W.Frag) (C : Addr) : Prop where
  cl : Cls K C
  n0 : NoAttr K C "own_name"
  n1 : NoAttr K C "own_options"
  n2 : NoAttr K C "own_places"
  n3 : NoAttr K C "own_groups"
  n4 : NoAttr K C "own_commands"
  n5 : NoAttr K C "own_about"
def cmdF (v0 : V) (lo lp lg lc : Addr) (v5 : V) : List (Str × V) := [(("own_name" : Str), v0), (("own_options" : Str), .ref lo), (("own_places" : Str), .ref lp), (("own_groups" : Str), .ref lg), (("own_commands" : Str), .ref lc), (("own_about" : Str), v5)]
/-- a command, its lists made behind H0 -/
structure CmdAt (CC : Addr) (H0 H : Hp) (x : Addr) (v0 : V) (os ps : List V) (gss : List (List V)) (cs : List V) (v5 : V) : Prop where
  ex : ∃ dx lo lp lg lc, H x = some (.ins CC dx (cmdF v0 lo lp lg lc v5)) ∧ (H0 lo = none ∧ H lo = some (.lst os)) ∧ (H0 lp = none ∧ H lp = some (.lst ps)) ∧ GL H0 H lg gss ∧ (H0 lc = none ∧ H lc = some (.lst cs))
def spCInit (CO CP CC CN : Addr) : Sp := fun vs H Q E => ∃ (x dx : Addr) (v0 v1 v2 v3 v4 v5 : V), vs = [.ref x, v0, v1, v2, v3, v4, v5] ∧ H x = some (.ins CC dx []) ∧ (Thg H v0 ∧ Wf [CO, CP, CC] H v1 ∧ Wf [CO, CP, CC] H v2 ∧ Wf [CO, CP, CC] H v3 ∧ Wf [CO, CP, CC] H v4 ∧ Thg H v5) ∧
  (wrongC CO CP CC H v0 v1 v2 v3 v4 v5 = Str.ofString "" → ∀ H', But x H H' → CmdAt CC H H' x v0 (its H v1) (its H v2) ((its H v3).map (its H)) (its H v4) v5 → Q .non H') ∧
  (wrongC CO CP CC H v0 v1 v2 v3 v4 v5 ≠ Str.ofString "" → ∀ H' d, Same H H' → H d = none → H' d = some (.xd [(("field" : Str), .str (wrongC CO CP CC H v0 v1 v2 v3 v4 v5))]) → E (.ref CN) (some d) H')
theorem Wf.ol {Cs : List Addr} {H H' : Hp} {v : V} {m : Nat} {g : Hp → V → Bool} (h : Wf Cs H v) (s : Same H H') (hg : ∀ x, Wf Cs H x → g H' x = g H x) : WB.ol H' m (g H') v = WB.ol H m (g H) v := by
  obtain ⟨e1, e2, _⟩ := h.at_ s
  have hi := h.items.2
  unfold WB.ol lok
  rw [e1, e2]
  congr 1
  congr 1
  rw [Bool.eq_iff_iff, List.all_eq_true, List.all_eq_true]
  constructor
  · intro z x hx
    rw [← hg x (hi x hx)]
    exact z x hx
  · intro z x hx
    rw [hg x (hi x hx)]
    exact z x hx
end
end WB

set_option Elab.async false
set_option linter.all false
set_option maxRecDepth 100000
set_option maxHeartbeats 4000000
namespace WB
open PySem PySem.Spec PyProof.Rows L2 WG
open TL (tl)
section
variable {K K' : PySem.W.Frag} {Cs : List Addr} {σ : L2.St} {H : Hp} {κ : L2.Ends} {t rest : TS} {i : Nat} {v : V} {E E' : XK}
theorem chk_in {m : Nat} {g : Hp → V → Bool} (hv : σ[i]? = some (some v)) (hw : Wf Cs H v) (qf : ol H m (g H) v = false → ∀ H', Same H H' → t { κ with nx := rest κ } σ H') (qt : ol H m (g H) v = true → ∀ H', Same H H' → rest κ σ H') :
    tSeq (tIfS (tNot (tB (tCall (spAre Cs m g) [] E (tCons (tCall spEmpty [] E' (tCons (tVar i) tNil)) tNil)))) t tNext) rest κ σ H := by
  refine are_in (Q := fun x H1 => ∃ c, x = .bl c ∧ if (!c) = true then t { κ with nx := rest κ } σ H1 else tNext { κ with nx := rest κ } σ H1) hv hw (fun H' s' => ⟨_, rfl, ?_⟩)
  cases b : ol H m (g H) v with
  | false => exact qf b H' s'
  | true => exact qt b H' s'
theorem chk_of {g : V → Bool} (hv : σ[i]? = some (some v)) (hw : Thg H v) (qf : g v = false → ∀ H', Same H H' → t { κ with nx := rest κ } σ H') (qt : g v = true → ∀ H', Same H H' → rest κ σ H') :
    tSeq (tIfS (tNot (tB (tCall (spOf g) [] E (tCons (tVar i) tNil)))) t tNext) rest κ σ H := by
  refine (⟨v, hv, v, rfl, hw, fun H' s' => ⟨_, rfl, ?_⟩⟩ : (tCall (spOf g) [] E (tCons (tVar i) tNil)) σ H (fun x H1 => ∃ c, x = .bl c ∧ if (!c) = true then t { κ with nx := rest κ } σ H1 else tNext { κ with nx := rest κ } σ H1))
  cases b : g v with
  | false => exact qf b H' s'
  | true => exact qt b H' s'
theorem fld_list {f : Str} {x C dx : Addr} {fs : List (Str × V)} {xs : List V} (h0 : σ[0]? = some (some (.ref x))) (hv : σ[i]? = some (some v)) (hl : LV H v xs) (ex : H x = some (.ins C dx fs)) (cl : Cls K C) (na : NoAttr K C f) (lf : fs.length < 1000)
    (q : ∀ H' l, Same H H' → H l = none → H' l = some (.lst xs) → rest κ σ (upd H' x (.ins C dx (putF f (.ref l) fs)))) : tSeq (sFld K (tVar 0) (tCB (rListOf K') (tCons (tCall spEmpty [] E (tCons (tVar i) tNil)) tNil)) f) rest κ σ H :=
  list_in (Q := fun y H1 => (tVar 0) σ H1 fun z H2 => ∃ a C dx fs, z = .ref a ∧ H2 a = some (.ins C dx fs) ∧ Cls K C ∧ NoAttr K C f ∧ fs.length < 1000 ∧ rest κ σ (upd H2 a (.ins C dx (putF f y fs)))) hv hl (fun H' l s n e => ⟨.ref x, h0, x, C, dx, fs, rfl, s _ _ ex, cl, na, lf, q H' l s n e⟩)
theorem fld_cop {f : Str} {x C dx : Addr} {fs : List (Str × V)} {ys : List V} {gss : List (List V)} (h0 : σ[0]? = some (some (.ref x))) (hv : σ[i]? = some (some v)) (hl : LV H v ys) (hlen : ys.length = gss.length) (le : ys.length ≤ 1000) (hy : ∀ (i : Nat) (y : V), ys[i]? = some y → ∃ b g, y = .ref b ∧ H b = some (.lst g) ∧ gss[i]? = some g)
    (ex : H x = some (.ins C dx fs)) (cl : Cls K C) (na : NoAttr K C f) (lf : fs.length < 1000) (q : ∀ H' l, Same H H' → GL H H' l gss → rest κ σ (upd H' x (.ins C dx (putF f (.ref l) fs)))) : tSeq (sFld K (tVar 0) (tCall spCopied [] E (tCons (tCall spEmpty [] E' (tCons (tVar i) tNil)) tNil)) f) rest κ σ H :=
  cop_in (Q := fun y H1 => (tVar 0) σ H1 fun z H2 => ∃ a C dx fs, z = .ref a ∧ H2 a = some (.ins C dx fs) ∧ Cls K C ∧ NoAttr K C f ∧ fs.length < 1000 ∧ rest κ σ (upd H2 a (.ins C dx (putF f y fs)))) hv hl hlen le hy (fun H' l s g => ⟨.ref x, h0, x, C, dx, fs, rfl, s _ _ ex, cl, na, lf, q H' l s g⟩)
theorem fld_var {f : Str} {x C dx : Addr} {fs : List (Str × V)} (h0 : σ[0]? = some (some (.ref x))) (hv : σ[i]? = some (some v)) (ex : H x = some (.ins C dx fs)) (cl : Cls K C) (na : NoAttr K C f) (lf : fs.length < 1000) (q : rest κ σ (upd H x (.ins C dx (putF f v fs)))) : tSeq (sFld K (tVar 0) (tVar i) f) rest κ σ H :=
  ⟨v, hv, .ref x, h0, x, C, dx, fs, rfl, ex, cl, na, lf, q⟩
end
theorem putF_new {f : Str} {v : V} : ∀ {fs : List (Str × V)}, f ∉ fs.map (·.1) → putF f v fs = fs ++ [(f, v)]
  | [], _ => rfl
  | (g, x) :: r, h => by
    have h1 : ¬ g = f := fun e => h (by rw [e]; exact List.mem_cons_self)
    have h2 : f ∉ r.map (·.1) := fun e => h (List.mem_cons_of_mem _ e)
    unfold putF
    rw [if_neg h1, putF_new h2]
    rfl
theorem LV.same {H H' : Hp} {v : V} {xs : List V} (h : LV H v xs) (s : Same H H') : LV H' v xs := by
  rcases h with h | ⟨a, rfl, e⟩
  · exact .inl h
  · exact .inr ⟨a, rfl, s _ _ e⟩
/-- what the right groups hold -/
theorem grp_items {Cs : List Addr} {H : Hp} {m : Nat} {v : V} (w : Wf Cs H v) (h : ol H m (grp H) v = true) : ∀ (i : Nat) (y : V), (its H v)[i]? = some y → ∃ b g, y = .ref b ∧ H b = some (.lst g) ∧ ((its H v).map (its H))[i]? = some g := by
  intro i y e
  have hm := List.mem_of_getElem? e
  have hg : grp H y = true := by
    unfold ol lok at h
    by_cases z : v = .non
    · subst z
      cases hm
    · rw [decide_eq_false z, Bool.false_or] at h
      exact List.all_eq_true.mp (Bool.and_eq_true_iff.mp h).2 y hm
  have hl : isL H y = true := by
    unfold grp at hg
    simp only [Bool.and_eq_true] at hg
    exact hg.1.1.1
  obtain ⟨b, e1, e2⟩ := (w.items.2 y hm).list hl
  exact ⟨b, its H y, e1, e2, by rw [List.getElem?_map, e]; rfl⟩
section
variable {P : Program} {w : World} {K : PySem.W.Frag} {mg : Str → Option Value} {base : Heap}
theorem ok_cinit {CO CP CC CN f fE fW fA fB fL f1 f2 fG f3 f4 fEm fCp : Addr} {fd fdE fdW fdA fdB fdL fd1 fd2 fdG fd3 fd4 fdEm fdCp : FuncData} {u1 u2 u3 w1 w2 w3 w4 w5 w6 : Tok} {k : Nat} (F : FunD K "__init__" "Command.__init__" (defArgs st_Command_init) (defBody st_Command_init) (defScope st_Command_init) [.non, .non, .non, .non, .str (Str.ofString "")] [] f fd)
    (c3 : Cl3 K [CO, CP, CC]) (FE : Fun K "__init__" "NoCommand.__init__" st_errC fE fdE) (TE : ErrT K mg "NoCommand" CN fE fdE) (T : ClsC K CC)
    (D_is_text_within : Df K mg "is_text_within" st_is_text_within ["value", "most"] fW fdW) (D_is_name : Df K mg "is_name" st_is_name ["value"] fA fdA) (D_is_about : Df K mg "is_about" st_is_about ["value"] fB fdB) (D_is_list_within : Df K mg "is_list_within" st_is_list_within ["value", "most"] fL fdL)
    (D_are_options : Df K mg "are_options" st_are_options ["value"] f1 fd1) (D_are_places : Df K mg "are_places" st_are_places ["value"] f2 fd2) (D_is_group : Df K mg "is_group" st_is_group ["value"] fG fdG) (D_are_groups : Df K mg "are_groups" st_are_groups ["value"] f3 fd3) (D_are_commands : Df K mg "are_commands" st_are_commands ["value"] f4 fd4)
    (D_empty_for_none : Df K mg "empty_for_none" st_empty_for_none ["value"] fEm fdEm) (D_copied_groups : Df K mg "copied_groups" st_copied_groups ["groups"] fCp fdCp) (gO : mg "Option" = some (.ref CO)) (gP : mg "Place" = some (.ref CP)) (gC : mg "Command" = some (.ref CC))
    (m_len : mg "len" = none) (m_list : mg "list" = none) (m_str : mg "str" = none) (m_isinstance : mg "isinstance" = none) (m_all : mg "all" = none) (c_MOST_NAME_SIGNS : mg "MOST_NAME_SIGNS" = some (.int 10 u1)) (c_NAME_SIGNS : mg "NAME_SIGNS" = some (.str nameSet u2)) (c_MOST_ABOUT_SIGNS : mg "MOST_ABOUT_SIGNS" = some (.int 200 u3))
    (c_OP : mg "MOST_OPTIONS" = some (.int 12 w1)) (c_PL : mg "MOST_PLACES" = some (.int 6 w2)) (c_GR : mg "MOST_GROUPS" = some (.int 4 w3)) (c_FG : mg "FEWEST_IN_GROUP" = some (.int 2 w4)) (c_IG : mg "MOST_IN_GROUP" = some (.int 6 w5)) (c_CM : mg "MOST_COMMANDS" = some (.int 8 w6)) :
    FnOk P w K mg base (L2.CX P w) (k + 4) f fd ["self", "name", "options", "places", "groups", "commands", "about"] (spCInit CO CP CC CN) := by
  have GE : FnOk P w K mg base CX0 (k + 2) fE fdE ["self", "field"] (spErr CN) := ok_errC FE TE
  have G_is_name : FnOk P w K mg base CX0 (k + 3) fA fdA ["value"] (spOf isNm) := ok_isName D_is_name.F D_is_text_within m_len m_str m_isinstance m_all c_MOST_NAME_SIGNS c_NAME_SIGNS
  have G_is_about : FnOk P w K mg base CX0 (k + 3) fB fdB ["value"] (spOf isAb) := ok_isAbout D_is_about.F D_is_text_within m_len m_str m_isinstance c_MOST_ABOUT_SIGNS
  have G_are_options : FnOk P w K mg base CX0 (k + 3) f1 fd1 ["value"] (spAre [CO, CP, CC] 12 (fun H => isC H CO)) := ok_areOptions c3 (by simp) D_are_options.F D_is_list_within gO c_OP m_len m_list m_isinstance m_all
  have G_are_places : FnOk P w K mg base CX0 (k + 3) f2 fd2 ["value"] (spAre [CO, CP, CC] 6 (fun H => isC H CP)) := ok_arePlaces c3 (by simp) D_are_places.F D_is_list_within gP c_PL m_len m_list m_isinstance m_all
  have G_are_groups : FnOk P w K mg base CX0 (k + 3) f3 fd3 ["value"] (spAre [CO, CP, CC] 4 grp) := ok_areGroups c3 D_are_groups.F D_is_list_within D_is_group c_IG c_FG c_GR m_len m_list m_str m_isinstance m_all
  have G_are_commands : FnOk P w K mg base CX0 (k + 3) f4 fd4 ["value"] (spAre [CO, CP, CC] 8 (fun H => isC H CC)) := ok_areCommands c3 (by simp) D_are_commands.F D_is_list_within gC c_CM m_len m_list m_isinstance m_all
  have G_empty_for_none : FnOk P w K mg base CX0 (k + 3) fEm fdEm ["value"] spEmpty := ok_empty D_empty_for_none.F
  have G_copied_groups : FnOk P w K mg base CX0 (k + 3) fCp fdCp ["groups"] spCopied := ok_copied D_copied_groups.F m_list
  refine F.ok sc_Command_init (fun vs H Q E h => ?_) (fun cdv A outer s H vs Q E hr h => ?_)
  · obtain ⟨x, dx, v0, v1, v2, v3, v4, v5, rfl, _⟩ := h
    rfl
  · obtain ⟨x, dx, v0, v1, v2, v3, v4, v5, rfl, ex, ⟨t0, w1', w2', w3', w4', t5⟩, qok, qbad⟩ := h
    refine ⟨_, pss_cons (ps_if (pt_not (pt_val (pe_call G_is_name hr (by rfl) D_is_name.g D_is_name.F.kp D_is_name.b .nil pass0 (pa_cons (pv 1) pa_nil)))) (pss_one (ps_raise rfl (takes_of rfl rfl rfl rfl) (pmk_oex TE.o TE.i TE.t GE hr TE.b .nil pass0 (by rfl) TE.g (pa_cons pe_str pa_nil)))) pss_nil)
      (pss_cons (ps_if (pt_not (pt_val (pe_call G_are_options hr (by rfl) D_are_options.g D_are_options.F.kp D_are_options.b .nil pass0 (pa_cons (pe_call G_empty_for_none hr (by rfl) D_empty_for_none.g D_empty_for_none.F.kp D_empty_for_none.b .nil pass0 (pa_cons (pv 2) pa_nil)) pa_nil)))) (pss_one (ps_raise rfl (takes_of rfl rfl rfl rfl) (pmk_oex TE.o TE.i TE.t GE hr TE.b .nil pass0 (by rfl) TE.g (pa_cons pe_str pa_nil)))) pss_nil)
      (pss_cons (ps_if (pt_not (pt_val (pe_call G_are_places hr (by rfl) D_are_places.g D_are_places.F.kp D_are_places.b .nil pass0 (pa_cons (pe_call G_empty_for_none hr (by rfl) D_empty_for_none.g D_empty_for_none.F.kp D_empty_for_none.b .nil pass0 (pa_cons (pv 3) pa_nil)) pa_nil)))) (pss_one (ps_raise rfl (takes_of rfl rfl rfl rfl) (pmk_oex TE.o TE.i TE.t GE hr TE.b .nil pass0 (by rfl) TE.g (pa_cons pe_str pa_nil)))) pss_nil)
      (pss_cons (ps_if (pt_not (pt_val (pe_call G_are_groups hr (by rfl) D_are_groups.g D_are_groups.F.kp D_are_groups.b .nil pass0 (pa_cons (pe_call G_empty_for_none hr (by rfl) D_empty_for_none.g D_empty_for_none.F.kp D_empty_for_none.b .nil pass0 (pa_cons (pv 4) pa_nil)) pa_nil)))) (pss_one (ps_raise rfl (takes_of rfl rfl rfl rfl) (pmk_oex TE.o TE.i TE.t GE hr TE.b .nil pass0 (by rfl) TE.g (pa_cons pe_str pa_nil)))) pss_nil)
      (pss_cons (ps_if (pt_not (pt_val (pe_call G_are_commands hr (by rfl) D_are_commands.g D_are_commands.F.kp D_are_commands.b .nil pass0 (pa_cons (pe_call G_empty_for_none hr (by rfl) D_empty_for_none.g D_empty_for_none.F.kp D_empty_for_none.b .nil pass0 (pa_cons (pv 5) pa_nil)) pa_nil)))) (pss_one (ps_raise rfl (takes_of rfl rfl rfl rfl) (pmk_oex TE.o TE.i TE.t GE hr TE.b .nil pass0 (by rfl) TE.g (pa_cons pe_str pa_nil)))) pss_nil)
      (pss_cons (ps_if (pt_not (pt_val (pe_call G_is_about hr (by rfl) D_is_about.g D_is_about.F.kp D_is_about.b .nil pass0 (pa_cons (pv 6) pa_nil)))) (pss_one (ps_raise rfl (takes_of rfl rfl rfl rfl) (pmk_oex TE.o TE.i TE.t GE hr TE.b .nil pass0 (by rfl) TE.g (pa_cons pe_str pa_nil)))) pss_nil)
      (pss_cons (ps_fld (pv 0) (pv 1) rfl)
      (pss_cons (ps_fld (pv 0) (pe_callTy (r := rListOf K) call_listOf (by rfl) m_list (by decide +kernel) (pa_cons (pe_call G_empty_for_none hr (by rfl) D_empty_for_none.g D_empty_for_none.F.kp D_empty_for_none.b .nil pass0 (pa_cons (pv 2) pa_nil)) pa_nil)) rfl)
      (pss_cons (ps_fld (pv 0) (pe_callTy (r := rListOf K) call_listOf (by rfl) m_list (by decide +kernel) (pa_cons (pe_call G_empty_for_none hr (by rfl) D_empty_for_none.g D_empty_for_none.F.kp D_empty_for_none.b .nil pass0 (pa_cons (pv 3) pa_nil)) pa_nil)) rfl)
      (pss_cons (ps_fld (pv 0) (pe_call G_copied_groups hr (by rfl) D_copied_groups.g D_copied_groups.F.kp D_copied_groups.b .nil pass0 (pa_cons (pe_call G_empty_for_none hr (by rfl) D_empty_for_none.g D_empty_for_none.F.kp D_empty_for_none.b .nil pass0 (pa_cons (pv 4) pa_nil)) pa_nil)) rfl)
      (pss_cons (ps_fld (pv 0) (pe_callTy (r := rListOf K) call_listOf (by rfl) m_list (by decide +kernel) (pa_cons (pe_call G_empty_for_none hr (by rfl) D_empty_for_none.g D_empty_for_none.F.kp D_empty_for_none.b .nil pass0 (pa_cons (pv 5) pa_nil)) pa_nil)) rfl)
      (pss_one (ps_fld (pv 0) (pv 6) rfl)))))))))))), ?_⟩
    have I1 := fun {Hx} (sx : Same H Hx) => fun {m} => Wf.ol (m := m) (g := fun H => isC H CO) w1' sx (fun x wx => (wx.at_ sx).2.2 CO)
    have I2 := fun {Hx} (sx : Same H Hx) => fun {m} => Wf.ol (m := m) (g := fun H => isC H CP) w2' sx (fun x wx => (wx.at_ sx).2.2 CP)
    have I3 := fun {Hx} (sx : Same H Hx) => fun {m} => Wf.ol (m := m) (g := grp) w3' sx (fun x wx => wx.grp sx)
    have I4 := fun {Hx} (sx : Same H Hx) => fun {m} => Wf.ol (m := m) (g := fun H => isC H CC) w4' sx (fun x wx => (wx.at_ sx).2.2 CC)
    refine chk_of rfl t0 (fun b0 H1 s1 => ?_) (fun b0 H1 s1 => ?_)
    · skip
      have e : wrongC CO CP CC H v0 v1 v2 v3 v4 v5 = Str.ofString "name" := by unfold wrongC; rw [if_pos b0]
      rw [e] at qbad
      exact ⟨by show 1 ≤ 1000; decide, fun a na => err_out (x := x) (fun H' d sm nd ed => qbad (lit_ne (by decide +kernel)) H' d (s1.trans sm) (s1.free nd) ed) a na⟩
    refine chk_in rfl (w1'.same s1) (fun b1 H2 s2 => ?_) (fun b1 H2 s2 => ?_)
    · rw [I1 s1] at b1
      have e : wrongC CO CP CC H v0 v1 v2 v3 v4 v5 = Str.ofString "options" := by unfold wrongC; rw [if_neg (by rw [b0]; decide), if_pos b1]
      rw [e] at qbad
      exact ⟨by show 1 ≤ 1000; decide, fun a na => err_out (x := x) (fun H' d sm nd ed => qbad (lit_ne (by decide +kernel)) H' d ((s1.trans s2).trans sm) ((s1.trans s2).free nd) ed) a na⟩
    rw [I1 s1] at b1
    refine chk_in rfl (w2'.same (s1.trans s2)) (fun b2 H3 s3 => ?_) (fun b2 H3 s3 => ?_)
    · rw [I2 (s1.trans s2)] at b2
      have e : wrongC CO CP CC H v0 v1 v2 v3 v4 v5 = Str.ofString "places" := by unfold wrongC; rw [if_neg (by rw [b0]; decide), if_neg (by rw [b1]; decide), if_pos b2]
      rw [e] at qbad
      exact ⟨by show 1 ≤ 1000; decide, fun a na => err_out (x := x) (fun H' d sm nd ed => qbad (lit_ne (by decide +kernel)) H' d (((s1.trans s2).trans s3).trans sm) (((s1.trans s2).trans s3).free nd) ed) a na⟩
    rw [I2 (s1.trans s2)] at b2
    refine chk_in rfl (w3'.same ((s1.trans s2).trans s3)) (fun b3 H4 s4 => ?_) (fun b3 H4 s4 => ?_)
    · rw [I3 ((s1.trans s2).trans s3)] at b3
      have e : wrongC CO CP CC H v0 v1 v2 v3 v4 v5 = Str.ofString "groups" := by unfold wrongC; rw [if_neg (by rw [b0]; decide), if_neg (by rw [b1]; decide), if_neg (by rw [b2]; decide), if_pos b3]
      rw [e] at qbad
      exact ⟨by show 1 ≤ 1000; decide, fun a na => err_out (x := x) (fun H' d sm nd ed => qbad (lit_ne (by decide +kernel)) H' d ((((s1.trans s2).trans s3).trans s4).trans sm) ((((s1.trans s2).trans s3).trans s4).free nd) ed) a na⟩
    rw [I3 ((s1.trans s2).trans s3)] at b3
    refine chk_in rfl (w4'.same (((s1.trans s2).trans s3).trans s4)) (fun b4 H5 s5 => ?_) (fun b4 H5 s5 => ?_)
    · rw [I4 (((s1.trans s2).trans s3).trans s4)] at b4
      have e : wrongC CO CP CC H v0 v1 v2 v3 v4 v5 = Str.ofString "commands" := by unfold wrongC; rw [if_neg (by rw [b0]; decide), if_neg (by rw [b1]; decide), if_neg (by rw [b2]; decide), if_neg (by rw [b3]; decide), if_pos b4]
      rw [e] at qbad
      exact ⟨by show 1 ≤ 1000; decide, fun a na => err_out (x := x) (fun H' d sm nd ed => qbad (lit_ne (by decide +kernel)) H' d (((((s1.trans s2).trans s3).trans s4).trans s5).trans sm) (((((s1.trans s2).trans s3).trans s4).trans s5).free nd) ed) a na⟩
    rw [I4 (((s1.trans s2).trans s3).trans s4)] at b4
    refine chk_of rfl (t5.same ((((s1.trans s2).trans s3).trans s4).trans s5)) (fun b5 H6 s6 => ?_) (fun b5 H6 s6 => ?_)
    · skip
      have e : wrongC CO CP CC H v0 v1 v2 v3 v4 v5 = Str.ofString "about" := by unfold wrongC; rw [if_neg (by rw [b0]; decide), if_neg (by rw [b1]; decide), if_neg (by rw [b2]; decide), if_neg (by rw [b3]; decide), if_neg (by rw [b4]; decide), if_pos b5]
      rw [e] at qbad
      exact ⟨by show 1 ≤ 1000; decide, fun a na => err_out (x := x) (fun H' d sm nd ed => qbad (lit_ne (by decide +kernel)) H' d ((((((s1.trans s2).trans s3).trans s4).trans s5).trans s6).trans sm) ((((((s1.trans s2).trans s3).trans s4).trans s5).trans s6).free nd) ed) a na⟩
    have e : wrongC CO CP CC H v0 v1 v2 v3 v4 v5 = Str.ofString "" := by unfold wrongC; rw [if_neg (by rw [b0]; decide), if_neg (by rw [b1]; decide), if_neg (by rw [b2]; decide), if_neg (by rw [b3]; decide), if_neg (by rw [b4]; decide), if_neg (by rw [b5]; decide)]
    have S6 : Same H H6 := ((((s1.trans s2).trans s3).trans s4).trans s5).trans s6
    have ex6 := S6 _ _ ex
    have L1 := (lv_of w1' b1).same S6
    have L2 := (lv_of w2' b2).same S6
    have L3 := (lv_of w3' b3).same S6
    have L4 := (lv_of w4' b4).same S6
    have G3 := grp_items w3' b3
    refine fld_var rfl rfl ex6 T.cl T.n0 (by decide) ?_
    rw [show putF (Str.ofString "own_name") v0 [] = [(Str.ofString "own_name", v0)] from rfl]
    have B7 : But x H (upd H6 x (.ins CC dx [(Str.ofString "own_name", v0)])) := fun b ob nb eb => by rw [upd_ne nb]; exact S6 _ _ eb
    have C7 : But x H6 (upd H6 x (.ins CC dx [(Str.ofString "own_name", v0)])) := But.upd _ _ _
    have ex7 : (upd H6 x (.ins CC dx [(Str.ofString "own_name", v0)])) x = some (.ins CC dx [(Str.ofString "own_name", v0)]) := upd_same
    revert B7 C7 ex7
    generalize upd H6 x (.ins CC dx [(Str.ofString "own_name", v0)]) = H7
    intro B7 C7 ex7
    refine fld_list rfl rfl (L1.but C7 ex6) ex7 T.cl T.n1 (by show 1 < 1000; decide) (fun H8 lo s8 n8 e8 => ?_)
    have no : H lo = none := but_none B7 ex7 n8
    have nxo : lo ≠ x := fun z => by rw [z, ex7] at n8; cases n8
    rw [putF_new (fs := [(Str.ofString "own_name", v0)]) (by show Str.ofString "own_options" ∉ [Str.ofString "own_name"]; decide +kernel)]
    simp only [List.cons_append, List.nil_append]
    have B9 : But x H (upd H8 x (.ins CC dx [(Str.ofString "own_name", v0), (Str.ofString "own_options", .ref lo)])) := fun b ob nb eb => by rw [upd_ne nb]; exact s8 _ _ (B7 b ob nb eb)
    have C9 : But x H8 (upd H8 x (.ins CC dx [(Str.ofString "own_name", v0), (Str.ofString "own_options", .ref lo)])) := But.upd _ _ _
    have ex9 : (upd H8 x (.ins CC dx [(Str.ofString "own_name", v0), (Str.ofString "own_options", .ref lo)])) x = some (.ins CC dx [(Str.ofString "own_name", v0), (Str.ofString "own_options", .ref lo)]) := upd_same
    revert B9 C9 ex9
    generalize upd H8 x (.ins CC dx [(Str.ofString "own_name", v0), (Str.ofString "own_options", .ref lo)]) = H9
    intro B9 C9 ex9
    have eo9 := C9 _ _ nxo e8
    have D9 : But x H6 H9 := fun b ob nb eb => C9 _ _ nb (s8 _ _ (C7 _ _ nb eb))
    refine fld_list rfl rfl (L2.but D9 ex6) ex9 T.cl T.n2 (by show 2 < 1000; decide) (fun H10 lp s10 n10 e10 => ?_)
    have np : H lp = none := but_none B9 ex9 n10
    have nxp : lp ≠ x := fun z => by rw [z, ex9] at n10; cases n10
    rw [putF_new (fs := [(Str.ofString "own_name", v0), (Str.ofString "own_options", .ref lo)]) (by show Str.ofString "own_places" ∉ [Str.ofString "own_name", Str.ofString "own_options"]; decide +kernel)]
    simp only [List.cons_append, List.nil_append]
    have B11 : But x H (upd H10 x (.ins CC dx [(Str.ofString "own_name", v0), (Str.ofString "own_options", .ref lo), (Str.ofString "own_places", .ref lp)])) := fun b ob nb eb => by rw [upd_ne nb]; exact s10 _ _ (B9 b ob nb eb)
    have C11 : But x H10 (upd H10 x (.ins CC dx [(Str.ofString "own_name", v0), (Str.ofString "own_options", .ref lo), (Str.ofString "own_places", .ref lp)])) := But.upd _ _ _
    have ex11 : (upd H10 x (.ins CC dx [(Str.ofString "own_name", v0), (Str.ofString "own_options", .ref lo), (Str.ofString "own_places", .ref lp)])) x = some (.ins CC dx [(Str.ofString "own_name", v0), (Str.ofString "own_options", .ref lo), (Str.ofString "own_places", .ref lp)]) := upd_same
    revert B11 C11 ex11
    generalize upd H10 x (.ins CC dx [(Str.ofString "own_name", v0), (Str.ofString "own_options", .ref lo), (Str.ofString "own_places", .ref lp)]) = H11
    intro B11 C11 ex11
    have eo11 := C11 _ _ nxo (s10 _ _ eo9)
    have ep11 := C11 _ _ nxp e10
    have D11 : But x H6 H11 := fun b ob nb eb => C11 _ _ nb (s10 _ _ (D9 _ _ nb eb))
    have lis := w3'.items.1
    refine fld_cop (gss := (its H v3).map (its H)) rfl rfl (L3.but D11 ex6) (by rw [List.length_map]) lis (fun i y e => ?_) ex11 T.cl T.n3 (by show 3 < 1000; decide) (fun H12 lg s12 g12 => ?_)
    · obtain ⟨b, g, e1, e2, e3⟩ := G3 i y e
      exact ⟨b, g, e1, B11 _ _ (fun z => by rw [z, ex] at e2; cases e2) e2, e3⟩
    have g0 : GL H H12 lg ((its H v3).map (its H)) := g12.base (fun b n => but_none B11 ex11 n)
    have hx : H x ≠ none := by rw [ex]; simp
    rw [putF_new (fs := [(Str.ofString "own_name", v0), (Str.ofString "own_options", .ref lo), (Str.ofString "own_places", .ref lp)]) (by show Str.ofString "own_groups" ∉ [Str.ofString "own_name", Str.ofString "own_options", Str.ofString "own_places"]; decide +kernel)]
    simp only [List.cons_append, List.nil_append]
    have B13 : But x H (upd H12 x (.ins CC dx [(Str.ofString "own_name", v0), (Str.ofString "own_options", .ref lo), (Str.ofString "own_places", .ref lp), (Str.ofString "own_groups", .ref lg)])) := fun b ob nb eb => by rw [upd_ne nb]; exact s12 _ _ (B11 b ob nb eb)
    have C13 : But x H12 (upd H12 x (.ins CC dx [(Str.ofString "own_name", v0), (Str.ofString "own_options", .ref lo), (Str.ofString "own_places", .ref lp), (Str.ofString "own_groups", .ref lg)])) := But.upd _ _ _
    have ex13 : (upd H12 x (.ins CC dx [(Str.ofString "own_name", v0), (Str.ofString "own_options", .ref lo), (Str.ofString "own_places", .ref lp), (Str.ofString "own_groups", .ref lg)])) x = some (.ins CC dx [(Str.ofString "own_name", v0), (Str.ofString "own_options", .ref lo), (Str.ofString "own_places", .ref lp), (Str.ofString "own_groups", .ref lg)]) := upd_same
    revert B13 C13 ex13
    generalize upd H12 x (.ins CC dx [(Str.ofString "own_name", v0), (Str.ofString "own_options", .ref lo), (Str.ofString "own_places", .ref lp), (Str.ofString "own_groups", .ref lg)]) = H13
    intro B13 C13 ex13
    have eo13 := C13 _ _ nxo (s12 _ _ eo11)
    have ep13 := C13 _ _ nxp (s12 _ _ ep11)
    have g13 := g0.but C13 hx
    have D13 : But x H6 H13 := fun b ob nb eb => C13 _ _ nb (s12 _ _ (D11 _ _ nb eb))
    refine fld_list rfl rfl (L4.but D13 ex6) ex13 T.cl T.n4 (by show 4 < 1000; decide) (fun H14 lc s14 n14 e14 => ?_)
    have nc : H lc = none := but_none B13 ex13 n14
    have nxc : lc ≠ x := fun z => by rw [z, ex13] at n14; cases n14
    have g14 : GL H H14 lg ((its H v3).map (its H)) := g13.but (x := x) (fun b ob _ e => s14 _ _ e) hx
    rw [putF_new (fs := [(Str.ofString "own_name", v0), (Str.ofString "own_options", .ref lo), (Str.ofString "own_places", .ref lp), (Str.ofString "own_groups", .ref lg)]) (by show Str.ofString "own_commands" ∉ [Str.ofString "own_name", Str.ofString "own_options", Str.ofString "own_places", Str.ofString "own_groups"]; decide +kernel)]
    simp only [List.cons_append, List.nil_append]
    have B15 : But x H (upd H14 x (.ins CC dx [(Str.ofString "own_name", v0), (Str.ofString "own_options", .ref lo), (Str.ofString "own_places", .ref lp), (Str.ofString "own_groups", .ref lg), (Str.ofString "own_commands", .ref lc)])) := fun b ob nb eb => by rw [upd_ne nb]; exact s14 _ _ (B13 b ob nb eb)
    have C15 : But x H14 (upd H14 x (.ins CC dx [(Str.ofString "own_name", v0), (Str.ofString "own_options", .ref lo), (Str.ofString "own_places", .ref lp), (Str.ofString "own_groups", .ref lg), (Str.ofString "own_commands", .ref lc)])) := But.upd _ _ _
    have ex15 : (upd H14 x (.ins CC dx [(Str.ofString "own_name", v0), (Str.ofString "own_options", .ref lo), (Str.ofString "own_places", .ref lp), (Str.ofString "own_groups", .ref lg), (Str.ofString "own_commands", .ref lc)])) x = some (.ins CC dx [(Str.ofString "own_name", v0), (Str.ofString "own_options", .ref lo), (Str.ofString "own_places", .ref lp), (Str.ofString "own_groups", .ref lg), (Str.ofString "own_commands", .ref lc)]) := upd_same
    revert B15 C15 ex15
    generalize upd H14 x (.ins CC dx [(Str.ofString "own_name", v0), (Str.ofString "own_options", .ref lo), (Str.ofString "own_places", .ref lp), (Str.ofString "own_groups", .ref lg), (Str.ofString "own_commands", .ref lc)]) = H15
    intro B15 C15 ex15
    have eo15 := C15 _ _ nxo (s14 _ _ eo13)
    have ep15 := C15 _ _ nxp (s14 _ _ ep13)
    have g15 := g14.but C15 hx
    have ec15 := C15 _ _ nxc e14
    refine ⟨v5, rfl, .ref x, rfl, x, CC, dx, _, rfl, ex15, T.cl, T.n5, by show 5 < 1000; decide, ?_⟩
    rw [putF_new (fs := [(Str.ofString "own_name", v0), (Str.ofString "own_options", .ref lo), (Str.ofString "own_places", .ref lp), (Str.ofString "own_groups", .ref lg), (Str.ofString "own_commands", .ref lc)]) (by show Str.ofString "own_about" ∉ [Str.ofString "own_name", Str.ofString "own_options", Str.ofString "own_places", Str.ofString "own_groups", Str.ofString "own_commands"]; decide +kernel)]
    simp only [List.cons_append, List.nil_append]
    have B16 : But x H (upd H15 x (.ins CC dx [(Str.ofString "own_name", v0), (Str.ofString "own_options", .ref lo), (Str.ofString "own_places", .ref lp), (Str.ofString "own_groups", .ref lg), (Str.ofString "own_commands", .ref lc), (Str.ofString "own_about", v5)])) := fun b ob nb eb => by rw [upd_ne nb]; exact B15 b ob nb eb
    have C16 : But x H15 (upd H15 x (.ins CC dx [(Str.ofString "own_name", v0), (Str.ofString "own_options", .ref lo), (Str.ofString "own_places", .ref lp), (Str.ofString "own_groups", .ref lg), (Str.ofString "own_commands", .ref lc), (Str.ofString "own_about", v5)])) := But.upd _ _ _
    have ex16 : (upd H15 x (.ins CC dx [(Str.ofString "own_name", v0), (Str.ofString "own_options", .ref lo), (Str.ofString "own_places", .ref lp), (Str.ofString "own_groups", .ref lg), (Str.ofString "own_commands", .ref lc), (Str.ofString "own_about", v5)])) x = some (.ins CC dx [(Str.ofString "own_name", v0), (Str.ofString "own_options", .ref lo), (Str.ofString "own_places", .ref lp), (Str.ofString "own_groups", .ref lg), (Str.ofString "own_commands", .ref lc), (Str.ofString "own_about", v5)]) := upd_same
    revert B16 C16 ex16
    generalize upd H15 x (.ins CC dx [(Str.ofString "own_name", v0), (Str.ofString "own_options", .ref lo), (Str.ofString "own_places", .ref lp), (Str.ofString "own_groups", .ref lg), (Str.ofString "own_commands", .ref lc), (Str.ofString "own_about", v5)]) = H16
    intro B16 C16 ex16
    exact qok e H16 B16 ⟨dx, lo, lp, lg, lc, ex16, ⟨no, C16 _ _ nxo eo15⟩, ⟨np, C16 _ _ nxp ep15⟩, g15.but C16 hx, ⟨nc, C16 _ _ nxc ec15⟩⟩
end
end WB

set_option Elab.async false
set_option linter.all false
set_option maxRecDepth 100000
set_option maxHeartbeats 4000000
namespace WB
open PySem PySem.Spec PyProof.Rows L2 WG
open TL (tl)
abbrev st_w_is_name : Stmt := topS 51
theorem sc_w_is_name : FnScope ["_law_thing", "_law_sign"] ["_law_thing"] (defScope st_w_is_name) := ⟨rfl, rfl, rfl, by decide +kernel, rfl, by decide +kernel, by decide +kernel⟩
abbrev st_w_is_about : Stmt := topS 52
theorem sc_w_is_about : FnScope ["_law_thing"] ["_law_thing"] (defScope st_w_is_about) := ⟨rfl, rfl, rfl, by decide +kernel, rfl, by decide +kernel, by decide +kernel⟩
section
variable {P : Program} {w : World} {K : PySem.W.Frag} {mg : Str → Option Value} {base : Heap}
theorem ok_wName {f : Addr} {fd : FuncData} {k : Nat} (F : Fun K "_law_is_name" "_law_is_name" st_w_is_name f fd) (m_len : mg "len" = none) (m_str : mg "str" = none) (m_isinstance : mg "isinstance" = none) :
    FnOk P w K mg base CX0 (k + 1) f fd ["_law_thing"] (spOf isNm) := by
  refine F.ok sc_w_is_name (fun vs H Q E h => ?_) (fun cdv A outer s H vs Q E hr h => ?_)
  · obtain ⟨v, rfl, _⟩ := h
    rfl
  · obtain ⟨v, rfl, hv, q⟩ := h
    refine ⟨_, pss_cons (ps_if (PW.pt (pw_or (pt_not (pt_val (pe_callB call_isi (by rfl) m_isinstance (by decide +kernel) (pa_cons (pv 0) (pa_cons (pe_bltn (v := .ty "str") (by rfl) m_str (by decide +kernel) rfl) pa_nil))))) (pw_or (pt_cmpR op_eq (pv 0) pe_str (nomark _)) (pw_or1 (pt_cmpR op_gt (pe_callB call_len_str (by rfl) m_len PySem.boot_len (pa_cons (pv 0) pa_nil)) pe_int (nomark _)))))) (pss_one (ps_ret pe_bl)) pss_nil)
      (pss_cons (ps_if (PW.pt (pw_or (pt_cmpR op_eq (pe_ix ix_str (pv 0) pe_int (fun _ _ => rfl)) pe_str (nomark _)) (pw_or (pt_cmpR op_eq (pe_ix ix_str (pv 0) (pe_un un_neg pe_int) (fun _ _ => rfl)) pe_str (nomark _)) (pw_or1 (pt_cmpR op_eq (pe_slice sl_str (pv 0) po_none (po_some pe_int)) pe_str (nomark _)))))) (pss_one (ps_ret pe_bl)) pss_nil)
      (pss_one (ps_ret (pe_cmpR (op_eqD hr.units) (pe_lc (own := [("_law_sign", 1)]) (g := gName 1) rfl sc_w_is_name.nd (pi_str (pv 0)) (blkOk_by (N := ["_law_thing", "_law_sign"]) (sc := defScope st_w_is_name) (by decide +kernel)) (fun _ _ _ _ _ => (pg_name (i := 1) sc_w_is_name.nd rfl (Or.inl rfl))) (fun _ _ _ _ _ => pts_one (pt_cmpR op_notIn_sign (pv 1) pe_str (by rfl))) (fun _ _ _ _ _ => (pv 1))) (pe_lst pa_nil) (nomark _))))), ?_⟩
    obtain ⟨t, ht, hk⟩ := hv.isi (K := K)
    refine ⟨v, rfl, v, _, t, _, isS v, rfl, ClsV.ty "str", ht, hk, _, rfl, ?_⟩
    cases v with
    | str z =>
      have hzl : z.length ≤ sizeLine := Nat.le_trans hv.tx.le (by decide)
      refine ⟨.str z, rfl, rfl, _, rfl, ite2 (fun e => ?_) (fun e => ?_)⟩
      · have e2 : tl z = [] := (eq_lit z "").mp (of_decide_eq_true e)
        have e3 : isNm (.str z) = false := by
          show nm (tl z) = false
          rw [e2]
          rfl
        rw [e3] at q
        exact q _ (Same.refl _)
      · have e2 : tl z ≠ [] := fun c => e (decide_eq_true ((eq_lit z "").mpr c))
        refine ⟨.str z, rfl, z, rfl, hzl, _, _, rfl, rfl, _, rfl, ite2 (fun e => ?_) (fun e => ?_)⟩
        · have e1 := of_decide_eq_true e
          have e3 : isNm (.str z) = false := by
            show nm (tl z) = false
            unfold nm
            rw [decide_eq_false (p := (tl z).length ≤ 10) (by rw [← TL.len_tl]; omega)]
            simp
          rw [e3] at q
          exact q _ (Same.refl _)
        · have e1 : ¬ ((10 : Int) < (z.length : Int)) := fun c => e (decide_eq_true c)
          have hlen : (tl z).length ≤ 10 := by rw [← TL.len_tl]; omega
          cases hz : tl z with
          | nil => exact absurd hz e2
          | cons c0 r0 =>
            have g0 : atI z.cps.toList 0 = some c0 := atI_nat (j := 0) (show (tl z)[0]? = some c0 by rw [hz]; rfl)
            have gl : atI z.cps.toList (-1) = some ((tl z).getLast e2) := by
              have es : z.cps.toList = (tl z).dropLast ++ [(tl z).getLast e2] := (List.dropLast_concat_getLast e2).symm
              rw [es]
              exact atI_last _ _
            refine ⟨.str z, rfl, z, 0, c0, rfl, rfl, hzl, g0, rfl, _, rfl, ite2 (fun e => ?_) (fun e => ?_)⟩
            · rw [dec_lit ⟨#[c0]⟩ "-" (l := [45]) (by decide +kernel)] at e
              have e4 : c0 = 45 := by
                have := of_decide_eq_true e
                injection this
              have e3 : isNm (.str z) = false := by
                show nm (tl z) = false
                unfold nm
                rw [show decide ((tl z).take 1 = [45]) = true from decide_eq_true (by rw [hz, e4]; rfl)]
                simp
              rw [e3] at q
              exact q _ (Same.refl _)
            · rw [dec_lit ⟨#[c0]⟩ "-" (l := [45]) (by decide +kernel)] at e
              have n1 : decide ((tl z).take 1 = [45]) = false := by
                rw [hz]
                exact Bool.eq_false_iff.mpr e
              refine ⟨.str z, rfl, 1, rfl, z, -1, (tl z).getLast e2, rfl, rfl, hzl, gl, rfl, _, rfl, ite2 (fun e => ?_) (fun e => ?_)⟩
              · rw [dec_lit ⟨#[(tl z).getLast e2]⟩ "-" (l := [45]) (by decide +kernel)] at e
                have e4 : (tl z).getLast e2 = 45 := by
                  have := of_decide_eq_true e
                  injection this
                have e3 : isNm (.str z) = false := by
                  show nm (tl z) = false
                  unfold nm
                  rw [show decide ((tl z).getLast? = some 45) = true from decide_eq_true (by rw [List.getLast?_eq_getLast e2, e4])]
                  simp
                rw [e3] at q
                exact q _ (Same.refl _)
              · rw [dec_lit ⟨#[(tl z).getLast e2]⟩ "-" (l := [45]) (by decide +kernel)] at e
                have n2 : decide ((tl z).getLast? = some 45) = false := by
                  refine decide_eq_false fun c => e (decide_eq_true ?_)
                  rw [List.getLast?_eq_getLast e2] at c
                  show [(tl z).getLast e2] = [45]
                  rw [Option.some.inj c]
                refine ⟨.str z, rfl, 3, rfl, z, rfl, hzl, rfl, _, rfl, ite2 (fun e => ?_) (fun e => ?_)⟩
                · rw [dec_lit _ "no-" (l := [110, 111, 45]) (by decide +kernel), cut3] at e
                  have e3 : isNm (.str z) = false := by
                    show nm (tl z) = false
                    unfold nm
                    rw [e]
                    simp
                  rw [e3] at q
                  exact q _ (Same.refl _)
                · rw [dec_lit _ "no-" (l := [110, 111, 45]) (by decide +kernel), cut3] at e
                  have n3 : decide ((tl z).take 3 = [110, 111, 45]) = false := Bool.eq_false_iff.mpr e
                  have e3 : isNm (.str z) = (tl z).all fun c => decide (c ∈ tl nameSet) := by
                    show nm (tl z) = _
                    unfold nm
                    rw [n1, n2, n3, decide_eq_true e2, decide_eq_true hlen]
                    simp
                  refine ⟨.str z, rfl, z, rfl, fun D nD => ?_⟩
                  refine lc_it walk_str (fun i Hc => Same H Hc ∧ Hc D = some (.lst ((((tl z).take i).filter fun c => !decide (c ∈ tl nameSet)).map fun c => V.str ⟨#[c]⟩))) ⟨same_upd nD, upd_same⟩ (fun _ _ _ _ => True.intro) (fun i x Hc H' hi ⟨sc, eD⟩ ⟨eH, c, ec, ex⟩ => ?_) (fun Hc ⟨sc, eD⟩ => ?_)
                  · subst eH ex
                    have ec' : (tl z)[i]? = some c := by
                      rw [Array.getElem?_toList]
                      exact ec
                    refine ⟨rfl, ?_⟩
                    refine ⟨_, rfl, c, nameSet, rfl, rfl, _, rfl, ?_⟩
                    have et : (tl z).take (i + 1) = (tl z).take i ++ [c] := by
                      rw [List.take_add_one, ec']
                      rfl
                    cases hc : decide (c ∈ tl nameSet) with
                    | true =>
                      refine ⟨sc, ?_⟩
                      rw [et, List.filter_append, List.filter_cons_of_neg (by rw [hc]; decide), List.filter_nil, List.append_nil]
                      exact eD
                    | false =>
                      refine ⟨_, rfl, _, eD, ?_, ?_, ?_⟩
                      · rw [List.length_map]
                        refine Nat.lt_of_le_of_lt (List.length_filter_le _ _) ?_
                        rw [List.length_take]
                        exact small1000 (by omega)
                      · intro b o e
                        rw [upd_ne (ne_of_none e nD)]
                        exact sc b o e
                      · rw [upd_same, et, List.filter_append, List.filter_cons_of_pos (by rw [hc]; rfl), List.filter_nil, List.map_append]
                        rfl
                  · have el : z.cps.size = (tl z).length := by simp
                    rw [el, List.take_length] at eD
                    refine ⟨Nat.zero_le _, fun p np => ?_⟩
                    have eD' : (upd Hc p (.lst [])) D = some (.lst ((((tl z).filter fun c => !decide (c ∈ tl nameSet)).map fun c => (⟨#[c]⟩ : Str)).map V.str)) := by
                      rw [upd_ne (ne_of_none eD np), eD, List.map_map]
                      rfl
                    refine ⟨_, _, .lst (SqL.of eD') (dp_strs _), .lst (SqL.of upd_same) .nil, shaped_strs _ ?_, by decide +kernel, ?_⟩
                    · intro y hy
                      obtain ⟨c, hc, rfl⟩ := List.mem_map.mp hy
                      exact strOk_of (Tx.sign (hv.tx.pl c (List.mem_filter.mp hc).1)).pl
                    have e5 : PyData.eqv (.list ((((tl z).filter fun c => !decide (c ∈ tl nameSet)).map fun c => (⟨#[c]⟩ : Str)).map PyData.str)) (.list []) = isNm (.str z) := by
                      rw [e3, eqv_nil, List.isEmpty_map, List.isEmpty_map]
                      exact filter_all _ _
                    rw [e5]
                    exact q _ (sc.trans (same_upd np))
    | _ => exact q _ (Same.refl _)
theorem ok_wAbout {f : Addr} {fd : FuncData} {k : Nat} (F : Fun K "_law_is_about" "_law_is_about" st_w_is_about f fd) (m_len : mg "len" = none) (m_str : mg "str" = none) (m_isinstance : mg "isinstance" = none) :
    FnOk P w K mg base CX0 (k + 1) f fd ["_law_thing"] (spOf isAb) := by
  refine F.ok sc_w_is_about (fun vs H Q E h => ?_) (fun cdv A outer s H vs Q E hr h => ?_)
  · obtain ⟨v, rfl, _⟩ := h
    rfl
  · obtain ⟨v, rfl, hv, q⟩ := h
    refine ⟨_, pss_cons (ps_if (PW.pt (pw_or (pt_not (pt_val (pe_callB call_isi (by rfl) m_isinstance (by decide +kernel) (pa_cons (pv 0) (pa_cons (pe_bltn (v := .ty "str") (by rfl) m_str (by decide +kernel) rfl) pa_nil))))) (pw_or1 (pt_cmpR op_gt (pe_callB call_len_str (by rfl) m_len PySem.boot_len (pa_cons (pv 0) pa_nil)) pe_int (nomark _))))) (pss_one (ps_ret pe_bl)) pss_nil)
      (pss_one (ps_ret (pe_or (pe_cmpR op_eq (pv 0) pe_str (nomark _)) (pe_one (pe_cmpR op_notIn_seq pe_str (pe_split (pv 0) pe_str) (by rfl)))))), ?_⟩
    obtain ⟨t, ht, hk⟩ := hv.isi (K := K)
    refine ⟨v, rfl, v, _, t, _, isS v, rfl, ClsV.ty "str", ht, hk, _, rfl, ?_⟩
    cases v with
    | str z =>
      have hzl : z.length ≤ sizeLine := Nat.le_trans hv.tx.le (by decide)
      refine ⟨.str z, rfl, z, rfl, hzl, _, _, rfl, rfl, _, rfl, ite2 (fun e => ?_) (fun e => ?_)⟩
      · have e1 := of_decide_eq_true e
        have e2 : isAb (.str z) = false := by
          show ab z = false
          unfold ab
          rw [decide_eq_false (p := z.length ≤ 200) (by omega)]
          rfl
        rw [e2] at q
        exact q _ (Same.refl _)
      · have e1 : ¬ ((200 : Int) < (z.length : Int)) := fun c => e (decide_eq_true c)
        have e2 : isAb (.str z) = (decide (z = Str.ofString "") || !inV (.str (Str.ofString "")) ((Txt.split z (Str.ofString " ")).map V.str)) := by
          show ab z = _
          unfold ab
          rw [decide_eq_true (p := z.length ≤ 200) (by omega), Bool.true_and]
        have e3 : decide (V.str z = V.str (Str.ofString "")) = decide (z = Str.ofString "") := decide_eq_decide.mpr ⟨fun h => V.str.inj h, fun h => by rw [h]⟩
        refine ⟨.str z, rfl, rfl, _, rfl, ite2 (fun e => ?_) (fun e => ?_)⟩
        · rw [e2, ← e3, e] at q
          exact q _ (Same.refl _)
        · have e4 : decide (V.str z = V.str (Str.ofString "")) = false := Bool.eq_false_iff.mpr e
          rw [e2, ← e3, e4, Bool.false_or] at q
          refine ⟨.str z, rfl, ⟨_, rfl⟩, _, _, rfl, rfl, by decide +kernel, ?_, fun p np => ?_⟩
          · have : sizeLine = 16777216 := sizeLine_eq
            omega
          · exact ⟨p, _, rfl, .inl (SqL.of upd_same), rfl, strs_flat _, q _ (same_upd np)⟩
    | _ => exact q _ (Same.refl _)
end
end WB

set_option Elab.async false
set_option linter.all false
set_option maxRecDepth 100000
set_option maxHeartbeats 4000000
namespace WB
open PySem PySem.Spec PyProof.Rows L2 WG
open TL (tl)
abbrev st_Command_name : Stmt := inClass (topS 42) 1
theorem sc_Command_name : FnScope ["self"] ["self"] (defScope st_Command_name) := ⟨rfl, rfl, rfl, by decide +kernel, rfl, by decide +kernel, by decide +kernel⟩
abbrev st_Command_options : Stmt := inClass (topS 42) 2
theorem sc_Command_options : FnScope ["self"] ["self"] (defScope st_Command_options) := ⟨rfl, rfl, rfl, by decide +kernel, rfl, by decide +kernel, by decide +kernel⟩
abbrev st_Command_places : Stmt := inClass (topS 42) 3
theorem sc_Command_places : FnScope ["self"] ["self"] (defScope st_Command_places) := ⟨rfl, rfl, rfl, by decide +kernel, rfl, by decide +kernel, by decide +kernel⟩
abbrev st_Command_groups : Stmt := inClass (topS 42) 4
theorem sc_Command_groups : FnScope ["self"] ["self"] (defScope st_Command_groups) := ⟨rfl, rfl, rfl, by decide +kernel, rfl, by decide +kernel, by decide +kernel⟩
abbrev st_Command_commands : Stmt := inClass (topS 42) 5
theorem sc_Command_commands : FnScope ["self"] ["self"] (defScope st_Command_commands) := ⟨rfl, rfl, rfl, by decide +kernel, rfl, by decide +kernel, by decide +kernel⟩
abbrev st_Command_about : Stmt := inClass (topS 42) 6
theorem sc_Command_about : FnScope ["self"] ["self"] (defScope st_Command_about) := ⟨rfl, rfl, rfl, by decide +kernel, rfl, by decide +kernel, by decide +kernel⟩
section
variable {v0 v5 : V} {lo lp lg lc : Addr}
theorem cmd_look : (cmdF v0 lo lp lg lc v5).lookup ("own_name" : Str) = some v0 ∧ (cmdF v0 lo lp lg lc v5).lookup ("own_options" : Str) = some (.ref lo) ∧ (cmdF v0 lo lp lg lc v5).lookup ("own_places" : Str) = some (.ref lp) ∧ (cmdF v0 lo lp lg lc v5).lookup ("own_groups" : Str) = some (.ref lg) ∧ (cmdF v0 lo lp lg lc v5).lookup ("own_commands" : Str) = some (.ref lc) ∧ (cmdF v0 lo lp lg lc v5).lookup ("own_about" : Str) = some v5 := ⟨rfl, rfl, rfl, rfl, rfl, rfl⟩
theorem cmd_none {m : Str} (h : m ∉ [("own_name" : Str), "own_options", "own_places", "own_groups", "own_commands", "own_about"]) : (cmdF v0 lo lp lg lc v5).lookup m = none := by
  unfold cmdF
  simp only [List.mem_cons, List.not_mem_nil, or_false, not_or] at h
  obtain ⟨h1, h2, h3, h4, h5, h6⟩ := h
  simp only [List.lookup, beq_false_of_ne h1, beq_false_of_ne h2, beq_false_of_ne h3, beq_false_of_ne h4, beq_false_of_ne h5, beq_false_of_ne h6]
end
/-- a command as it stands -/
structure Cm (CC : Addr) (H : Hp) (x dx lo lp lg lc : Addr) (v0 : V) (os ps : List V) (as : List Addr) (gss : List (List V)) (cs : List V) (v5 : V) : Prop where
  ex : H x = some (.ins CC dx (cmdF v0 lo lp lg lc v5))
  o : H lo = some (.lst os)
  p : H lp = some (.lst ps)
  g : H lg = some (.lst (as.map V.ref))
  gl : as.length = gss.length
  ge : ∀ (i : Nat) (a : Addr), as[i]? = some a → ∃ g, gss[i]? = some g ∧ H a = some (.lst g)
  c : H lc = some (.lst cs)
theorem CmdAt.cm {CC : Addr} {H0 H : Hp} {x : Addr} {v0 : V} {os ps : List V} {gss : List (List V)} {cs : List V} {v5 : V} (h : CmdAt CC H0 H x v0 os ps gss cs v5) : ∃ dx lo lp lg lc as, Cm CC H x dx lo lp lg lc v0 os ps as gss cs v5 ∧ H0 lo = none ∧ H0 lp = none ∧ H0 lg = none ∧ H0 lc = none ∧ ∀ a ∈ as, H0 a = none := by
  obtain ⟨dx, lo, lp, lg, lc, ex, ⟨n1, e1⟩, ⟨n2, e2⟩, ⟨n3, as, e3, le, ha, nd⟩, ⟨n4, e4⟩⟩ := h.ex
  refine ⟨dx, lo, lp, lg, lc, as, ⟨ex, e1, e2, e3, le, fun i a e => ?_, e4⟩, n1, n2, n3, n4, fun a hm => ?_⟩
  · obtain ⟨_, _, g, h1, h2⟩ := ha i a e
    exact ⟨g, h1, h2⟩
  · obtain ⟨j, hj, e⟩ := List.mem_iff_getElem.mp hm
    exact (ha j a (by rw [List.getElem?_eq_getElem hj, e])).1
theorem Cm.keep {CC : Addr} {H H' : Hp} {x dx lo lp lg lc : Addr} {v0 : V} {os ps : List V} {as : List Addr} {gss : List (List V)} {cs : List V} {v5 : V} (h : Cm CC H x dx lo lp lg lc v0 os ps as gss cs v5) (k : ∀ b o, (b = x ∨ b = lo ∨ b = lp ∨ b = lg ∨ b = lc ∨ b ∈ as) → H b = some o → H' b = some o) : Cm CC H' x dx lo lp lg lc v0 os ps as gss cs v5 := by
  refine ⟨k _ _ (.inl rfl) h.ex, k _ _ (.inr (.inl rfl)) h.o, k _ _ (.inr (.inr (.inl rfl))) h.p, k _ _ (.inr (.inr (.inr (.inl rfl)))) h.g, h.gl, fun i a e => ?_, k _ _ (.inr (.inr (.inr (.inr (.inl rfl))))) h.c⟩
  obtain ⟨g, h1, h2⟩ := h.ge i a e
  exact ⟨g, h1, k _ _ (.inr (.inr (.inr (.inr (.inr (List.mem_of_getElem? e)))))) h2⟩
theorem Cm.same {CC : Addr} {H H' : Hp} {x dx lo lp lg lc : Addr} {v0 : V} {os ps : List V} {as : List Addr} {gss : List (List V)} {cs : List V} {v5 : V} (h : Cm CC H x dx lo lp lg lc v0 os ps as gss cs v5) (s : Same H H') : Cm CC H' x dx lo lp lg lc v0 os ps as gss cs v5 := h.keep (fun b o _ e => s b o e)
section
variable {P : Program} {w : World} {K : PySem.W.Frag} {mg : Str → Option Value} {base : Heap}
def spGetV (CC : Addr) (f : Str) : Sp := fun xs H Q _ => ∃ (x dx : Addr) (fs : List (Str × V)) (v : V), xs = [.ref x] ∧ H x = some (.ins CC dx fs) ∧ fs.lookup f = some v ∧ Q v H
def spGetL (CC : Addr) (f : Str) : Sp := fun xs H Q _ => ∃ (x dx : Addr) (fs : List (Str × V)) (a : Addr) (ys : List V), xs = [.ref x] ∧ H x = some (.ins CC dx fs) ∧ fs.lookup f = some (.ref a) ∧ H a = some (.lst ys) ∧ ∀ l, H l = none → Q (.ref l) (upd H l (.lst ys))
def spGetG (CC : Addr) : Sp := fun xs H Q _ => ∃ (x dx : Addr) (fs : List (Str × V)) (a : Addr) (as : List Addr) (gss : List (List V)), xs = [.ref x] ∧ H x = some (.ins CC dx fs) ∧ fs.lookup ("own_groups" : Str) = some (.ref a) ∧ H a = some (.lst (as.map V.ref)) ∧ as.length = gss.length ∧ as.length ≤ 1000 ∧ (∀ (i : Nat) (b : Addr), as[i]? = some b → ∃ g, gss[i]? = some g ∧ H b = some (.lst g)) ∧ ∀ H' l, Same H H' → GL H H' l gss → Q (.ref l) H'
theorem ok_cname {CC f : Addr} {fd : FuncData} {k : Nat} (F : Fun K "name" "Command.name" st_Command_name f fd) (T : ClsC K CC) : FnOk P w K mg base CX0 (k + 1) f fd ["self"] (spGetV CC "own_name") := by
  refine F.ok sc_Command_name (fun vs H Q E h => ?_) (fun cdv A outer s H vs Q E hr h => ?_)
  · obtain ⟨x, dx, fs, v, rfl, _⟩ := h
    rfl
  · obtain ⟨x, dx, fs, v, rfl, ex, el, q⟩ := h
    refine ⟨_, pss_one (ps_ret (pe_fld (pv 0) rfl)), ?_⟩
    exact ⟨.ref x, rfl, x, CC, dx, fs, v, rfl, ex, T.cl, T.n0, el, q⟩
theorem ok_cabout {CC f : Addr} {fd : FuncData} {k : Nat} (F : Fun K "about" "Command.about" st_Command_about f fd) (T : ClsC K CC) : FnOk P w K mg base CX0 (k + 1) f fd ["self"] (spGetV CC "own_about") := by
  refine F.ok sc_Command_about (fun vs H Q E h => ?_) (fun cdv A outer s H vs Q E hr h => ?_)
  · obtain ⟨x, dx, fs, v, rfl, _⟩ := h
    rfl
  · obtain ⟨x, dx, fs, v, rfl, ex, el, q⟩ := h
    refine ⟨_, pss_one (ps_ret (pe_fld (pv 0) rfl)), ?_⟩
    exact ⟨.ref x, rfl, x, CC, dx, fs, v, rfl, ex, T.cl, T.n5, el, q⟩
theorem ok_coptions {CC f : Addr} {fd : FuncData} {k : Nat} (F : Fun K "options" "Command.options" st_Command_options f fd) (T : ClsC K CC) (m_list : mg "list" = none) : FnOk P w K mg base CX0 (k + 1) f fd ["self"] (spGetL CC "own_options") := by
  refine F.ok sc_Command_options (fun vs H Q E h => ?_) (fun cdv A outer s H vs Q E hr h => ?_)
  · obtain ⟨x, dx, fs, a, ys, rfl, _⟩ := h
    rfl
  · obtain ⟨x, dx, fs, a, ys, rfl, ex, el, ea, q⟩ := h
    refine ⟨_, pss_one (ps_ret (pe_callTy (r := rListOf K) call_listOf (by rfl) m_list (by decide +kernel) (pa_cons (pe_fld (pv 0) rfl) pa_nil))), ?_⟩
    exact ⟨.ref x, rfl, x, CC, dx, fs, .ref a, rfl, ex, T.cl, T.n1, el, a, ys, rfl, .inl (SqL.of ea), q⟩
theorem ok_cplaces {CC f : Addr} {fd : FuncData} {k : Nat} (F : Fun K "places" "Command.places" st_Command_places f fd) (T : ClsC K CC) (m_list : mg "list" = none) : FnOk P w K mg base CX0 (k + 1) f fd ["self"] (spGetL CC "own_places") := by
  refine F.ok sc_Command_places (fun vs H Q E h => ?_) (fun cdv A outer s H vs Q E hr h => ?_)
  · obtain ⟨x, dx, fs, a, ys, rfl, _⟩ := h
    rfl
  · obtain ⟨x, dx, fs, a, ys, rfl, ex, el, ea, q⟩ := h
    refine ⟨_, pss_one (ps_ret (pe_callTy (r := rListOf K) call_listOf (by rfl) m_list (by decide +kernel) (pa_cons (pe_fld (pv 0) rfl) pa_nil))), ?_⟩
    exact ⟨.ref x, rfl, x, CC, dx, fs, .ref a, rfl, ex, T.cl, T.n2, el, a, ys, rfl, .inl (SqL.of ea), q⟩
theorem ok_ccommands {CC f : Addr} {fd : FuncData} {k : Nat} (F : Fun K "commands" "Command.commands" st_Command_commands f fd) (T : ClsC K CC) (m_list : mg "list" = none) : FnOk P w K mg base CX0 (k + 1) f fd ["self"] (spGetL CC "own_commands") := by
  refine F.ok sc_Command_commands (fun vs H Q E h => ?_) (fun cdv A outer s H vs Q E hr h => ?_)
  · obtain ⟨x, dx, fs, a, ys, rfl, _⟩ := h
    rfl
  · obtain ⟨x, dx, fs, a, ys, rfl, ex, el, ea, q⟩ := h
    refine ⟨_, pss_one (ps_ret (pe_callTy (r := rListOf K) call_listOf (by rfl) m_list (by decide +kernel) (pa_cons (pe_fld (pv 0) rfl) pa_nil))), ?_⟩
    exact ⟨.ref x, rfl, x, CC, dx, fs, .ref a, rfl, ex, T.cl, T.n4, el, a, ys, rfl, .inl (SqL.of ea), q⟩
theorem ok_cgroups {CC f fC : Addr} {fd fdC : FuncData} {k : Nat} (F : Fun K "groups" "Command.groups" st_Command_groups f fd) (T : ClsC K CC) (D_copied_groups : Df K mg "copied_groups" st_copied_groups ["groups"] fC fdC) (m_list : mg "list" = none) : FnOk P w K mg base CX0 (k + 2) f fd ["self"] (spGetG CC) := by
  have G_copied_groups : FnOk P w K mg base CX0 (k + 1) fC fdC ["groups"] spCopied := ok_copied D_copied_groups.F m_list
  refine F.ok sc_Command_groups (fun vs H Q E h => ?_) (fun cdv A outer s H vs Q E hr h => ?_)
  · obtain ⟨x, dx, fs, a, as, gss, rfl, _⟩ := h
    rfl
  · obtain ⟨x, dx, fs, a, as, gss, rfl, ex, el, ea, le, l3, ha, q⟩ := h
    refine ⟨_, pss_one (ps_ret (pe_call G_copied_groups hr (by rfl) D_copied_groups.g D_copied_groups.F.kp D_copied_groups.b .nil pass0 (pa_cons (pe_fld (pv 0) rfl) pa_nil))), ?_⟩
    refine ⟨.ref x, rfl, x, CC, dx, fs, .ref a, rfl, ex, T.cl, T.n3, el, a, _, gss, rfl, ea, by rw [List.length_map]; exact le, by rw [List.length_map]; exact l3, fun i y e => ?_, q⟩
    rw [List.getElem?_map] at e
    obtain ⟨b, h1, h2⟩ := Option.map_eq_some_iff.mp e
    obtain ⟨g, h3, h4⟩ := ha i b h1
    exact ⟨b, g, h2.symm, h4, h3⟩
end
end WB

set_option Elab.async false
set_option linter.all false
set_option maxRecDepth 100000
set_option maxHeartbeats 4000000
namespace WB
open PySem PySem.Spec PyProof.Rows L2 WG
open TL (tl)
/-! ### repr of a list of instances, where the context is not named -/
def RpOk (P : Program) (w : World) (K : PySem.W.Frag) (mg : Str → Option Value) (base : Heap) (n : Nat) (H : Hp) (a : Addr) (t : Str) : Prop := ∀ X : Cx, X.prog = P → X.w = w → X.K = K → X.mg = mg → X.base = base → RpI X n H a t
def rReprM (P : Program) (w : World) (K : PySem.W.Frag) (mg : Str → Option Value) (base : Heap) (n : Nat) : List V → Hp → VK → Prop := fun xs H Q => ∃ (l : Addr) (as : List Addr) (ts : List Str), xs = [.ref l] ∧ H l = some (.lst (as.map V.ref)) ∧ ts.length = as.length ∧
  (∀ (i : Nat) (a : Addr), as[i]? = some a → ∃ t, ts[i]? = some t ∧ RpOk P w K mg base n H a t) ∧ (listText ts).length ≤ sizeLine ∧ ∀ H', Same H H' → Q (.str (listText ts)) H'
theorem call_reprM {X : Cx} {n : Nat} (hg : X.A.guards = some []) (hr : Room (n + 2) X.A) : CallR X (.builtin "repr") (rReprM X.prog X.w X.K X.mg X.base n) := by
  intro pins s σ H xs us Q I rels ask
  obtain ⟨l, as, ts, e, el, hlen, hT, hsz, q⟩ := ask
  cases as with
  | cons a r => exact call_reprIs hg hr pins s σ H xs us Q I rels ⟨l, a :: r, ts, e, el, by simp, hlen, fun i x hx => by obtain ⟨t, h1, h2⟩ := hT i x hx; exact ⟨t, h1, h2 X rfl rfl rfl rfl rfl⟩, hsz, q⟩
  | nil =>
    subst e
    obtain ⟨u, rfl, rel⟩ := vals1 rels
    cases rel
    have t0 : ts = [] := List.length_eq_zero_iff.mp hlen
    subst t0
    obtain ⟨_, its, n', rv, g⟩ := (show ObjOk _ _ H s.heap l (.lst []) from I.hok l _ el)
    cases rv
    refine call_repr_slot (T := "list") (idr := "list.__repr__") (by have := hr.un; omega) ⟨_, g, rfl⟩ F.slot_list_repr.toG ?_
    exact call_list_repr_empty ⟨_, g, rfl⟩ g rfl ⟨_, _, rfl, .str (listText []), H, I.tok _, ⟨_, rfl⟩, q H (Same.refl _)⟩
/-! ### what instances hold -/
def heldV (H : Hp) : V → List V
  | .ref a => match H a with
    | some (.ins _ _ fs) => match fs.lookup ("held" : Str) with
      | some (.ref t) => match H t with
        | some (.tup vs) => vs
        | _ => []
      | _ => []
    | _ => []
  | _ => []
theorem held_of {H : Hp} {C a : Addr} {vs : List V} (h : IsT H C a vs) : heldV H (.ref a) = vs := by
  obtain ⟨_, dx, t, e1, e2⟩ := h
  unfold heldV
  simp only [e1, held_look, e2]
/-- an instance of C, that holds at most eight things -/
def Ins (C : Addr) (H : Hp) (v : V) : Prop := ∃ a vs, v = .ref a ∧ IsT H C a vs ∧ vs.length ≤ 8
theorem Ins.same {C : Addr} {H H' : Hp} {v : V} (h : Ins C H v) (s : Same H H') : Ins C H' v := by
  obtain ⟨a, vs, e, t, l⟩ := h
  exact ⟨a, vs, e, t.same s, l⟩
theorem Ins.held {C : Addr} {H H' : Hp} {v : V} (h : Ins C H v) (s : Same H H') : heldV H' v = heldV H v := by
  obtain ⟨a, vs, rfl, t, l⟩ := h
  rw [held_of t, held_of (t.same s)]
def sh (nm : String) (H : Hp) (v : V) : Str := shw nm (heldV H v)
def tx (nm : String) (H : Hp) (xs : List V) : Str := listText (xs.map (sh nm H))
theorem tx_same {C : Addr} {nm : String} {H H' : Hp} {xs : List V} (h : ∀ x ∈ xs, Ins C H x) (s : Same H H') : tx nm H' xs = tx nm H xs := by
  unfold tx
  congr 1
  exact List.map_congr_left fun x hx => by unfold sh; rw [(h x hx).held s]
theorem textFrom_le : ∀ (ts : List Str) (k : Nat) (acc : Str) (m : Nat), (∀ t ∈ ts, t.length ≤ m) → (textFrom k acc ts).length ≤ acc.length + ts.length * (m + 2)
  | [], k, acc, m, _ => by show acc.length ≤ _; omega
  | t :: r, k, acc, m, h => by
    have ih := textFrom_le r (k + 1) (acc ++ (if k > 0 then ", " else "" : String) ++ t) m (fun x hx => h x (List.mem_cons_of_mem _ hx))
    have h1 := h t List.mem_cons_self
    have h2 : (Str.ofString (if k > 0 then ", " else "" : String)).length ≤ 2 := by
      split
      · decide +kernel
      · decide +kernel
    have e : (acc ++ (if k > 0 then ", " else "" : String) ++ t : Str).length = acc.length + (Str.ofString (if k > 0 then ", " else "" : String)).length + t.length := by
      rw [Str.length_append, Str.length_append]
    show (textFrom (k + 1) (acc ++ (if k > 0 then ", " else "" : String) ++ t) r).length ≤ _
    rw [List.length_cons, Nat.succ_mul]
    omega
theorem listText_le {ts : List Str} {m : Nat} (h : ∀ t ∈ ts, t.length ≤ m) : (listText ts).length ≤ ts.length * (m + 2) + 2 := by
  have e := textFrom_le ts 0 "[" m h
  have e2 : (Str.ofString "[").length = 1 := by decide +kernel
  have e3 : (Str.ofString "]").length = 1 := by decide +kernel
  show (textFrom 0 (Str.ofString "[") ts ++ Str.ofString "]").length ≤ _
  rw [Str.length_append]
  have e' : (textFrom 0 (Str.ofString "[") ts).length ≤ (Str.ofString "[").length + ts.length * (m + 2) := e
  omega
theorem shw_le {nm : String} {vs : List V} (h : AllFl vs) (l : vs.length ≤ 8) (hn : (Str.empty ++ Str.ofString nm).length ≤ 10) : (shw nm vs).length ≤ 70020 := by
  have l1 := cj_len h (by omega)
  have l3 : (Str.ofString ")").length = 1 := by decide +kernel
  unfold shw
  rw [Str.length_append, Str.length_append, l3]
  omega
theorem tx_le {C : Addr} {nm : String} {H : Hp} {xs : List V} (h : ∀ x ∈ xs, Ins C H x) (l : xs.length ≤ 20) (hn : (Str.empty ++ Str.ofString nm).length ≤ 10) : (tx nm H xs).length ≤ 1500000 := by
  have e := listText_le (ts := xs.map (sh nm H)) (m := 70020) (fun t ht => by
    obtain ⟨x, hx, rfl⟩ := List.mem_map.mp ht
    obtain ⟨a, vs, rfl, ti, lv⟩ := h x hx
    show (shw nm (heldV H (.ref a))).length ≤ 70020
    rw [held_of ti]
    exact shw_le ti.1 lv hn)
  rw [List.length_map] at e
  unfold tx
  have : xs.length * (70020 + 2) ≤ 20 * (70020 + 2) := Nat.mul_le_mul_right _ l
  omega
/-- an own repr, as the written part tells it -/
def RpD (P : Program) (w : World) (K : PySem.W.Frag) (mg : Str → Option Value) (base : Heap) (n : Nat) (C : Addr) (nm : String) : Prop := ∃ f fd, FnOk P w K mg base CX0 n f fd ["self"] (spRepr C nm) ∧ Binds K fd ["self"] [] ∧ PySem.W.findIn K (.ref C) "__repr__" = some (some (.ref f)) ∧ PySem.W.isFn K (.ref f) = true
theorem RpD.ok {P : Program} {w : World} {K : PySem.W.Frag} {mg : Str → Option Value} {base : Heap} {n : Nat} {C a : Addr} {nm : String} {H : Hp} {vs : List V} (r : RpD P w K mg base n C nm) (h : IsT H C a vs) (l : vs.length ≤ 8) : RpOk P w K mg base n H a (shw nm vs) := by
  rintro X rfl rfl rfl rfl rfl
  obtain ⟨f, fd, h1, h2, h3, h4⟩ := r
  obtain ⟨_, dx, t, ea, _⟩ := id h
  exact ⟨C, f, dx, fd, _, _, h1, h2, h3, h4, ea, fun H1 s1 => ⟨a, vs, rfl, h.same s1, by omega, fun H' s' => ⟨rfl, s'⟩⟩⟩
theorem refs_of {C : Addr} {H : Hp} : ∀ {xs : List V}, (∀ x ∈ xs, Ins C H x) → ∃ as : List Addr, xs = as.map V.ref
  | [], _ => ⟨[], rfl⟩
  | x :: r, h => by
    obtain ⟨a, vs, rfl, _⟩ := h x List.mem_cons_self
    obtain ⟨as, e⟩ := refs_of (xs := r) fun y hy => h y (List.mem_cons_of_mem _ hy)
    exact ⟨a :: as, by rw [e]; rfl⟩
/-- what is asked by repr of a list of such instances -/
theorem reprM_of {P : Program} {w : World} {K : PySem.W.Frag} {mg : Str → Option Value} {base : Heap} {n : Nat} {C l : Addr} {nm : String} {H : Hp} {xs : List V} {Q : VK} (r : RpD P w K mg base n C nm) (hn : (Str.empty ++ Str.ofString nm).length ≤ 10) (el : H l = some (.lst xs)) (h : ∀ x ∈ xs, Ins C H x) (le : xs.length ≤ 20) (q : ∀ H', Same H H' → Q (.str (tx nm H xs)) H') : rReprM P w K mg base n [.ref l] H Q := by
  have sl : sizeLine = 16777216 := sizeLine_eq
  obtain ⟨as, rfl⟩ := refs_of h
  have e := tx_le h le hn
  refine ⟨l, as, (as.map V.ref).map (sh nm H), rfl, el, by rw [List.length_map, List.length_map], fun i a hx => ?_, by show (tx nm H (as.map V.ref)).length ≤ _; omega, q⟩
  have hm : V.ref a ∈ as.map V.ref := List.mem_map.mpr ⟨a, List.mem_of_getElem? hx, rfl⟩
  obtain ⟨a', vs, e1, t, lv⟩ := h _ hm
  cases e1
  refine ⟨shw nm vs, ?_, r.ok t lv⟩
  rw [List.getElem?_map, List.getElem?_map, hx]
  show some (shw nm (heldV H (.ref a))) = _
  rw [held_of t]
end WB

set_option Elab.async false
set_option linter.all false
set_option maxRecDepth 100000
set_option maxHeartbeats 4000000
namespace WB
open PySem PySem.Spec PyProof.Rows L2 WG
open TL (tl)
open Builtin.Str (reprChar)
/-! ### signs of shown texts -/
def P8 (z : Str) : Prop := ∀ c ∈ tl z, c < 256
theorem P8.app {x y : Str} (h : P8 x) (k : P8 y) : P8 (x ++ y) := fun c hc => by
  rw [TL.tl_append] at hc
  rcases List.mem_append.mp hc with z | z
  · exact h c z
  · exact k c z
theorem fold_repr (q : Nat) : ∀ (l : List Nat) (acc : Array Nat), (l.foldl (fun out c => out ++ (reprChar q c).toArray) acc).toList = acc.toList ++ l.flatMap (reprChar q)
  | [], acc => by simp
  | c :: r, acc => by
    rw [List.foldl_cons, fold_repr q r, List.flatMap_cons]
    simp
theorem tl_repr (x : Str) : tl (reprText x) = reprQuote x :: ((tl x).flatMap (reprChar (reprQuote x)) ++ [reprQuote x]) := by
  unfold reprText
  show ((x.cps.foldl (fun out c => out ++ (reprChar (reprQuote x) c).toArray) #[reprQuote x]).push (reprQuote x)).toList = _
  rw [Array.toList_push, ← Array.foldl_toList, fold_repr]
  rfl
theorem quote_cases (x : Str) : reprQuote x = 34 ∨ reprQuote x = 39 := by
  unfold reprQuote
  split
  · exact .inl rfl
  · exact .inr rfl
theorem char8 : ∀ q ∈ [34, 39], ∀ c, c < 256 → ∀ d ∈ reprChar q c, d < 256 := by decide +kernel
theorem repr8 {z : Str} (h : P8 z) : P8 (reprText z) := fun c hc => by
  rw [tl_repr] at hc
  have q : reprQuote z ∈ [34, 39] := by rcases quote_cases z with q | q <;> rw [q] <;> decide
  have q8 : reprQuote z < 256 := by rcases quote_cases z with q | q <;> rw [q] <;> decide
  rcases List.mem_cons.mp hc with z1 | z1
  · rw [z1]
    exact q8
  · rcases List.mem_append.mp z1 with z2 | z2
    · obtain ⟨d, hd, hx⟩ := List.mem_flatMap.mp z2
      exact char8 _ q d (h d hd) c hx
    · rw [List.mem_singleton.mp z2]
      exact q8
theorem rp8 {v : V} (h : Fl v) : P8 (rp v) := by
  cases h with
  | non => show P8 (Str.ofString "None"); intro c hc; revert c; decide +kernel
  | bl b => cases b <;> (intro c hc; revert c; decide +kernel)
  | str h => exact repr8 h.pl
theorem cj8 {vs : List V} (h : AllFl vs) : P8 (cj vs) := fun c hc => by
  unfold cj at hc
  rw [TL.join_eq, TL.tl_join] at hc
  rcases mem_joinL _ _ c hc with h1 | ⟨p, hp, h1⟩
  · exact (by decide +kernel : ∀ c ∈ tl (Str.ofString ", "), c < 256) c h1
  · obtain ⟨x, hx, rfl⟩ := List.mem_map.mp hp
    obtain ⟨v, hv, rfl⟩ := List.mem_map.mp hx
    exact rp8 (h v hv) c h1
theorem shw8 {nm : String} {vs : List V} (hn : ∀ c ∈ tl (Str.ofString nm), c < 256) (h : AllFl vs) : P8 (shw nm vs) := by
  unfold shw
  exact P8.app (P8.app (P8.app (fun c hc => by cases hc) hn) (cj8 h)) (by intro c hc; revert c; decide +kernel)
theorem textFrom8 : ∀ (ts : List Str) (k : Nat) (acc : Str), P8 acc → (∀ t ∈ ts, P8 t) → P8 (textFrom k acc ts)
  | [], k, acc, h, _ => h
  | t :: r, k, acc, h, ht => by
    have hs : P8 (Str.ofString (if k > 0 then ", " else "" : String)) := by
      split
      · intro c hc; revert c; decide +kernel
      · intro c hc; revert c; decide +kernel
    exact textFrom8 r (k + 1) _ ((h.app hs).app (ht t List.mem_cons_self)) (fun x hx => ht x (List.mem_cons_of_mem _ hx))
theorem tx8 {C : Addr} {nm : String} {H : Hp} {xs : List V} (hn : ∀ c ∈ tl (Str.ofString nm), c < 256) (h : ∀ x ∈ xs, Ins C H x) : P8 (tx nm H xs) := by
  refine P8.app (x := textFrom 0 (Str.ofString "[") (xs.map (sh nm H))) (y := Str.ofString "]") (textFrom8 _ 0 _ (by intro c hc; revert c; decide +kernel) fun t ht => ?_) (by intro c hc; revert c; decide +kernel)
  obtain ⟨x, hx, rfl⟩ := List.mem_map.mp ht
  obtain ⟨a, vs, rfl, ti, lv⟩ := h x hx
  show P8 (shw nm (heldV H (.ref a)))
  rw [held_of ti]
  exact shw8 hn ti.1
/-! ### data in new lists -/
mutual
inductive DN (H0 H : Hp) : V → PyData → Prop
  | str {z : Str} (h : P8 z) : DN H0 H (.str z) (.str z)
  | lst {a : Addr} {xs : List V} {ds : List PyData} (n : H0 a = none) (e : H a = some (.lst xs)) (h : DNs H0 H xs ds) : DN H0 H (.ref a) (.list ds)
inductive DNs (H0 H : Hp) : List V → List PyData → Prop
  | nil : DNs H0 H [] []
  | cons {v : V} {vs : List V} {d : PyData} {ds : List PyData} (h : DN H0 H v d) (t : DNs H0 H vs ds) : DNs H0 H (v :: vs) (d :: ds)
end
section
variable {K : PySem.W.Frag} {H0 H1 H H' : Hp}
mutual
theorem DN.dp : ∀ {v : V} {d : PyData}, DN H0 H v d → Dp K H v d
  | _, _, .str _ => .str _
  | _, _, .lst n e h => .lst (SqL.of e) (DNs.dp h)
theorem DNs.dp : ∀ {vs : List V} {ds : List PyData}, DNs H0 H vs ds → DpAll K H vs ds
  | _, _, .nil => .nil
  | _, _, .cons h t => .cons (DN.dp h) (DNs.dp t)
end
mutual
theorem DN.keep (k : ∀ b o, H0 b = none → H b = some o → H' b = some o) : ∀ {v : V} {d : PyData}, DN H0 H v d → DN H0 H' v d
  | _, _, .str h => .str h
  | _, _, .lst n e h => .lst n (k _ _ n e) (DNs.keep k h)
theorem DNs.keep (k : ∀ b o, H0 b = none → H b = some o → H' b = some o) : ∀ {vs : List V} {ds : List PyData}, DNs H0 H vs ds → DNs H0 H' vs ds
  | _, _, .nil => .nil
  | _, _, .cons h t => .cons (DN.keep k h) (DNs.keep k t)
end
mutual
theorem DN.base (k : ∀ b, H1 b = none → H0 b = none) : ∀ {v : V} {d : PyData}, DN H1 H v d → DN H0 H v d
  | _, _, .str h => .str h
  | _, _, .lst n e h => .lst (k _ n) e (DNs.base k h)
theorem DNs.base (k : ∀ b, H1 b = none → H0 b = none) : ∀ {vs : List V} {ds : List PyData}, DNs H1 H vs ds → DNs H0 H vs ds
  | _, _, .nil => .nil
  | _, _, .cons h t => .cons (DN.base k h) (DNs.base k t)
end
mutual
theorem DN.lay : ∀ {v : V} {d : PyData}, DN H0 H v d → d.canLay0 = true
  | _, _, .str h => by simp [PyData.canLay0, strOk_of h]
  | _, _, .lst n e h => by
    have := DNs.lay h
    simp [PyData.canLay0, this]
theorem DNs.lay : ∀ {vs : List V} {ds : List PyData}, DNs H0 H vs ds → PyData.canLayAll0 ds = true
  | _, _, .nil => by simp [PyData.canLayAll0]
  | _, _, .cons h t => by
    have h1 := DN.lay h
    have h2 := DNs.lay t
    simp [PyData.canLayAll0, h1, h2]
end
theorem DNs.app {vs ws : List V} {ds es : List PyData} (h : DNs H0 H vs ds) (k : DNs H0 H ws es) : DNs H0 H (vs ++ ws) (ds ++ es) := by
  cases h with
  | nil => exact k
  | cons h t => exact .cons h (DNs.app t k)
end
end WB

set_option Elab.async false
set_option linter.all false
set_option maxRecDepth 100000
set_option maxHeartbeats 4000000
namespace WB
open PySem PySem.Spec PyProof.Rows L2 WG
open TL (tl)
abbrev st_below : Stmt := topS 62
theorem sc_below : FnScope ["_law_command"] ["_law_command"] (defScope st_below) := ⟨rfl, rfl, rfl, by decide +kernel, rfl, by decide +kernel, by decide +kernel⟩
abbrev st_asked : Stmt := topS 64
theorem sc_asked : FnScope ["_law_command"] ["_law_command"] (defScope st_asked) := ⟨rfl, rfl, rfl, by decide +kernel, rfl, by decide +kernel, by decide +kernel⟩
abbrev st_told : Stmt := topS 65
theorem sc_told : FnScope ["_law_command", "_law_found", "_law_one", "_law_below_here"] ["_law_command"] (defScope st_told) := ⟨rfl, rfl, rfl, by decide +kernel, rfl, by decide +kernel, by decide +kernel⟩
section
variable {P : Program} {w : World} {K : PySem.W.Frag} {mg : Str → Option Value} {base : Heap}
def MG (P : Program) (w : World) (K : PySem.W.Frag) (mg : Str → Option Value) (base : Heap) (n : Nat) (C : Addr) (m : Str) (sp : Sp) : Prop := ∃ f fd, Meth K C m f ∧ FnOk P w K mg base CX0 n f fd ["self"] sp ∧ Binds K fd ["self"] []
structure CmdM (P : Program) (w : World) (K : PySem.W.Frag) (mg : Str → Option Value) (base : Heap) (n : Nat) (CO CP CC : Addr) : Prop where
  T : ClsC K CC
  name : MG P w K mg base n CC "name" (spGetV CC "own_name")
  about : MG P w K mg base n CC "about" (spGetV CC "own_about")
  options : MG P w K mg base n CC "options" (spGetL CC "own_options")
  places : MG P w K mg base n CC "places" (spGetL CC "own_places")
  commands : MG P w K mg base n CC "commands" (spGetL CC "own_commands")
  groups : MG P w K mg base n CC "groups" (spGetG CC)
  ro : RpD P w K mg base n CO "Option("
  rp : RpD P w K mg base n CP "Place("
theorem nmO : (Str.empty ++ Str.ofString "Option(").length ≤ 10 := by decide +kernel
theorem nmP : (Str.empty ++ Str.ofString "Place(").length ≤ 10 := by decide +kernel
/-- a command beneath: what is told of it -/
def Bl (CO CC : Addr) (H : Hp) (x : Addr) (n : Str) (os : List V) (ab : Str) : Prop := ∃ dx lo lp lg lc, H x = some (.ins CC dx (cmdF (.str n) lo lp lg lc (.str ab))) ∧ H lo = some (.lst os) ∧ (∀ o ∈ os, Ins CO H o) ∧ os.length ≤ 20
def spBelow (CO CC : Addr) : Sp := fun xs H Q _ => ∃ (x : Addr) (n : Str) (os : List V) (ab : Str), xs = [.ref x] ∧ Bl CO CC H x n os ab ∧ ∀ H' l, Same H H' → H l = none → H' l = some (.lst [.str n, .str (tx "Option(" H os), .str ab]) → Q (.ref l) H'
theorem ok_below {CO CP CC f : Addr} {fd : FuncData} {k : Nat} (F : Fun K "_law_below" "_law_below" st_below f fd) (M : CmdM P w K mg base (k + 2) CO CP CC) (m_repr : mg "repr" = none) : GOk P w K mg base CX0 (k + 5) f fd ["_law_command"] (spBelow CO CC) := by
  obtain ⟨f_name, fd_name, m_name, G_name, b_name⟩ := M.name
  obtain ⟨f_about, fd_about, m_about, G_about, b_about⟩ := M.about
  obtain ⟨f_options, fd_options, m_options, G_options, b_options⟩ := M.options
  refine gfun_ok F sc_below (fun vs H Q E h => ?_) (fun cdv A outer s H vs Q E hgd hr h => ?_)
  · obtain ⟨x, n, os, ab, rfl, _⟩ := h
    rfl
  · obtain ⟨x, n, os, ab, rfl, ⟨dx, lo, lp, lg, lc, ex, eo, hi, le⟩, q⟩ := h
    refine ⟨_, pss_one (ps_ret (pe_lst (pa_cons (pe_meth0 (pv 0) M.T.cl m_name G_name (hr.mono (by omega)) b_name .nil pass0) (pa_cons (pe_callB (r := rReprM P w K mg base (k + 2)) (call_reprM hgd (hr.mono (by omega))) (by rfl) m_repr (by decide +kernel) (pa_cons (pe_meth0 (pv 0) M.T.cl m_options G_options (hr.mono (by omega)) b_options .nil pass0) pa_nil)) (pa_cons (pe_meth0 (pv 0) M.T.cl m_about G_about (hr.mono (by omega)) b_about .nil pass0) pa_nil))))), ?_⟩
    refine ⟨.ref x, rfl, x, dx, _, rfl, ex, rfl, x, dx, _, .str n, rfl, ex, rfl, .ref x, rfl, x, dx, _, rfl, ex, rfl, x, dx, _, lo, os, rfl, ex, rfl, eo, fun l nl => ?_⟩
    have s1 := same_upd (o := .lst os) nl
    delta tNil
    show rReprM P w K mg base (k + 2) [.ref l] _ _
    refine reprM_of M.ro nmO upd_same (fun o ho => (hi o ho).same s1) le (fun H2 s2 => ?_)
    rw [tx_same hi s1]
    have ex2 := s2 _ _ (s1 _ _ ex)
    refine ⟨.ref x, rfl, x, dx, _, rfl, ex2, rfl, x, dx, _, .str ab, rfl, ex2, rfl, by show 3 ≤ sizeLine; decide, fun r nr => ?_⟩
    refine q _ r ((s1.trans s2).trans (same_upd nr)) ?_ upd_same
    cases e : H r with
    | none => rfl
    | some o => rw [s2 _ _ (s1 _ _ e)] at nr; cases nr
def spAsked (CC : Addr) : Sp := fun xs H Q _ => ∃ (x dx lo lp lg lc : Addr) (v0 : V) (os ps : List V) (as : List Addr) (gss : List (List V)) (cs : List V) (v5 : V), xs = [.ref x] ∧ Cm CC H x dx lo lp lg lc v0 os ps as gss cs v5 ∧ as.length ≤ 1000 ∧
  ∀ H' r l1 l2 l3 l4, Same H H' → H r = none → H' r = some (.lst [.ref l1, .ref l2, .ref l3, .ref l4]) → (H l1 = none ∧ H' l1 = some (.lst os)) → (H l2 = none ∧ H' l2 = some (.lst ps)) → GL H H' l3 gss → (H l4 = none ∧ H' l4 = some (.lst cs)) → [r, l1, l2, l3, l4].Nodup → Q (.ref r) H'
theorem fresh_of {H H' : Hp} {r : Addr} (s : Same H H') (n : H' r = none) : H r = none := by
  cases e : H r with
  | none => rfl
  | some o => rw [s _ _ e] at n; cases n
theorem ok_asked {CO CP CC f : Addr} {fd : FuncData} {k : Nat} (F : Fun K "_law_asked" "_law_asked" st_asked f fd) (M : CmdM P w K mg base (k + 2) CO CP CC) : FnOk P w K mg base CX0 (k + 3) f fd ["_law_command"] (spAsked CC) := by
  obtain ⟨f_options, fd_options, m_options, G_options, b_options⟩ := M.options
  obtain ⟨f_places, fd_places, m_places, G_places, b_places⟩ := M.places
  obtain ⟨f_commands, fd_commands, m_commands, G_commands, b_commands⟩ := M.commands
  obtain ⟨f_groups, fd_groups, m_groups, G_groups, b_groups⟩ := M.groups
  refine F.ok sc_asked (fun vs H Q E h => ?_) (fun cdv A outer s H vs Q E hr h => ?_)
  · obtain ⟨x, dx, lo, lp, lg, lc, v0, os, ps, as, gss, cs, v5, rfl, _⟩ := h
    rfl
  · obtain ⟨x, dx, lo, lp, lg, lc, v0, os, ps, as, gss, cs, v5, rfl, cm, la, q⟩ := h
    refine ⟨_, pss_one (ps_ret (pe_lst (pa_cons (pe_meth0 (pv 0) M.T.cl m_options G_options (hr.mono (by omega)) b_options .nil pass0) (pa_cons (pe_meth0 (pv 0) M.T.cl m_places G_places (hr.mono (by omega)) b_places .nil pass0) (pa_cons (pe_meth0 (pv 0) M.T.cl m_groups G_groups (hr.mono (by omega)) b_groups .nil pass0) (pa_cons (pe_meth0 (pv 0) M.T.cl m_commands G_commands (hr.mono (by omega)) b_commands .nil pass0) pa_nil)))))), ?_⟩
    refine ⟨.ref x, rfl, x, dx, _, rfl, cm.ex, rfl, x, dx, _, lo, os, rfl, cm.ex, rfl, cm.o, fun l1 n1 => ?_⟩
    have s1 := same_upd (o := .lst os) n1
    have e1 : (upd H l1 (.lst os)) l1 = some (.lst os) := upd_same
    revert s1 e1
    generalize upd H l1 (.lst os) = H1
    intro s1 e1
    have cm1 := cm.same s1
    refine ⟨.ref x, rfl, x, dx, _, rfl, cm1.ex, rfl, x, dx, _, lp, ps, rfl, cm1.ex, rfl, cm1.p, fun l2 n2 => ?_⟩
    have s2 := same_upd (o := .lst ps) n2
    have e2 : (upd H1 l2 (.lst ps)) l2 = some (.lst ps) := upd_same
    revert s2 e2
    generalize upd H1 l2 (.lst ps) = H2
    intro s2 e2
    have cm2 := cm1.same s2
    refine ⟨.ref x, rfl, x, dx, _, rfl, cm2.ex, rfl, x, dx, _, lg, as, gss, rfl, cm2.ex, rfl, cm2.g, cm2.gl, la, cm2.ge, fun H3 l3 s3 g3 => ?_⟩
    have cm3 := cm2.same s3
    refine ⟨.ref x, rfl, x, dx, _, rfl, cm3.ex, rfl, x, dx, _, lc, cs, rfl, cm3.ex, rfl, cm3.c, fun l4 n4 => ?_⟩
    have s4 := same_upd (o := .lst cs) n4
    have e4 : (upd H3 l4 (.lst cs)) l4 = some (.lst cs) := upd_same
    revert s4 e4
    generalize upd H3 l4 (.lst cs) = H4
    intro s4 e4
    refine ⟨by show 4 ≤ sizeLine; decide, fun r nr => ?_⟩
    have s5 := same_upd (o := .lst [.ref l1, .ref l2, .ref l3, .ref l4]) nr
    have S2 := s1.trans s2
    have S3 := S2.trans s3
    have S4 := S3.trans s4
    have g3' : GL H H3 l3 gss := g3.base (fun b n => fresh_of S2 n)
    obtain ⟨n3, as3, e3, _⟩ := id g3
    have x1 := s4 _ _ (s3 _ _ (s2 _ _ e1))
    have x2 := s4 _ _ (s3 _ _ e2)
    have x3 := s4 _ _ e3
    refine q _ r l1 l2 l3 l4 (S4.trans s5) (fresh_of S4 nr) upd_same ⟨n1, s5 _ _ x1⟩ ⟨fresh_of s1 n2, s5 _ _ x2⟩ ?_ ⟨fresh_of S3 n4, s5 _ _ e4⟩ ?_
    · obtain ⟨m1, as', m2, m3, m4, m5⟩ := g3'
      exact ⟨m1, as', s5 _ _ (s4 _ _ m2), m3, fun i a e => by obtain ⟨k1, k2, g, k3, k4⟩ := m4 i a e; exact ⟨k1, k2, g, k3, s5 _ _ (s4 _ _ k4)⟩, m5⟩
    · have d12 : l1 ≠ l2 := ne_of_none e1 n2
      have d13 : l1 ≠ l3 := ne_of_none (s2 _ _ e1) n3
      have d23 : l2 ≠ l3 := ne_of_none e2 n3
      have d14 : l1 ≠ l4 := ne_of_none (s3 _ _ (s2 _ _ e1)) n4
      have d24 : l2 ≠ l4 := ne_of_none (s3 _ _ e2) n4
      have d34 : l3 ≠ l4 := ne_of_none e3 n4
      have r1 : r ≠ l1 := (ne_of_none x1 nr).symm
      have r2 : r ≠ l2 := (ne_of_none x2 nr).symm
      have r3 : r ≠ l3 := (ne_of_none x3 nr).symm
      have r4 : r ≠ l4 := (ne_of_none e4 nr).symm
      simp only [List.nodup_cons, List.mem_cons, List.not_mem_nil, or_false, not_or, not_false_eq_true, List.nodup_nil, and_true]
      exact ⟨⟨r1, r2, r3, r4⟩, ⟨d12, d13, d14⟩, ⟨d23, d24⟩, d34⟩
end
end WB

set_option Elab.async false
set_option linter.all false
set_option maxRecDepth 100000
set_option maxHeartbeats 4000000
namespace WB
open PySem PySem.Spec PyProof.Rows L2 WG
open TL (tl)
/-! ### what is told of a command, as data -/
def bD (b : Str × Str × Str) : PyData := .list [.str b.1, .str b.2.1, .str b.2.2]
def toldD (t1 t2 : Str) (gss : List (List V)) (bs : List (Str × Str × Str)) : PyData := .list [.str t1, .str t2, .list (gss.map fun g => .list (g.map dV)), .list (bs.map bD)]
def GS (gss : List (List V)) : Prop := ∀ g ∈ gss, ∀ v ∈ g, ∃ z, v = .str z ∧ P8 z
def BlAll (CO CC : Addr) (H : Hp) (cs : List V) (bs : List (Str × Str × Str)) : Prop := cs.length = bs.length ∧ ∀ (i : Nat) (c : V), cs[i]? = some c → ∃ x n os ab, c = .ref x ∧ Bl CO CC H x n os ab ∧ bs[i]? = some (n, tx "Option(" H os, ab) ∧ P8 n ∧ P8 ab
theorem Bl.same {CO CC : Addr} {H H' : Hp} {x : Addr} {n ab : Str} {os : List V} (h : Bl CO CC H x n os ab) (s : Same H H') : Bl CO CC H' x n os ab := by
  obtain ⟨dx, lo, lp, lg, lc, e1, e2, h3, h4⟩ := h
  exact ⟨dx, lo, lp, lg, lc, s _ _ e1, s _ _ e2, fun o ho => (h3 o ho).same s, h4⟩
theorem Bl.tx {CO CC : Addr} {H H' : Hp} {x : Addr} {n ab : Str} {os : List V} (h : Bl CO CC H x n os ab) (s : Same H H') : WB.tx "Option(" H' os = WB.tx "Option(" H os := by
  obtain ⟨dx, lo, lp, lg, lc, e1, e2, h3, h4⟩ := h
  exact tx_same h3 s
theorem Bl.p8 {CO CC : Addr} {H : Hp} {x : Addr} {n ab : Str} {os : List V} (h : Bl CO CC H x n os ab) : P8 (WB.tx "Option(" H os) := by
  obtain ⟨dx, lo, lp, lg, lc, e1, e2, h3, h4⟩ := h
  exact tx8 (by decide +kernel) h3
theorem BlAll.same {CO CC : Addr} {H H' : Hp} {cs : List V} {bs : List (Str × Str × Str)} (h : BlAll CO CC H cs bs) (s : Same H H') : BlAll CO CC H' cs bs := by
  refine ⟨h.1, fun i c e => ?_⟩
  obtain ⟨x, n, os, ab, h1, h2, h3, h4, h5⟩ := h.2 i c e
  exact ⟨x, n, os, ab, h1, h2.same s, by rw [h2.tx s]; exact h3, h4, h5⟩
theorem dns_strs {H0 H : Hp} : ∀ {g : List V}, (∀ v ∈ g, ∃ z, v = .str z ∧ P8 z) → DNs H0 H g (g.map dV)
  | [], _ => .nil
  | v :: r, h => by
    obtain ⟨z, rfl, hz⟩ := h v List.mem_cons_self
    exact .cons (.str hz) (dns_strs fun x hx => h x (List.mem_cons_of_mem _ hx))
theorem dns_refs {H0 H : Hp} : ∀ {as : List Addr} {gss : List (List V)}, as.length = gss.length → (∀ (i : Nat) (a : Addr), as[i]? = some a → H0 a = none ∧ ∃ g, gss[i]? = some g ∧ H a = some (.lst g)) → GS gss → DNs H0 H (as.map V.ref) (gss.map fun g => .list (g.map dV))
  | [], [], _, _, _ => .nil
  | a :: r, g :: t, hl, h, hg => by
    obtain ⟨n, g', e1, e2⟩ := h 0 a rfl
    cases e1
    exact .cons (.lst n e2 (dns_strs (hg g List.mem_cons_self))) (dns_refs (by simpa using hl) (fun i x e => h (i + 1) x e) fun y hy => hg y (List.mem_cons_of_mem _ hy))
theorem GL.dn {H0 H : Hp} {l : Addr} {gss : List (List V)} (h : GL H0 H l gss) (hg : GS gss) : DN H0 H (.ref l) (.list (gss.map fun g => .list (g.map dV))) := by
  obtain ⟨n, as, e, le, ha, nd⟩ := h
  exact .lst n e (dns_refs le (fun i a e => by obtain ⟨h1, _, h2⟩ := ha i a e; exact ⟨h1, h2⟩) hg)
section
variable {P : Program} {w : World} {K : PySem.W.Frag} {mg : Str → Option Value} {base : Heap}
def spTold (CO CP CC : Addr) : Sp := fun xs H Q _ => ∃ (x dx lo lp lg lc : Addr) (v0 : V) (os ps : List V) (as : List Addr) (gss : List (List V)) (cs : List V) (v5 : V) (bs : List (Str × Str × Str)), xs = [.ref x] ∧ Cm CC H x dx lo lp lg lc v0 os ps as gss cs v5 ∧ as.length ≤ 1000 ∧ cs.length ≤ 1000 ∧
  (∀ o ∈ os, Ins CO H o) ∧ os.length ≤ 20 ∧ (∀ o ∈ ps, Ins CP H o) ∧ ps.length ≤ 20 ∧ GS gss ∧ BlAll CO CC H cs bs ∧ ∀ H' r, Same H H' → DN H H' (.ref r) (toldD (tx "Option(" H os) (tx "Place(" H ps) gss bs) → Q (.ref r) H'
theorem ok_told {CO CP CC f fA fB : Addr} {fd fdA fdB : FuncData} {k : Nat} (F : Fun K "_law_told" "_law_told" st_told f fd) (M : CmdM P w K mg base (k + 2) CO CP CC) (D_asked : Df K mg "_law_asked" st_asked ["_law_command"] fA fdA) (D_below : Df K mg "_law_below" st_below ["_law_command"] fB fdB)
    (m_repr : mg "repr" = none) (m_isinstance : mg "isinstance" = none) (m_list : mg "list" = none) : GOk P w K mg base CX0 (k + 6) f fd ["_law_command"] (spTold CO CP CC) := by
  have G_asked : FnOk P w K mg base CX0 (k + 5) fA fdA ["_law_command"] (spAsked CC) := (ok_asked (k := k) D_asked.F M).mono (by omega)
  have G_below : GOk P w K mg base CX0 (k + 5) fB fdB ["_law_command"] (spBelow CO CC) := ok_below D_below.F M m_repr
  refine gfun_ok F sc_told (fun vs H Q E h => ?_) (fun cdv A outer s H vs Q E hgd hr h => ?_)
  · obtain ⟨x, dx, lo, lp, lg, lc, v0, os, ps, as, gss, cs, v5, bs, rfl, _⟩ := h
    rfl
  · obtain ⟨x, dx, lo, lp, lg, lc, v0, os, ps, as, gss, cs, v5, bs, rfl, cm, la, lcs, hO, leO, hP, leP, hG, hB, q⟩ := h
    have sl : sizeLine = 16777216 := sizeLine_eq
    refine ⟨_, PSs.nox (pss_cons (ps_set (i := 1) sc_told.nd rfl (.inl rfl) (pe_call G_asked hr (by rfl) D_asked.g D_asked.F.kp D_asked.b .nil pass0 (pa_cons (pv 0) pa_nil)))
      (pss_cons (ps_if (pt_cmpR (op_neD hr.units) (pe_lc (own := [("_law_one", 2)]) (g := gName 2) rfl sc_told.nd (pi_list (pv 1)) (blkOk_by (N := ["_law_command", "_law_found", "_law_one", "_law_below_here"]) (sc := defScope st_told) (by decide +kernel)) (fun _ _ _ _ _ => (pg_name (i := 2) sc_told.nd rfl (Or.inl rfl))) (fun _ _ _ _ _ => pts_one (pt_not (pt_val (pe_callB (r := rIsi K) call_isi (by rfl) m_isinstance (by decide +kernel) (pa_cons (pv 2) (pa_cons (pe_bltn (v := .ty "list") (by rfl) m_list (by decide +kernel) rfl) pa_nil)))))) (fun _ _ _ _ _ => (pv 2))) (pe_lst pa_nil) (nomark _)) (pss_one (ps_ret (pe_lst pa_nil))) pss_nil)
      (pss_one (ps_ret (pe_lst (pa_cons (pe_callB (r := rReprM P w K mg base (k + 2)) (call_reprM hgd (hr.mono (by omega))) (by rfl) m_repr (by decide +kernel) (pa_cons (pe_ix (r := rIxL K) ix_list (pv 1) pe_int (fun _ _ => rfl)) pa_nil)) (pa_cons (pe_callB (r := rReprM P w K mg base (k + 2)) (call_reprM hgd (hr.mono (by omega))) (by rfl) m_repr (by decide +kernel) (pa_cons (pe_ix (r := rIxL K) ix_list (pv 1) pe_int (fun _ _ => rfl)) pa_nil)) (pa_cons (pe_ix ix_list (pv 1) pe_int (fun _ _ => rfl)) (pa_cons (pe_lc (own := [("_law_below_here", 3)]) (g := gName 3) (tt := tYes) rfl sc_told.nd (pi_list (pe_ix ix_list (pv 1) pe_int (fun _ _ => rfl))) (blkOk_by (N := ["_law_command", "_law_found", "_law_one", "_law_below_here"]) (sc := defScope st_told) (by decide +kernel)) (fun _ _ _ _ _ => (pg_name (i := 3) sc_told.nd rfl (Or.inl rfl))) (fun _ _ _ _ _ => pts_nil) (fun _ _ _ _ _ => (pe_callG G_below hgd hr (by rfl) D_below.g D_below.F.kp D_below.b pass0 (pa_cons (pv 3) pa_nil)))) pa_nil))))))))), ?_⟩
    refine ⟨.ref x, rfl, x, dx, lo, lp, lg, lc, v0, os, ps, as, gss, cs, v5, rfl, cm, la, fun H1 r l1 l2 l3 l4 s1 nr er ⟨n1, e1⟩ ⟨n2, e2⟩ g3 ⟨n4, e4⟩ nd => ?_⟩
    obtain ⟨n3, as3, e3, _⟩ := id g3
    refine ⟨.ref r, rfl, r, rfl, ⟨_, SqL.of er⟩, fun D nD => ?_⟩
    refine lc_list (K := K) (a := r) (xs := [.ref l1, .ref l2, .ref l3, .ref l4]) (fun i Hc => Same H1 Hc ∧ Hc D = some (.lst [])) ⟨same_upd nD, upd_same⟩ (fun i Hc _ h => SqL.of (h.1 _ _ er)) (fun i v Hc hv ⟨sc, eD⟩ => ?_) (fun H2 ⟨s2, e2'⟩ => ?_)
    · obtain ⟨a, ys, rfl, ea⟩ : ∃ a ys, v = .ref a ∧ Hc a = some (.lst ys) := by
        have hm := List.mem_of_getElem? hv
        simp only [List.mem_cons, List.not_mem_nil, or_false] at hm
        rcases hm with rfl | rfl | rfl | rfl
        · exact ⟨_, _, rfl, sc _ _ e1⟩
        · exact ⟨_, _, rfl, sc _ _ e2⟩
        · exact ⟨_, _, rfl, sc _ _ e3⟩
        · exact ⟨_, _, rfl, sc _ _ e4⟩
      exact ⟨rfl, .ref a, rfl, .ref a, _, _, _, true, rfl, ClsV.ty "list", TyX.base (.lst ea), kit_ty (show kitB "list" "list" = some true from by decide +kernel), _, rfl, sc, eD⟩
    refine ⟨by show 0 ≤ sizeLine; decide, fun l0 n0 => ?_⟩
    have s3 := s2.trans (same_upd (o := .lst []) n0)
    refine ⟨.list [], .list [], .lst (SqL.of (same_upd n0 _ _ e2')) .nil, .lst (SqL.of upd_same) .nil, by decide +kernel, by decide +kernel, false, congrArg V.bl (by simp [PyData.eqv, PyData.eqvAll]), ?_⟩
    revert s3
    generalize upd H2 l0 (.lst []) = H3
    intro s3
    have S3 := s1.trans s3
    refine ⟨.ref r, rfl, r, _, 0, .ref l1, rfl, rfl, SqL.of (s3 _ _ er), rfl, ?_⟩
    delta tNil
    show rReprM P w K mg base (k + 2) [.ref l1] _ _
    refine reprM_of M.ro nmO (s3 _ _ e1) (fun o ho => (hO o ho).same S3) leO (fun H4 s4 => ?_)
    have S4 := S3.trans s4
    rw [tx_same hO S3]
    refine ⟨.ref r, rfl, r, _, 1, .ref l2, rfl, rfl, SqL.of (s4 _ _ (s3 _ _ er)), rfl, ?_⟩
    show rReprM P w K mg base (k + 2) [.ref l2] _ _
    refine reprM_of M.rp nmP (s4 _ _ (s3 _ _ e2)) (fun o ho => (hP o ho).same S4) leP (fun H5 s5 => ?_)
    have S5 := S4.trans s5
    have s15 := (s3.trans s4).trans s5
    rw [tx_same hP S4]
    refine ⟨.ref r, rfl, r, _, 2, .ref l3, rfl, rfl, SqL.of (s15 _ _ er), rfl, ?_⟩
    refine ⟨.ref r, rfl, r, _, 3, .ref l4, rfl, rfl, SqL.of (s15 _ _ er), rfl, l4, rfl, ⟨_, SqL.of (s15 _ _ e4)⟩, fun D2 nD2 => ?_⟩
    have eb0 : (upd H5 D2 (.lst [])) D2 = some (.lst []) := upd_same
    refine lc_list (K := K) (a := l4) (xs := cs) (fun i Hc => Same H5 Hc ∧ ∃ rs : List Addr, Hc D2 = some (.lst (rs.map V.ref)) ∧ rs.length = min i cs.length ∧ DNs (upd H5 D2 (.lst [])) Hc (rs.map V.ref) ((bs.take i).map bD)) ⟨same_upd nD2, [], upd_same, by simp, .nil⟩ (fun i Hc _ h => SqL.of (h.1 _ _ (s15 _ _ e4))) (fun i c Hc hc ⟨sc, rs, eD, lr, dn⟩ => ?_) (fun H6 ⟨s6, rs, eD, lr, dn⟩ => ?_)
    · obtain ⟨y, n, os', ab, rfl, bl, eb, pn, pa⟩ := (hB.same (S5.trans sc)).2 i c hc
      have hi : i < cs.length := (List.getElem?_eq_some_iff.mp hc).1
      refine ⟨rfl, .ref y, rfl, y, n, os', ab, rfl, bl, fun Hd t sd nt et => ?_⟩
      have ntD : t ≠ D2 := (ne_of_none eD nt).symm
      have nt0 : (upd H5 D2 (.lst [])) t = none := by
        rw [upd_ne ntD]
        exact fresh_of sc nt
      refine ⟨_, sd _ _ eD, by rw [List.length_map]; omega, fun b o e => ?_, rs ++ [t], ?_, by rw [List.length_append, lr]; show _ + 1 = _; omega, ?_⟩
      · rw [upd_ne (ne_of_none e nD2)]
        exact sd _ _ (sc b o e)
      · rw [upd_same, List.map_append]
        rfl
      · have kp : ∀ {Hy : Hp} b o, (upd H5 D2 (.lst [])) b = none → Hy b = some o → (upd Hy D2 (.lst (rs.map V.ref ++ [V.ref t]))) b = some o := fun {Hy} b o nb e => by
          rw [upd_ne (fun z => by rw [z, upd_same] at nb; cases nb)]
          exact e
        rw [List.map_append, List.take_add_one, eb, List.map_append]
        exact DNs.app ((dn.keep fun b o nb e => sd _ _ e).keep kp) (.cons (.lst nt0 (by rw [upd_ne ntD]; exact et) (.cons (.str pn) (.cons (.str bl.p8) (.cons (.str pa) .nil)))) .nil)
    refine ⟨by show 4 ≤ sizeLine; decide, fun rr nrr => ?_⟩
    have s7 := same_upd (o := .lst [.str (tx "Option(" H os), .str (tx "Place(" H ps), .ref l3, .ref D2]) nrr
    have S7 := (S5.trans s6).trans s7
    refine q _ rr S7 (.lst (fresh_of (S5.trans s6) nrr) upd_same (.cons (.str (tx8 (by decide +kernel) hO)) (.cons (.str (tx8 (by decide +kernel) hP)) (.cons ((g3.dn hG).keep fun b o _ e => s7 _ _ (s6 _ _ (s15 _ _ e))) (.cons (.lst (fresh_of S5 nD2) (s7 _ _ eD) ?_) .nil)))))
    rw [hB.1, List.take_length] at dn
    exact (dn.base fun b n => fresh_of (S5.trans (same_upd nD2)) n).keep fun b o _ e => s7 _ _ e
end
end WB

set_option Elab.async false
set_option linter.all false
set_option maxRecDepth 100000
set_option maxHeartbeats 4000000
namespace WB
open PySem PySem.Spec PyProof.Rows L2 WG
open TL (tl)
abbrev st_lists : Stmt := topS 63
theorem sc_lists : FnScope ["_law_told_here", "_law_found", "_law_lists_here", "_law_one", "_law_group", "_law_below_here"] ["_law_told_here"] (defScope st_lists) := ⟨rfl, rfl, rfl, by decide +kernel, rfl, by decide +kernel, by decide +kernel⟩
section
variable {P : Program} {w : World} {K : PySem.W.Frag} {mg : Str → Option Value} {base : Heap}
/-- lists, new behind H0, that hold what xss tells; none is at D -/
def NewLs (H0 H : Hp) (D : Addr) (xss : List (List V)) (as : List Addr) : Prop := (∀ (j : Nat) (b : Addr), as[j]? = some b → H0 b = none ∧ b ≠ D ∧ ∃ g, xss[j]? = some g ∧ H b = some (.lst g)) ∧ as.Nodup
theorem NewLs.add {H0 H H' : Hp} {D l : Addr} {xss : List (List V)} {as : List Addr} {g : List V} (h : NewLs H0 H D xss as) (hg : xss[as.length]? = some g) (nl : H l = none) (nl0 : H0 l = none) (nD : l ≠ D) (el : H' l = some (.lst g)) (k : ∀ b o, b ≠ D → H b = some o → H' b = some o) : NewLs H0 H' D xss (as ++ [l]) := by
  have fresh : ∀ c ∈ as, c ≠ l := fun c hc => by
    obtain ⟨j, hj, e⟩ := List.mem_iff_getElem.mp hc
    obtain ⟨_, _, g', _, e'⟩ := h.1 j c (by rw [List.getElem?_eq_getElem hj, e])
    exact ne_of_none e' nl
  refine ⟨fun j c e => ?_, ?_⟩
  · by_cases q : j < as.length
    · rw [List.getElem?_append_left q] at e
      obtain ⟨h1, h2, g', h3, h4⟩ := h.1 j c e
      exact ⟨h1, h2, g', h3, k _ _ h2 h4⟩
    · rw [List.getElem?_append_right (by omega)] at e
      have j0 : j - as.length = 0 := by
        cases h : j - as.length with
        | zero => rfl
        | succ n => rw [h] at e; cases e
      rw [j0] at e
      cases e
      have ji : j = as.length := by omega
      exact ⟨nl0, nD, g, by rw [ji]; exact hg, el⟩
  · refine List.nodup_append.mpr ⟨h.2, List.nodup_cons.mpr ⟨List.not_mem_nil, List.nodup_nil⟩, fun y hy' c hc e => ?_⟩
    rw [List.mem_singleton.mp hc] at e
    exact fresh y hy' e
theorem NewLs.keep {H0 H H' : Hp} {D : Addr} {xss : List (List V)} {as : List Addr} (h : NewLs H0 H D xss as) (k : ∀ b o, b ≠ D → H b = some o → H' b = some o) : NewLs H0 H' D xss as := ⟨fun j b e => by obtain ⟨h1, h2, g, h3, h4⟩ := h.1 j b e; exact ⟨h1, h2, g, h3, k _ _ h2 h4⟩, h.2⟩
def spLists (CO CP CC : Addr) : Sp := fun xs H Q _ => ∃ (T : Addr) (v0 v1 v2 v3 v4 v5 : V) (os ps gs cs : List V) (gss : List (List V)) (bs : List (Str × Str × Str)), xs = [.ref T] ∧ H T = some (.lst [v0, v1, v2, v3, v4, v5]) ∧ LV H v1 os ∧ LV H v2 ps ∧ LV H v3 gs ∧ LV H v4 cs ∧ gs.length = gss.length ∧ gs.length ≤ 1000 ∧ cs.length ≤ 1000 ∧
  (∀ (i : Nat) (y : V), gs[i]? = some y → ∃ b g, y = .ref b ∧ H b = some (.lst g) ∧ gss[i]? = some g) ∧ (∀ o ∈ os, Ins CO H o) ∧ os.length ≤ 20 ∧ (∀ o ∈ ps, Ins CP H o) ∧ ps.length ≤ 20 ∧ GS gss ∧ BlAll CO CC H cs bs ∧ ∀ H' r, Same H H' → DN H H' (.ref r) (toldD (tx "Option(" H os) (tx "Place(" H ps) gss bs) → Q (.ref r) H'
theorem ok_lists {CO CP CC f fB : Addr} {fd fdB : FuncData} {k : Nat} (F : Fun K "_law_lists" "_law_lists" st_lists f fd) (M : CmdM P w K mg base (k + 2) CO CP CC) (D_below : Df K mg "_law_below" st_below ["_law_command"] fB fdB)
    (m_repr : mg "repr" = none) (m_list : mg "list" = none) : GOk P w K mg base CX0 (k + 6) f fd ["_law_told_here"] (spLists CO CP CC) := by
  have G_below : GOk P w K mg base CX0 (k + 5) fB fdB ["_law_command"] (spBelow CO CC) := ok_below D_below.F M m_repr
  refine gfun_ok F sc_lists (fun vs H Q E h => ?_) (fun cdv A outer s H vs Q E hgd hr h => ?_)
  · obtain ⟨T, v0, v1, v2, v3, v4, v5, os, ps, gs, cs, gss, bs, rfl, _⟩ := h
    rfl
  · obtain ⟨T, v0, v1, v2, v3, v4, v5, os, ps, gs, cs, gss, bs, rfl, eT, L1, L2, L3, L4, hlen, lgs, lcs, hy, hO, leO, hP, leP, hG, hB, q⟩ := h
    have sl : sizeLine = 16777216 := sizeLine_eq
    refine ⟨_, PSs.nox (pss_cons (ps_setLc (i := 1) (own := [("_law_one", 3)]) (g := gName 3) (tt := tYes)  rfl sc_lists.nd rfl rfl (sw_true rfl rfl rfl (by decide +kernel)) (pi_list (pe_slice sl_list (pv 0) (po_some pe_int) (po_some pe_int))) (blkOk_by (N := ["_law_told_here", "_law_found", "_law_lists_here", "_law_one", "_law_group", "_law_below_here"]) (sc := defScope st_lists) (by decide +kernel)) (fun _ _ _ _ _ => (pg_name (i := 3) sc_lists.nd rfl (Or.inl rfl))) (fun _ _ _ _ _ => pts_nil) (fun _ _ _ _ _ => (pe_ifExp (pt_cmpR op_isN (pv 3) pe_non (nomark _)) (pe_lst pa_nil) (pe_callTy (r := rListOf K) call_listOf (by rfl) m_list (by decide +kernel) (pa_cons (pv 3) pa_nil)))))
      (pss_cons (ps_setLc (i := 2) (own := [("_law_group", 4)]) (g := gName 4) (tt := tYes)  rfl sc_lists.nd rfl rfl (sw_true rfl rfl rfl (by decide +kernel)) (pi_list (pe_ix ix_list (pv 1) pe_int (fun _ _ => rfl))) (blkOk_by (N := ["_law_told_here", "_law_found", "_law_lists_here", "_law_one", "_law_group", "_law_below_here"]) (sc := defScope st_lists) (by decide +kernel)) (fun _ _ _ _ _ => (pg_name (i := 4) sc_lists.nd rfl (Or.inl rfl))) (fun _ _ _ _ _ => pts_nil) (fun _ _ _ _ _ => (pe_callTy (r := rListOf K) call_listOf (by rfl) m_list (by decide +kernel) (pa_cons (pv 4) pa_nil))))
      (pss_one (ps_ret (pe_lst (pa_cons (pe_callB (r := rReprM P w K mg base (k + 2)) (call_reprM hgd (hr.mono (by omega))) (by rfl) m_repr (by decide +kernel) (pa_cons (pe_ix (r := rIxL K) ix_list (pv 1) pe_int (fun _ _ => rfl)) pa_nil)) (pa_cons (pe_callB (r := rReprM P w K mg base (k + 2)) (call_reprM hgd (hr.mono (by omega))) (by rfl) m_repr (by decide +kernel) (pa_cons (pe_ix (r := rIxL K) ix_list (pv 1) pe_int (fun _ _ => rfl)) pa_nil)) (pa_cons (pv 2) (pa_cons (pe_lc (own := [("_law_below_here", 5)]) (g := gName 5) (tt := tYes) rfl sc_lists.nd (pi_list (pe_ix ix_list (pv 1) pe_int (fun _ _ => rfl))) (blkOk_by (N := ["_law_told_here", "_law_found", "_law_lists_here", "_law_one", "_law_group", "_law_below_here"]) (sc := defScope st_lists) (by decide +kernel)) (fun _ _ _ _ _ => (pg_name (i := 5) sc_lists.nd rfl (Or.inl rfl))) (fun _ _ _ _ _ => pts_nil) (fun _ _ _ _ _ => (pe_callG G_below hgd hr (by rfl) D_below.g D_below.F.kp D_below.b pass0 (pa_cons (pv 5) pa_nil)))) pa_nil))))))))), ?_⟩
    refine ⟨.ref T, rfl, 1, rfl, 5, rfl, T, _, rfl, SqL.of eT, fun sx nsx => ?_⟩
    rw [show cutV [v0, v1, v2, v3, v4, v5] (some 1) (some 5) = [v1, v2, v3, v4] from rfl]
    have esx : (upd H sx (.lst [v1, v2, v3, v4])) sx = some (.lst [v1, v2, v3, v4]) := upd_same
    have s0 := same_upd (o := .lst [v1, v2, v3, v4]) nsx
    revert esx s0
    generalize upd H sx (.lst [v1, v2, v3, v4]) = H0
    intro esx s0
    refine ⟨sx, rfl, ⟨_, SqL.of esx⟩, fun D nD => ?_⟩
    refine lc_list (K := K) (a := sx) (xs := [v1, v2, v3, v4]) (fun i Hc => Same H0 Hc ∧ ∃ as : List Addr, Hc D = some (.lst (as.map V.ref)) ∧ as.length = min i 4 ∧ NewLs H Hc D [os, ps, gs, cs] as)
      ⟨same_upd nD, [], upd_same, by simp, (fun j b e => by cases e), List.nodup_nil⟩ (fun i Hc _ h => SqL.of (h.1 _ _ esx)) (fun i x Hc hx ⟨sc, as, eD, la, nw⟩ => ?_) (fun H1 ⟨s1, as, eD, la, nw⟩ => ?_)
    · have hi : i < 4 := (List.getElem?_eq_some_iff.mp hx).1
      obtain ⟨ys, hys, lv⟩ : ∃ ys, [os, ps, gs, cs][i]? = some ys ∧ LV Hc x ys := by
        have S := s0.trans sc
        match i, hx with
        | 0, e => cases e; exact ⟨_, rfl, L1.same S⟩
        | 1, e => cases e; exact ⟨_, rfl, L2.same S⟩
        | 2, e => cases e; exact ⟨_, rfl, L3.same S⟩
        | 3, e => cases e; exact ⟨_, rfl, L4.same S⟩
      have fin : ∀ {Hd : Hp} (l : Addr), Same Hc Hd → Hc l = none → Hd l = some (.lst ys) → ∃ acc, Hd D = some (.lst acc) ∧ acc.length < sizeLine ∧ Same H0 (upd Hd D (.lst (acc ++ [.ref l]))) ∧ ∃ as : List Addr, (upd Hd D (.lst (acc ++ [.ref l]))) D = some (.lst (as.map V.ref)) ∧ as.length = min (i + 1) 4 ∧ NewLs H (upd Hd D (.lst (acc ++ [.ref l]))) D [os, ps, gs, cs] as := fun {Hd} l sd nl el => by
        have nlD : l ≠ D := (ne_of_none eD nl).symm
        refine ⟨_, sd _ _ eD, by rw [List.length_map]; omega, fun b o e => ?_, as ++ [l], ?_, by rw [List.length_append, la]; show _ + 1 = _; omega, ?_⟩
        · rw [upd_ne (ne_of_none e nD)]
          exact sd _ _ (sc b o e)
        · rw [upd_same, List.map_append]
          rfl
        · refine nw.add (g := ys) (by rw [la, Nat.min_eq_left (by omega)]; exact hys) nl (fresh_of (s0.trans sc) nl) nlD (by rw [upd_ne nlD]; exact el) (fun b o nb e => ?_)
          rw [upd_ne nb]
          exact sd _ _ e
      refine ⟨rfl, x, rfl, rfl, _, rfl, ite2 (fun e => ?_) (fun e => ?_)⟩
      · rcases lv with ⟨_, rfl⟩ | ⟨b, e', _⟩
        · exact ⟨by show 0 ≤ sizeLine; decide, fun l nl => fin l (same_upd nl) nl upd_same⟩
        · rw [e'] at e
          cases e
      · rcases lv with ⟨rfl, _⟩ | ⟨b, rfl, eb⟩
        · exact absurd rfl e
        · exact ⟨.ref b, rfl, b, ys, rfl, .inl (SqL.of eb), fun l nl => fin l (same_upd nl) nl upd_same⟩
    have S1 := s0.trans s1
    obtain ⟨l1, l2, l3, l4, rfl⟩ : ∃ l1 l2 l3 l4, as = [l1, l2, l3, l4] := by
      match as, la with
      | [l1, l2, l3, l4], _ => exact ⟨l1, l2, l3, l4, rfl⟩
    obtain ⟨_, _, _, z1, e1⟩ := nw.1 0 l1 rfl
    cases z1
    obtain ⟨_, _, _, z2, e2⟩ := nw.1 1 l2 rfl
    cases z2
    obtain ⟨_, _, _, z3, e3⟩ := nw.1 2 l3 rfl
    cases z3
    obtain ⟨_, _, _, z4, e4⟩ := nw.1 3 l4 rfl
    cases z4
    have er : H1 D = some (.lst [.ref l1, .ref l2, .ref l3, .ref l4]) := eD
    -- the groups
    refine ⟨.ref D, rfl, D, _, 2, .ref l3, rfl, rfl, SqL.of er, rfl, l3, rfl, ⟨_, SqL.of e3⟩, fun D3 nD3 => ?_⟩
    refine lc_list (K := K) (a := l3) (xs := gs) (fun i Hc => Same H1 Hc ∧ ∃ as : List Addr, Hc D3 = some (.lst (as.map V.ref)) ∧ as.length = min i gs.length ∧ NewLs H Hc D3 gss as)
      ⟨same_upd nD3, [], upd_same, by simp, (fun j b e => by cases e), List.nodup_nil⟩ (fun i Hc _ h => SqL.of (h.1 _ _ e3)) (fun i x Hc hx ⟨sc, as, eD3, la3, nw3⟩ => ?_) (fun H3 ⟨s3, as3, eD3, la3, nw3⟩ => ?_)
    · have hi : i < gs.length := (List.getElem?_eq_some_iff.mp hx).1
      obtain ⟨b, g, rfl, eb, eg⟩ := hy i x hx
      refine ⟨rfl, .ref b, rfl, b, g, rfl, .inl (SqL.of (sc _ _ (S1 _ _ eb))), fun l nl => ?_⟩
      have nlD : l ≠ D3 := (ne_of_none eD3 nl).symm
      refine ⟨_, same_upd nl _ _ eD3, by rw [List.length_map]; omega, fun b o e => ?_, as ++ [l], ?_, by rw [List.length_append, la3]; show _ + 1 = _; omega, ?_⟩
      · rw [upd_ne (ne_of_none e nD3)]
        exact same_upd nl _ _ (sc b o e)
      · rw [upd_same, List.map_append]
        rfl
      · refine nw3.add (g := g) (by rw [la3, Nat.min_eq_left (by omega)]; exact eg) nl (fresh_of (S1.trans sc) nl) nlD (by rw [upd_ne nlD, upd_same]) (fun b o nb e => ?_)
        rw [upd_ne nb]
        exact same_upd nl _ _ e
    have S3 := S1.trans s3
    have g3 : GL H H3 D3 gss := ⟨fresh_of S1 nD3, as3, eD3, by rw [la3, Nat.min_self]; exact hlen, nw3.1, nw3.2⟩
    refine ⟨.ref D, rfl, D, _, 0, .ref l1, rfl, rfl, SqL.of (s3 _ _ er), rfl, ?_⟩
    delta tNil
    show rReprM P w K mg base (k + 2) [.ref l1] _ _
    refine reprM_of M.ro nmO (s3 _ _ e1) (fun o ho => (hO o ho).same S3) leO (fun H4 s4 => ?_)
    have S4 := S3.trans s4
    rw [tx_same hO S3]
    refine ⟨.ref D, rfl, D, _, 1, .ref l2, rfl, rfl, SqL.of (s4 _ _ (s3 _ _ er)), rfl, ?_⟩
    show rReprM P w K mg base (k + 2) [.ref l2] _ _
    refine reprM_of M.rp nmP (s4 _ _ (s3 _ _ e2)) (fun o ho => (hP o ho).same S4) leP (fun H5 s5 => ?_)
    have S5 := S4.trans s5
    have s15 := (s3.trans s4).trans s5
    have s35 := s4.trans s5
    rw [tx_same hP S4]
    refine ⟨.ref D3, rfl, .ref D, rfl, D, _, 3, .ref l4, rfl, rfl, SqL.of (s15 _ _ er), rfl, l4, rfl, ⟨_, SqL.of (s15 _ _ e4)⟩, fun D2 nD2 => ?_⟩
    have eb0 : (upd H5 D2 (.lst [])) D2 = some (.lst []) := upd_same
    refine lc_list (K := K) (a := l4) (xs := cs) (fun i Hc => Same H5 Hc ∧ ∃ rs : List Addr, Hc D2 = some (.lst (rs.map V.ref)) ∧ rs.length = min i cs.length ∧ DNs (upd H5 D2 (.lst [])) Hc (rs.map V.ref) ((bs.take i).map bD)) ⟨same_upd nD2, [], upd_same, by simp, .nil⟩ (fun i Hc _ h => SqL.of (h.1 _ _ (s15 _ _ e4))) (fun i c Hc hc ⟨sc, rs, eD, lr, dn⟩ => ?_) (fun H6 ⟨s6, rs, eD, lr, dn⟩ => ?_)
    · obtain ⟨y, n, os', ab, rfl, bl, eb, pn, pa⟩ := (hB.same (S5.trans sc)).2 i c hc
      have hi : i < cs.length := (List.getElem?_eq_some_iff.mp hc).1
      refine ⟨rfl, .ref y, rfl, y, n, os', ab, rfl, bl, fun Hd t sd nt et => ?_⟩
      have ntD : t ≠ D2 := (ne_of_none eD nt).symm
      have nt0 : (upd H5 D2 (.lst [])) t = none := by
        rw [upd_ne ntD]
        exact fresh_of sc nt
      refine ⟨_, sd _ _ eD, by rw [List.length_map]; omega, fun b o e => ?_, rs ++ [t], ?_, by rw [List.length_append, lr]; show _ + 1 = _; omega, ?_⟩
      · rw [upd_ne (ne_of_none e nD2)]
        exact sd _ _ (sc b o e)
      · rw [upd_same, List.map_append]
        rfl
      · have kp : ∀ {Hy : Hp} b o, (upd H5 D2 (.lst [])) b = none → Hy b = some o → (upd Hy D2 (.lst (rs.map V.ref ++ [V.ref t]))) b = some o := fun {Hy} b o nb e => by
          rw [upd_ne (fun z => by rw [z, upd_same] at nb; cases nb)]
          exact e
        rw [List.map_append, List.take_add_one, eb, List.map_append]
        exact DNs.app ((dn.keep fun b o nb e => sd _ _ e).keep kp) (.cons (.lst nt0 (by rw [upd_ne ntD]; exact et) (.cons (.str pn) (.cons (.str bl.p8) (.cons (.str pa) .nil)))) .nil)
    refine ⟨by show 4 ≤ sizeLine; decide, fun rr nrr => ?_⟩
    have s7 := same_upd (o := .lst [.str (tx "Option(" H os), .str (tx "Place(" H ps), .ref D3, .ref D2]) nrr
    have S7 := (S5.trans s6).trans s7
    refine q _ rr S7 (.lst (fresh_of (S5.trans s6) nrr) upd_same (.cons (.str (tx8 (by decide +kernel) hO)) (.cons (.str (tx8 (by decide +kernel) hP)) (.cons ((g3.dn hG).keep fun b o _ e => s7 _ _ (s6 _ _ (s35 _ _ e))) (.cons (.lst (fresh_of S5 nD2) (s7 _ _ eD) ?_) .nil)))))
    rw [hB.1, List.take_length] at dn
    exact (dn.base fun b n => fresh_of (S5.trans (same_upd nD2)) n).keep fun b o _ e => s7 _ _ e
end
end WB

set_option Elab.async false
set_option linter.all false
set_option maxRecDepth 100000
set_option maxHeartbeats 4000000
namespace WB
open PySem PySem.Spec PyProof.Rows L2 WG
open TL (tl)
abbrev st_stays : Stmt := topS 66
theorem sc_stays : FnScope ["_law_command", "_law_due_here", "_law_first", "_law_sizes", "_law_told_here", "_law_group"] ["_law_command", "_law_due_here"] (defScope st_stays) := ⟨rfl, rfl, rfl, by decide +kernel, rfl, by decide +kernel, by decide +kernel⟩
def rLenL (K : PySem.W.Frag) : List V → Hp → VK → Prop := fun xs H Q => ∃ p ys, xs = [.ref p] ∧ (SqL K H p ys ∨ SqT K H p ys) ∧ Q (.int ys.length) H
theorem call_lenL {X : Cx} : CallR X (.builtin "len") (rLenL X.K) := call_len_seq
theorem depthAll_le {n : Nat} : ∀ {ds : List PyData}, (∀ d ∈ ds, d.depth ≤ n) → PyData.depthAll ds ≤ n
  | [], _ => by simp [PyData.depthAll]
  | d :: r, h => by
    have h1 := h d List.mem_cons_self
    have h2 := depthAll_le fun x hx => h x (List.mem_cons_of_mem _ hx)
    simp only [PyData.depthAll]
    omega
theorem dV_depth (v : V) : (dV v).depth ≤ 0 := by
  cases v <;> simp [dV, PyData.depth]
theorem told_depth (t1 t2 : Str) (gss : List (List V)) (bs : List (Str × Str × Str)) : (toldD t1 t2 gss bs).depth ≤ 64 := by
  have h1 : PyData.depthAll (gss.map fun g => .list (g.map dV)) ≤ 1 := depthAll_le fun d hd => by
    obtain ⟨g, _, rfl⟩ := List.mem_map.mp hd
    have : PyData.depthAll (g.map dV) ≤ 0 := depthAll_le fun x hx => by
      obtain ⟨v, _, rfl⟩ := List.mem_map.mp hx
      exact dV_depth v
    simp only [PyData.depth]
    omega
  have h2 : PyData.depthAll (bs.map bD) ≤ 1 := depthAll_le fun d hd => by
    obtain ⟨b, _, rfl⟩ := List.mem_map.mp hd
    simp [bD, PyData.depth, PyData.depthAll]
  unfold toldD
  simp only [PyData.depth, PyData.depthAll]
  omega
theorem DN.shaped {H0 H : Hp} {v : V} {t1 t2 : Str} {gss : List (List V)} {bs : List (Str × Str × Str)} (h : DN H0 H v (toldD t1 t2 gss bs)) : SeqAt.shaped (toldD t1 t2 gss bs) = true := by
  unfold SeqAt.shaped
  rw [h.lay, decide_eq_true (told_depth t1 t2 gss bs)]
  rfl
theorem DN.eqv {H0 H : Hp} {v : V} {d : PyData} (h : DN H0 H v d) : PyData.eqv d d = true := SeqAt.eqv_refl d h.lay
theorem at_end (xs : List V) (y : V) : atI (xs ++ [y]) (-1) = some y := by
  unfold atI ixN
  rw [List.length_append, if_neg (by decide), if_pos (by show -(((xs.length + 1 : Nat)) : Int) ≤ -1; omega)]
  show (xs ++ [y])[(-1 + ((xs.length + 1 : Nat) : Int)).toNat]? = some y
  rw [show (-1 + ((xs.length + 1 : Nat) : Int)).toNat = xs.length from by omega]
  simp
theorem dpI {K : PySem.W.Frag} {H : Hp} : ∀ xs : List Int, DpAll K H (xs.map V.int) (xs.map PyData.int)
  | [] => .nil
  | i :: r => .cons (.int i) (dpI r)
theorem layI : ∀ xs : List Int, PyData.canLayAll0 (xs.map PyData.int) = true ∧ PyData.depthAll (xs.map PyData.int) = 0
  | [] => ⟨by simp [PyData.canLayAll0], by simp [PyData.depthAll]⟩
  | i :: r => by
    obtain ⟨h1, h2⟩ := layI r
    rw [List.map_cons]
    exact ⟨by simp [PyData.canLayAll0, PyData.canLay0, h1], by simp [PyData.depthAll, PyData.depth, h2]⟩
theorem shI (xs : List Int) : SeqAt.shaped (.list (xs.map PyData.int)) = true := by
  obtain ⟨h1, h2⟩ := layI xs
  unfold SeqAt.shaped
  simp [PyData.canLay0, PyData.depth, h1, h2]
section
variable {P : Program} {w : World} {K : PySem.W.Frag} {mg : Str → Option Value} {base : Heap}
/-- the first i of the lists are one None longer -/
def FA (ls : List Addr) (xss : List (List V)) (H : Hp) (i : Nat) : Prop := ∀ (j : Nat) (a : Addr), ls[j]? = some a → ∃ xs, xss[j]? = some xs ∧ H a = some (.lst (if j < i then xs ++ [.non] else xs))
theorem FA.step {ls : List Addr} {xss : List (List V)} {H : Hp} {i : Nat} {a : Addr} {xs : List V} (h : FA ls xss H i) (nd : ls.Nodup) (ha : ls[i]? = some a) (hx : xss[i]? = some xs) : FA ls xss (upd H a (.lst (xs ++ [.non]))) (i + 1) := by
  intro j b hb
  obtain ⟨ys, h1, h2⟩ := h j b hb
  by_cases q : j = i
  · subst q
    rw [ha] at hb
    cases hb
    rw [hx] at h1
    cases h1
    exact ⟨xs, hx, by rw [upd_same, if_pos (by omega)]⟩
  · have nb : b ≠ a := fun z => by
      subst z
      obtain ⟨hj, ej⟩ := List.getElem?_eq_some_iff.mp hb
      obtain ⟨hi, ei⟩ := List.getElem?_eq_some_iff.mp ha
      have pw := List.pairwise_iff_getElem.mp nd
      rcases Nat.lt_or_gt_of_ne q with z | z
      · exact pw j i hj hi z (ej.trans ei.symm)
      · exact pw i j hi hj z (ei.trans ej.symm)
    refine ⟨ys, h1, ?_⟩
    rw [upd_ne nb, h2]
    by_cases z : j < i
    · rw [if_pos z, if_pos (by omega)]
    · rw [if_neg z, if_neg (by omega)]
theorem FA.same {ls : List Addr} {xss : List (List V)} {H H' : Hp} {i : Nat} (h : FA ls xss H i) (s : Same H H') : FA ls xss H' i := fun j a e => by
  obtain ⟨xs, h1, h2⟩ := h j a e
  exact ⟨xs, h1, s _ _ h2⟩
def spStays (CO CP CC : Addr) : Sp := fun xs H Q _ => ∃ (x du dx lo lp lg lc : Addr) (v0 : V) (os ps : List V) (as : List Addr) (gss : List (List V)) (cs : List V) (v5 : V) (bs : List (Str × Str × Str)) (Hz : Hp), xs = [.ref x, .ref du] ∧ Cm CC H x dx lo lp lg lc v0 os ps as gss cs v5 ∧ as.length ≤ 1000 ∧ cs.length ≤ 1000 ∧
  (∀ o ∈ os, Ins CO H o) ∧ os.length ≤ 20 ∧ (∀ o ∈ ps, Ins CP H o) ∧ ps.length ≤ 20 ∧ GS gss ∧ (∀ g ∈ gss, g.length ≤ 1000) ∧ BlAll CO CC H cs bs ∧ DN Hz H (.ref du) (toldD (tx "Option(" H os) (tx "Place(" H ps) gss bs) ∧ ∀ H', Same H H' → Q (.bl true) H'
theorem ok_stays {CO CP CC f fA fB fT : Addr} {fd fdA fdB fdT : FuncData} {k : Nat} (F : Fun K "_law_stays" "_law_stays" st_stays f fd) (M : CmdM P w K mg base (k + 2) CO CP CC) (D_asked : Df K mg "_law_asked" st_asked ["_law_command"] fA fdA) (D_below : Df K mg "_law_below" st_below ["_law_command"] fB fdB) (D_told : Df K mg "_law_told" st_told ["_law_command"] fT fdT)
    (m_repr : mg "repr" = none) (m_isinstance : mg "isinstance" = none) (m_list : mg "list" = none) (m_len : mg "len" = none) : GOk P w K mg base CX0 (k + 7) f fd ["_law_command", "_law_due_here"] (spStays CO CP CC) := by
  have G_asked : FnOk P w K mg base CX0 (k + 6) fA fdA ["_law_command"] (spAsked CC) := (ok_asked (k := k) D_asked.F M).mono (by omega)
  have G_told : GOk P w K mg base CX0 (k + 6) fT fdT ["_law_command"] (spTold CO CP CC) := ok_told D_told.F M D_asked D_below m_repr m_isinstance m_list
  obtain ⟨f_groups, fd_groups, m_groups, G_groups, b_groups⟩ := M.groups
  refine gfun_ok F sc_stays (fun vs H Q E h => ?_) (fun cdv A outer s H vs Q E hgd hr h => ?_)
  · obtain ⟨x, du, dx, lo, lp, lg, lc, v0, os, ps, as, gss, cs, v5, bs, Hz, rfl, _⟩ := h
    rfl
  · obtain ⟨x, du, dx, lo, lp, lg, lc, v0, os, ps, as, gss, cs, v5, bs, Hz, rfl, cm, la, lcs, hO, leO, hP, leP, hG, lG, hB, dn, q⟩ := h
    have sl : sizeLine = 16777216 := sizeLine_eq
    refine ⟨_, PSs.nox (pss_cons (ps_set (i := 2) sc_stays.nd rfl (.inl rfl) (pe_call G_asked hr (by rfl) D_asked.g D_asked.F.kp D_asked.b .nil pass0 (pa_cons (pv 0) pa_nil)))
      (pss_cons (ps_setLc (i := 3) (own := [("_law_told_here", 4)]) (g := gName 4) (tt := tYes)  rfl sc_stays.nd rfl rfl (sw_true rfl rfl rfl (by decide +kernel)) (pi_list (pv 2)) (blkOk_by (N := ["_law_command", "_law_due_here", "_law_first", "_law_sizes", "_law_told_here", "_law_group"]) (sc := defScope st_stays) (by decide +kernel)) (fun _ _ _ _ _ => (pg_name (i := 4) sc_stays.nd rfl (Or.inl rfl))) (fun _ _ _ _ _ => pts_nil) (fun _ _ _ _ _ => (pe_op op_add (pe_callB (r := rLenL K) call_lenL (by rfl) m_len PySem.boot_len (pa_cons (pv 4) pa_nil)) pe_int)))
      (pss_cons (ps_for PassesOwn.never rfl (pi_list (pv 2)) (pg_name (i := 4) sc_stays.nd rfl (Or.inl rfl)) (pss_one (ps_expr (pe_bm PySem.F.plainAttrs_list PySem.F.slot_list_append PySem.F.type_list_append mt_append (pv 4) (pa_cons pe_non pa_nil)))))
      (pss_cons (ps_for PassesOwn.never rfl (pi_list (pe_meth0 (pv 0) M.T.cl m_groups G_groups (hr.mono (by omega)) b_groups .nil pass0)) (pg_name (i := 5) sc_stays.nd rfl (Or.inl rfl)) (pss_one (ps_expr (pe_bm PySem.F.plainAttrs_list PySem.F.slot_list_append PySem.F.type_list_append mt_append (pv 5) (pa_cons pe_str pa_nil)))))
      (pss_cons (ps_if (pt_cmpR (op_neD hr.units) (pe_callG G_told hgd hr (by rfl) D_told.g D_told.F.kp D_told.b pass0 (pa_cons (pv 0) pa_nil)) (pv 1) (nomark _)) (pss_one (ps_ret pe_bl)) pss_nil)
      (pss_one (ps_ret (pe_and (pe_cmpR (op_eqD hr.units) (pe_lc (own := [("_law_told_here", 4)]) (g := gName 4) (tt := tYes) rfl sc_stays.nd (pi_list (pv 2)) (blkOk_by (N := ["_law_command", "_law_due_here", "_law_first", "_law_sizes", "_law_told_here", "_law_group"]) (sc := defScope st_stays) (by decide +kernel)) (fun _ _ _ _ _ => (pg_name (i := 4) sc_stays.nd rfl (Or.inl rfl))) (fun _ _ _ _ _ => pts_nil) (fun _ _ _ _ _ => (pe_callB (r := rLenL K) call_lenL (by rfl) m_len PySem.boot_len (pa_cons (pv 4) pa_nil)))) (pv 3) (nomark _)) (pe_one (pe_cmpR (op_eqD hr.units) (pe_lc (own := [("_law_told_here", 4)]) (g := gName 4) (tt := tYes) rfl sc_stays.nd (pi_list (pv 2)) (blkOk_by (N := ["_law_command", "_law_due_here", "_law_first", "_law_sizes", "_law_told_here", "_law_group"]) (sc := defScope st_stays) (by decide +kernel)) (fun _ _ _ _ _ => (pg_name (i := 4) sc_stays.nd rfl (Or.inl rfl))) (fun _ _ _ _ _ => pts_nil) (fun _ _ _ _ _ => (pe_cmpR op_isN (pe_ix (r := rIxL K) ix_list (pv 4) (pe_un un_neg pe_int) (fun _ _ => rfl)) pe_non (nomark _)))) (pe_op op_rep (pe_lst (pa_cons pe_bl pa_nil)) pe_int) (nomark _))))))))))), ?_⟩
    refine ⟨.ref x, rfl, x, dx, lo, lp, lg, lc, v0, os, ps, as, gss, cs, v5, rfl, cm, la, fun H1 r l1 l2 l3 l4 s1 nr er ⟨n1, e1⟩ ⟨n2, e2⟩ g3 ⟨n4, e4⟩ nd => ?_⟩
    obtain ⟨n3, as3, e3, l3', _⟩ := id g3
    have nd4 : [l1, l2, l3, l4].Nodup := (List.nodup_cons.mp nd).2
    have rne : r ∉ [l1, l2, l3, l4] := (List.nodup_cons.mp nd).1
    have frs : ∀ a ∈ [l1, l2, l3, l4], H a = none := fun a ha => by
      simp only [List.mem_cons, List.not_mem_nil, or_false] at ha
      rcases ha with rfl | rfl | rfl | rfl
      · exact n1
      · exact n2
      · exact n3
      · exact n4
    have gl0 := cm.gl
    have fa0 : FA [l1, l2, l3, l4] [os, ps, as3.map V.ref, cs] H1 0 := fun j a e => by
      match j, e with
      | 0, e => cases e; exact ⟨_, rfl, e1⟩
      | 1, e => cases e; exact ⟨_, rfl, e2⟩
      | 2, e => cases e; exact ⟨_, rfl, e3⟩
      | 3, e => cases e; exact ⟨_, rfl, e4⟩
    have lens : ∀ xs ∈ [os, ps, as3.map V.ref, cs], xs.length ≤ 1000 := fun xs hx => by
      simp only [List.mem_cons, List.not_mem_nil, or_false] at hx
      rcases hx with rfl | rfl | rfl | rfl
      · omega
      · omega
      · rw [List.length_map]; omega
      · exact lcs
    have lx4 : [os, ps, as3.map V.ref, cs].length = 4 := rfl
    revert fa0 lens lx4
    generalize [os, ps, as3.map V.ref, cs] = xss
    intro fa0 lens lx4
    -- the sizes
    refine ⟨.ref r, rfl, r, rfl, ⟨_, SqL.of er⟩, fun sz nsz => ?_⟩
    refine lc_list (K := K) (a := r) (xs := [.ref l1, .ref l2, .ref l3, .ref l4]) (fun i Hc => Same H1 Hc ∧ Hc sz = some (.lst (((xss.take i).map fun xs => ((xs.length : Int) + 1)).map V.int))) ⟨same_upd nsz, upd_same⟩ (fun i Hc _ h => SqL.of (h.1 _ _ er)) (fun i v Hc hv ⟨sc, eD⟩ => ?_) (fun H2 ⟨s2, esz⟩ => ?_)
    · obtain ⟨a, ha, rfl⟩ : ∃ a, [l1, l2, l3, l4][i]? = some a ∧ v = .ref a := by
        rw [show [V.ref l1, .ref l2, .ref l3, .ref l4] = [l1, l2, l3, l4].map V.ref from rfl, List.getElem?_map] at hv
        obtain ⟨a, h1, h2⟩ := Option.map_eq_some_iff.mp hv
        exact ⟨a, h1, h2.symm⟩
      obtain ⟨xs, hx, ex⟩ := fa0 i a ha
      rw [if_neg (Nat.not_lt_zero _)] at ex
      have hi : i < 4 := (List.getElem?_eq_some_iff.mp ha).1
      refine ⟨rfl, .ref a, rfl, a, xs, rfl, .inl (SqL.of (sc _ _ ex)), _, _, rfl, rfl, _, eD, ?_, fun b o e => ?_, ?_⟩
      · rw [List.length_map, List.length_map, List.length_take]
        omega
      · rw [upd_ne (ne_of_none e nsz)]
        exact sc b o e
      · rw [upd_same, List.take_add_one, hx, List.map_append, List.map_append]
        rfl
    have S2 := s1.trans s2
    have er2 := s2 _ _ er
    have rsz : sz ≠ r := (ne_of_none er nsz).symm
    have szl : sz ∉ [l1, l2, l3, l4] := fun hm => by
      obtain ⟨j, hj, ej⟩ := List.mem_iff_getElem.mp hm
      obtain ⟨xs, _, ex⟩ := fa0 j sz (by rw [List.getElem?_eq_getElem hj, ej])
      rw [nsz] at ex
      cases ex
    -- each one is made longer
    refine ⟨.ref r, rfl, r, rfl, ⟨_, SqL.of er2⟩, ?_⟩
    refine for_list (K := K) (a := r) (xs := [.ref l1, .ref l2, .ref l3, .ref l4]) (fun i σ H' => Same H H' ∧ H' r = some (.lst [.ref l1, .ref l2, .ref l3, .ref l4]) ∧ H' sz = some (.lst ((xss.map fun xs => ((xs.length : Int) + 1)).map V.int)) ∧ FA [l1, l2, l3, l4] xss H' i ∧ ∃ x4, σ = [some (.ref x), some (.ref du), some (.ref r), some (.ref sz), x4, none])
      ⟨S2, er2, by rw [show ([V.ref l1, .ref l2, .ref l3, .ref l4] : List V).length = xss.length from lx4.symm, List.take_length] at esz; exact esz, fa0.same s2, none, rfl⟩ (fun i σ H' _ h => SqL.of h.2.1) ?_ ?_
    · rintro i v σ Hc hv ⟨sc, erc, eszc, fac, x4, rfl⟩
      obtain ⟨a, ha, rfl⟩ : ∃ a, [l1, l2, l3, l4][i]? = some a ∧ v = .ref a := by
        rw [show [V.ref l1, .ref l2, .ref l3, .ref l4] = [l1, l2, l3, l4].map V.ref from rfl, List.getElem?_map] at hv
        obtain ⟨a, h1, h2⟩ := Option.map_eq_some_iff.mp hv
        exact ⟨a, h1, h2.symm⟩
      obtain ⟨xs, hx, ex⟩ := fac i a ha
      rw [if_neg (Nat.lt_irrefl _)] at ex
      have ma := List.mem_of_getElem? ha
      have lx := lens xs (List.mem_of_getElem? hx)
      refine ⟨.ref a, rfl, Or.inl ⟨rfl, _, SqL.of ex⟩, a, xs, .non, rfl, rfl, ex, by omega, fun b o e => ?_, ?_, ?_, fac.step nd4 ha hx, _, rfl⟩
      · rw [upd_ne (ne_of_none e (frs a ma))]
        exact sc b o e
      · rw [upd_ne (fun z => rne (by rw [z]; exact ma))]
        exact erc
      · rw [upd_ne (fun z => szl (by rw [z]; exact ma))]
        exact eszc
    · rintro σ H4 ⟨S4, er4, esz4', fa4, x4, rfl⟩
      have cm4 := cm.same S4
      refine ⟨.ref x, rfl, x, dx, _, rfl, cm4.ex, rfl, x, dx, _, lg, as, gss, rfl, cm4.ex, rfl, cm4.g, cm4.gl, la, cm4.ge, fun H5 lg2 s5 g5 => ?_⟩
      obtain ⟨n5, as5, e5, l5, h5, nd5⟩ := g5
      refine ⟨lg2, rfl, ⟨_, SqL.of e5⟩, ?_⟩
      refine for_list (K := K) (a := lg2) (xs := as5.map V.ref) (fun i σ H' => Same H4 H' ∧ H' lg2 = some (.lst (as5.map V.ref)) ∧ (∀ a ∈ as5, ∃ ys, H' a = some (.lst ys) ∧ ys.length ≤ 1000 + i) ∧ ∃ x5, σ = [some (.ref x), some (.ref du), some (.ref r), some (.ref sz), x4, x5])
        ⟨s5, e5, fun a ha => ?_, none, rfl⟩ (fun i σ H' _ h => SqL.of h.2.1) ?_ ?_
      · obtain ⟨j, hj, ej⟩ := List.mem_iff_getElem.mp ha
        obtain ⟨_, _, g, h6, h7⟩ := h5 j a (by rw [List.getElem?_eq_getElem hj, ej])
        exact ⟨g, h7, by have := lG g (List.mem_of_getElem? h6); omega⟩
      · rintro i v σ Hc hv ⟨sc, ec, hc, x5, rfl⟩
        obtain ⟨a, ha, rfl⟩ : ∃ a, as5[i]? = some a ∧ v = .ref a := by
          rw [List.getElem?_map] at hv
          obtain ⟨a, h1, h2⟩ := Option.map_eq_some_iff.mp hv
          exact ⟨a, h1, h2.symm⟩
        have hi : i < as5.length := (List.getElem?_eq_some_iff.mp ha).1
        have ma := List.mem_of_getElem? ha
        obtain ⟨m1, m2, _⟩ := h5 i a ha
        obtain ⟨ys, ey, ly⟩ := hc a ma
        have l5' : as5.length ≤ 1000 := by rw [l5, ← gl0]; exact la
        refine ⟨.ref a, rfl, Or.inl ⟨rfl, _, SqL.of ey⟩, a, ys, _, rfl, rfl, ey, by omega, fun b o e => ?_, ?_, fun b hb => ?_, _, rfl⟩
        · rw [upd_ne (ne_of_none e m1)]
          exact sc b o e
        · rw [upd_ne m2.symm]
          exact ec
        · by_cases z : b = a
          · rw [z]
            exact ⟨_, upd_same, by rw [List.length_append]; show _ + 1 ≤ _; omega⟩
          · obtain ⟨zs, ez, lz⟩ := hc b hb
            exact ⟨zs, by rw [upd_ne z]; exact ez, by omega⟩
      · rintro σ H6 ⟨s6, e6, _, x5, rfl⟩
        have S6 := S4.trans s6
        have cm6 := cm.same S6
        refine ⟨.ref x, rfl, x, dx, lo, lp, lg, lc, v0, os, ps, as, gss, cs, v5, bs, rfl, cm6, la, lcs, fun o ho => (hO o ho).same S6, leO, fun o ho => (hP o ho).same S6, leP, hG, hB.same S6, fun H7 r7 s7 d7 => ?_⟩
        rw [tx_same hO S6, tx_same hP S6] at d7
        have S7 := S6.trans s7
        have du7 := dn.keep (H' := H7) fun b o _ e => S7 _ _ e
        refine ⟨.ref du, rfl, _, _, d7.dp, du7.dp, d7.shaped, d7.shaped, false, congrArg V.bl (by rw [d7.eqv]; rfl), ?_⟩
        have s47 := s6.trans s7
        have er7 := s47 _ _ er4
        have esz7 := s47 _ _ esz4'
        have fa7 := fa4.same s47
        -- the sizes again
        refine ⟨.ref r, rfl, r, rfl, ⟨_, SqL.of er7⟩, fun D nD => ?_⟩
        refine lc_list (K := K) (a := r) (xs := [.ref l1, .ref l2, .ref l3, .ref l4]) (fun i Hc => Same H7 Hc ∧ Hc D = some (.lst (((xss.take i).map fun xs => ((xs.length : Int) + 1)).map V.int))) ⟨same_upd nD, upd_same⟩ (fun i Hc _ h => SqL.of (h.1 _ _ er7)) (fun i v Hc hv ⟨sc, eD⟩ => ?_) (fun H8 ⟨s8, e8⟩ => ?_)
        · obtain ⟨a, ha, rfl⟩ : ∃ a, [l1, l2, l3, l4][i]? = some a ∧ v = .ref a := by
            rw [show [V.ref l1, .ref l2, .ref l3, .ref l4] = [l1, l2, l3, l4].map V.ref from rfl, List.getElem?_map] at hv
            obtain ⟨a, h1, h2⟩ := Option.map_eq_some_iff.mp hv
            exact ⟨a, h1, h2.symm⟩
          obtain ⟨xs, hx, ex⟩ := fa7 i a ha
          have hi : i < 4 := (List.getElem?_eq_some_iff.mp ha).1
          rw [if_pos (show i < ([V.ref l1, .ref l2, .ref l3, .ref l4] : List V).length from hi)] at ex
          refine ⟨rfl, .ref a, rfl, a, _, rfl, .inl (SqL.of (sc _ _ ex)), _, eD, ?_, fun b o e => ?_, ?_⟩
          · rw [List.length_map, List.length_map, List.length_take]
            omega
          · rw [upd_ne (ne_of_none e nD)]
            exact sc b o e
          · rw [upd_same, List.take_add_one, hx, List.map_append, List.map_append, List.length_append]
            rfl
        rw [show ([V.ref l1, .ref l2, .ref l3, .ref l4] : List V).length = xss.length from lx4.symm, List.take_length] at e8
        refine ⟨.ref sz, rfl, _, _, .lst (SqL.of e8) (dpI _), .lst (SqL.of (s8 _ _ esz7)) (dpI _), shI _, shI _, _, rfl, ?_⟩
        rw [show PyData.eqv (.list ((xss.map fun xs => ((xs.length : Int) + 1)).map PyData.int)) (.list ((xss.map fun xs => ((xs.length : Int) + 1)).map PyData.int)) = true from SeqAt.eqv_refl _ (SeqAt.canLay_of_shaped (shI _))]
        have er8 := s8 _ _ er7
        have fa8 := fa7.same s8
        refine ⟨.ref r, rfl, r, rfl, ⟨_, SqL.of er8⟩, fun D2 nD2 => ?_⟩
        refine lc_list (K := K) (a := r) (xs := [.ref l1, .ref l2, .ref l3, .ref l4]) (fun i Hc => Same H8 Hc ∧ Hc D2 = some (.lst (([V.bl true, .bl true, .bl true, .bl true] : List V).take i))) ⟨same_upd nD2, upd_same⟩ (fun i Hc _ h => SqL.of (h.1 _ _ er8)) (fun i v Hc hv ⟨sc, eD⟩ => ?_) (fun H9 ⟨s9, e9⟩ => ?_)
        · obtain ⟨a, ha, rfl⟩ : ∃ a, [l1, l2, l3, l4][i]? = some a ∧ v = .ref a := by
            rw [show [V.ref l1, .ref l2, .ref l3, .ref l4] = [l1, l2, l3, l4].map V.ref from rfl, List.getElem?_map] at hv
            obtain ⟨a, h1, h2⟩ := Option.map_eq_some_iff.mp hv
            exact ⟨a, h1, h2.symm⟩
          obtain ⟨xs, hx, ex⟩ := fa8 i a ha
          have hi : i < 4 := (List.getElem?_eq_some_iff.mp ha).1
          rw [if_pos (show i < ([V.ref l1, .ref l2, .ref l3, .ref l4] : List V).length from hi)] at ex
          refine ⟨rfl, .ref a, rfl, 1, rfl, a, _, -1, .non, rfl, rfl, SqL.of (sc _ _ ex), at_end xs .non, rfl, _, eD, ?_, fun b o e => ?_, ?_⟩
          · rw [List.length_take]
            show min i 4 < _
            omega
          · rw [upd_ne (ne_of_none e nD2)]
            exact sc b o e
          · rw [upd_same, List.take_add_one]
            match i, hi with
            | 0, _ => rfl
            | 1, _ => rfl
            | 2, _ => rfl
            | 3, _ => rfl
        refine ⟨by show 1 ≤ sizeLine; decide, fun g1 m1 => ⟨g1, 4, _, rfl, rfl, upd_same, by decide, by decide, by show 1 * 4 ≤ sizeLine; decide, fun g2 m2 => ?_⟩⟩
        have T2 := (same_upd (o := .lst [.bl true]) m1).trans (same_upd (o := .lst (List.replicate (Int.toNat 4) [V.bl true]).flatten) m2)
        refine ⟨.list [.bool true, .bool true, .bool true, .bool true], .list [.bool true, .bool true, .bool true, .bool true], .lst (SqL.of (T2 _ _ e9)) (.cons (.bl _) (.cons (.bl _) (.cons (.bl _) (.cons (.bl _) .nil)))), .lst (SqL.of upd_same) (.cons (.bl _) (.cons (.bl _) (.cons (.bl _) (.cons (.bl _) .nil)))), by decide +kernel, by decide +kernel, ?_⟩
        rw [show PyData.eqv (.list [.bool true, .bool true, .bool true, .bool true]) (.list [.bool true, .bool true, .bool true, .bool true]) = true from by simp [PyData.eqv, PyData.eqvAll]]
        exact q _ (((S7.trans s8).trans s9).trans T2)
end
end WB

set_option Elab.async false
set_option linter.all false
set_option maxRecDepth 100000
set_option maxHeartbeats 4000000
namespace WB
open PySem PySem.Spec PyProof.Rows L2 WG
open AutoSeq1 (wpAny_loadPart')
open MeetsSeq MeetsSeq2 MeetsSeq3 SeqRoads2
open TL (tl)
/-! ### a list beside the list without items -/
section
variable {prog : Program} {w : World} {A : Around} {E : Value → Shared → Prop} {s : Shared} {Q : Value → Shared → Prop} {l m : Addr} {its jts : Array Value} {n n2 : Nat}
theorem rc_size (hu : A.units < cLine) (h1 : s.heap.get? l = some { cls := .type "list", data := .seq its n }) (h2 : s.heap.get? m = some { cls := .type "list", data := .seq jts n2 }) (hne : its.size ≠ jts.size) (q : Q (.bool false) s) : wpAny (model prog w) A (richCompare .Eq (.ref l) (.ref m)) Q E s := by
  refine wpAny_richCompare_same_room (op := .Eq) ⟨_, h1, rfl⟩ ⟨_, h2, rfl⟩ F.slot_list_eq (GQ.call_here F.slot_list_eq ⟨_, h1, rfl⟩ F.entry_list_eq (F.args_list_eq_2 _ _) ?_) hu
  have f3 := AutoSeq1.sub_list_list
  have hne' : (its.size != jts.size) = true := by simpa using hne
  obtain ⟨hp, g, d, tk, os⟩ := s
  wp_walk using wpAny_loadPart' h1, wpAny_loadPart' h2
  exact ⟨(fun z => nomatch z), q⟩
theorem rc_sizeN (hu : A.units < cLine) (h1 : s.heap.get? l = some { cls := .type "list", data := .seq its n }) (h2 : s.heap.get? m = some { cls := .type "list", data := .seq jts n2 }) (hne : its.size ≠ jts.size) (q : Q (.bool true) s) : wpAny (model prog w) A (richCompare .NotEq (.ref l) (.ref m)) Q E s := by
  refine wpAny_richCompare_same_room (op := .NotEq) ⟨_, h1, rfl⟩ ⟨_, h2, rfl⟩ F.slot_list_ne (GQ.call_here F.slot_list_ne ⟨_, h1, rfl⟩ F.entry_list_ne (F.args_list_ne_2 _ _) ?_) hu
  have f3 := AutoSeq1.sub_list_list
  have hne' : (its.size != jts.size) = true := by simpa using hne
  obtain ⟨hp, g, d, tk, os⟩ := s
  wp_walk using wpAny_loadPart' h1, wpAny_loadPart' h2
  exact ⟨(fun z => nomatch z), q⟩
end
end WB

set_option Elab.async false
set_option linter.all false
set_option maxRecDepth 100000
set_option maxHeartbeats 4000000
namespace WB
open PySem PySem.Spec PyProof.Rows L2 WG
open TL (tl)
abbrev st_is_good : Stmt := topS 57
theorem sc_is_good : FnScope ["_law_at", "_law_one", "_law_text_here"] ["_law_at", "_law_one"] (defScope st_is_good) := ⟨rfl, rfl, rfl, by decide +kernel, rfl, by decide +kernel, by decide +kernel⟩
def rEqE : R2 := fun x y H Q => ∃ (l m : Addr) (xs : List V), x = .ref l ∧ y = .ref m ∧ H l = some (.lst xs) ∧ H m = some (.lst []) ∧ Q (.bl xs.isEmpty) H
def rNeE : R2 := fun x y H Q => ∃ (l m : Addr) (xs : List V), x = .ref l ∧ y = .ref m ∧ H l = some (.lst xs) ∧ H m = some (.lst []) ∧ Q (.bl (!xs.isEmpty)) H
section
variable {X : Cx}
theorem op_eqE (hu : X.A.units + 64 < cLine) : OpR X (compareOp .Eq) rEqE := by
  intro pins s σ H x y v u Q I rx ry h
  obtain ⟨l, m, xs, rfl, rfl, el, em, q⟩ := h
  cases xs with
  | nil => exact op_eqD hu pins s σ H _ _ v u Q I rx ry ⟨.list [], .list [], .lst (SqL.of el) .nil, .lst (SqL.of em) .nil, by decide +kernel, by decide +kernel, by simpa [PyData.eqv, PyData.eqvAll] using q⟩
  | cons z r =>
    cases rx
    cases ry
    obtain ⟨_, its, n, rv, g⟩ := (show ObjOk _ _ H s.heap l (.lst (z :: r)) from I.hok l _ el)
    obtain ⟨_, jts, n2, rv2, g2⟩ := (show ObjOk _ _ H s.heap m (.lst []) from I.hok m _ em)
    have h1 := rv.length
    have h2 := rv2.length
    refine rc_size (by omega) g g2 ?_ ⟨.bl false, H, I, rfl, q⟩
    rw [List.size_toArray, List.size_toArray, ← h1, ← h2]
    simp
theorem op_neE (hu : X.A.units + 64 < cLine) : OpR X (compareOp .NotEq) rNeE := by
  intro pins s σ H x y v u Q I rx ry h
  obtain ⟨l, m, xs, rfl, rfl, el, em, q⟩ := h
  cases xs with
  | nil => exact op_neD hu pins s σ H _ _ v u Q I rx ry ⟨.list [], .list [], .lst (SqL.of el) .nil, .lst (SqL.of em) .nil, by decide +kernel, by decide +kernel, by simpa [PyData.eqv, PyData.eqvAll] using q⟩
  | cons z r =>
    cases rx
    cases ry
    obtain ⟨_, its, n, rv, g⟩ := (show ObjOk _ _ H s.heap l (.lst (z :: r)) from I.hok l _ el)
    obtain ⟨_, jts, n2, rv2, g2⟩ := (show ObjOk _ _ H s.heap m (.lst []) from I.hok m _ em)
    have h1 := rv.length
    have h2 := rv2.length
    refine rc_sizeN (by omega) g g2 ?_ ⟨.bl true, H, I, rfl, q⟩
    rw [List.size_toArray, List.size_toArray, ← h1, ← h2]
    simp
end
theorem filter_allV (p : V → Bool) : ∀ l : List V, (l.filter fun c => !p c).isEmpty = l.all p
  | [] => rfl
  | c :: r => by
    cases h : p c with
    | true =>
      rw [List.filter_cons_of_neg (by rw [h]; decide), filter_allV p r, List.all_cons, h, Bool.true_and]
    | false =>
      rw [List.filter_cons_of_pos (by rw [h]; rfl), List.all_cons, h]
      rfl
theorem filter_on {p : V → Bool} {xs : List V} {i : Nat} {x : V} (h : xs[i]? = some x) (hp : p x = false) : (xs.take (i + 1)).filter (fun c => !p c) = (xs.take i).filter (fun c => !p c) ++ [x] := by
  rw [List.take_add_one, h, List.filter_append]
  simp [hp]
theorem filter_off {p : V → Bool} {xs : List V} {i : Nat} {x : V} (h : xs[i]? = some x) (hp : p x = true) : (xs.take (i + 1)).filter (fun c => !p c) = (xs.take i).filter (fun c => !p c) := by
  rw [List.take_add_one, h, List.filter_append]
  simp [hp]
section
variable {P : Program} {w : World} {K : PySem.W.Frag} {mg : Str → Option Value} {base : Heap}
/-- good at its place -/
def gd (CO CP CC : Addr) (H : Hp) (n : Nat) (v : V) : Bool := if n = 1 then isC H CO v else if n = 2 then isC H CP v else if n = 4 then isC H CC v else grp H v
def spGd (CO CP CC : Addr) : Sp := fun xs H Q _ => ∃ (n : Nat) (v : V), xs = [.int n, v] ∧ Wf [CO, CP, CC] H v ∧ ∀ H', Same H H' → Q (.bl (gd CO CP CC H n v)) H'
theorem ok_isGood {CO CP CC f : Addr} {fd : FuncData} {k : Nat} (F : Fun K "_law_is_good" "_law_is_good" st_is_good f fd) (c : Cl3 K [CO, CP, CC]) (gO : mg "Option" = some (.ref CO)) (gP : mg "Place" = some (.ref CP)) (gC : mg "Command" = some (.ref CC))
    (m_len : mg "len" = none) (m_list : mg "list" = none) (m_str : mg "str" = none) (m_isinstance : mg "isinstance" = none) : FnOk P w K mg base CX0 (k + 1) f fd ["_law_at", "_law_one"] (spGd CO CP CC) := by
  refine F.ok sc_is_good (fun vs H Q E h => ?_) (fun cdv A outer s H vs Q E hr h => ?_)
  · obtain ⟨n, v, rfl, _⟩ := h
    rfl
  · obtain ⟨n, v, rfl, wv, q⟩ := h
    have sl : sizeLine = 16777216 := sizeLine_eq
    refine ⟨_, pss_cons (ps_if (pt_cmpR op_eq (pv 0) pe_int (nomark _)) (pss_one (ps_ret (pe_callB (r := rIsi K) call_isi (by rfl) m_isinstance (by decide +kernel) (pa_cons (pv 1) (pa_cons (pe_glob (v := .ref CO) rfl gO rfl) pa_nil))))) pss_nil)
      (pss_cons (ps_if (pt_cmpR op_eq (pv 0) pe_int (nomark _)) (pss_one (ps_ret (pe_callB (r := rIsi K) call_isi (by rfl) m_isinstance (by decide +kernel) (pa_cons (pv 1) (pa_cons (pe_glob (v := .ref CP) rfl gP rfl) pa_nil))))) pss_nil)
      (pss_cons (ps_if (pt_cmpR op_eq (pv 0) pe_int (nomark _)) (pss_one (ps_ret (pe_callB (r := rIsi K) call_isi (by rfl) m_isinstance (by decide +kernel) (pa_cons (pv 1) (pa_cons (pe_glob (v := .ref CC) rfl gC rfl) pa_nil))))) pss_nil)
      (pss_cons (ps_if (PW.pt (pw_or (pt_not (pt_val (pe_callB (r := rIsi K) call_isi (by rfl) m_isinstance (by decide +kernel) (pa_cons (pv 1) (pa_cons (pe_bltn (v := .ty "list") (by rfl) m_list (by decide +kernel) rfl) pa_nil))))) (pw_or (pt_cmpR op_lt (pe_callB call_len_seq (by rfl) m_len PySem.boot_len (pa_cons (pv 1) pa_nil)) pe_int (nomark _)) (pw_or1 (pt_cmpR op_gt (pe_callB call_len_seq (by rfl) m_len PySem.boot_len (pa_cons (pv 1) pa_nil)) pe_int (nomark _)))))) (pss_one (ps_ret pe_bl)) pss_nil)
      (pss_one (ps_ret (pe_cmpR (op_eqE hr.units) (pe_lc (own := [("_law_text_here", 2)]) (g := gName 2) rfl sc_is_good.nd (pi_list (pv 1)) (blkOk_by (N := ["_law_at", "_law_one", "_law_text_here"]) (sc := defScope st_is_good) (by decide +kernel)) (fun _ _ _ _ _ => (pg_name (i := 2) sc_is_good.nd rfl (Or.inl rfl))) (fun _ _ _ _ _ => pts_one (pt_not (pt_val (pe_callB (r := rIsi K) call_isi (by rfl) m_isinstance (by decide +kernel) (pa_cons (pv 2) (pa_cons (pe_bltn (v := .ty "str") (by rfl) m_str (by decide +kernel) rfl) pa_nil)))))) (fun _ _ _ _ _ => (pv 2))) (pe_lst pa_nil) (nomark _))))))), ?_⟩
    obtain ⟨t, ht, hC, hL, hS⟩ := wv.ty c
    have ni : ∀ m : Nat, decide (V.int (n : Int) = V.int (m : Int)) = decide (n = m) := fun m => decide_eq_decide.mpr ⟨fun e => by have := V.int.inj e; omega, fun e => by rw [e]⟩
    unfold gd at q
    refine ⟨.int n, rfl, rfl, _, rfl, ite2 (fun e1 => ?_) (fun e1 => ?_)⟩
    · have n1 : n = 1 := of_decide_eq_true (by rw [← ni 1]; exact e1)
      rw [if_pos n1] at q
      exact ⟨v, rfl, v, _, t, _, _, rfl, ClsV.own CO, ht, hC CO (by simp), q _ (Same.refl _)⟩
    have n1 : ¬ n = 1 := fun z => e1 (by show decide (V.int (n : Int) = V.int ((1 : Nat) : Int)) = true; rw [ni 1, decide_eq_true z])
    rw [if_neg n1] at q
    refine ⟨.int n, rfl, rfl, _, rfl, ite2 (fun e2 => ?_) (fun e2 => ?_)⟩
    · have n2 : n = 2 := of_decide_eq_true (by rw [← ni 2]; exact e2)
      rw [if_pos n2] at q
      exact ⟨v, rfl, v, _, t, _, _, rfl, ClsV.own CP, ht, hC CP (by simp), q _ (Same.refl _)⟩
    have n2 : ¬ n = 2 := fun z => e2 (by show decide (V.int (n : Int) = V.int ((2 : Nat) : Int)) = true; rw [ni 2, decide_eq_true z])
    rw [if_neg n2] at q
    refine ⟨.int n, rfl, rfl, _, rfl, ite2 (fun e4 => ?_) (fun e4 => ?_)⟩
    · have n4 : n = 4 := of_decide_eq_true (by rw [← ni 4]; exact e4)
      rw [if_pos n4] at q
      exact ⟨v, rfl, v, _, t, _, _, rfl, ClsV.own CC, ht, hC CC (by simp), q _ (Same.refl _)⟩
    have n4 : ¬ n = 4 := fun z => e4 (by show decide (V.int (n : Int) = V.int ((4 : Nat) : Int)) = true; rw [ni 4, decide_eq_true z])
    rw [if_neg n4] at q
    unfold grp at q
    refine ⟨v, rfl, v, _, t, _, _, rfl, ClsV.ty "list", ht, hL, _, rfl, ?_⟩
    cases b : isL H v with
    | false =>
      rw [b] at q
      exact q _ (Same.refl _)
    | true =>
      rw [b] at q
      obtain ⟨a, rfl, ea⟩ := wv.list b
      obtain ⟨le, hw⟩ := wv.items
      revert q
      generalize its H (.ref a) = ys at *
      intro q
      refine ⟨.ref a, rfl, a, _, rfl, .inl (SqL.of ea), _, _, rfl, rfl, _, rfl, ite2 (fun e => ?_) (fun e => ?_)⟩
      · have e' : (ys.length : Int) < 2 := of_decide_eq_true e
        rw [decide_eq_false (p := 2 ≤ ys.length) (by omega)] at q
        simp only [Bool.and_false, Bool.false_and] at q
        exact q _ (Same.refl _)
      have e' : ¬ (ys.length : Int) < 2 := fun z => e (decide_eq_true z)
      refine ⟨.ref a, rfl, a, _, rfl, .inl (SqL.of ea), _, _, rfl, rfl, _, rfl, ite2 (fun e6 => ?_) (fun e6 => ?_)⟩
      · have e6' : (ys.length : Int) > 6 := of_decide_eq_true e6
        rw [decide_eq_false (p := ys.length ≤ 6) (by omega)] at q
        simp only [Bool.and_false, Bool.false_and] at q
        exact q _ (Same.refl _)
      have e6' : ¬ (ys.length : Int) > 6 := fun z => e6 (decide_eq_true z)
      rw [decide_eq_true (p := ys.length ≤ 6) (by omega), decide_eq_true (p := 2 ≤ ys.length) (by omega)] at q
      refine ⟨.ref a, rfl, a, rfl, ⟨_, SqL.of ea⟩, fun D nD => ?_⟩
      refine lc_list (K := K) (a := a) (xs := ys) (fun i Hc => Same H Hc ∧ Hc D = some (.lst ((ys.take i).filter fun x => !isS x))) ⟨same_upd nD, upd_same⟩ (fun i Hc _ h => SqL.of (h.1 _ _ ea)) (fun i x Hc hx ⟨sc, eD⟩ => ?_) (fun Hc ⟨sc, eD⟩ => ?_)
      · have wx := (hw x (List.mem_of_getElem? hx)).same sc
        obtain ⟨t', ht', _, _, hS'⟩ := wx.ty c
        refine ⟨rfl, x, rfl, x, _, t', _, _, rfl, ClsV.ty "str", ht', hS', _, rfl, ?_⟩
        cases b' : isS x with
        | true =>
          refine ⟨sc, ?_⟩
          rw [filter_off hx b']
          exact eD
        | false =>
          refine ⟨x, rfl, _, eD, ?_, fun b o e => ?_, ?_⟩
          · have := List.length_filter_le (fun x => !isS x) (ys.take i)
            rw [List.length_take] at this
            omega
          · rw [upd_ne (ne_of_none e nD)]
            exact sc b o e
          · rw [upd_same, filter_on hx b']
      · rw [List.take_length] at eD
        refine ⟨by show 0 ≤ sizeLine; decide, fun l0 n0 => ⟨D, l0, _, rfl, rfl, same_upd n0 _ _ eD, upd_same, ?_⟩⟩
        rw [filter_allV]
        simp only [Bool.and_true, Bool.true_and] at q
        exact q _ (sc.trans (same_upd n0))
end
end WB

set_option Elab.async false
set_option linter.all false
set_option maxRecDepth 100000
set_option maxHeartbeats 4000000
namespace WB
open PySem PySem.Spec PyProof.Rows L2 WG
open TL (tl)
abbrev st_wrong : Stmt := topS 58
theorem sc_wrong : FnScope ["_law_told_here", "_law_at", "_law_most", "_law_one"] ["_law_told_here"] (defScope st_wrong) := ⟨rfl, rfl, rfl, by decide +kernel, rfl, by decide +kernel, by decide +kernel⟩
section
variable {P : Program} {w : World} {K : PySem.W.Frag} {mg : Str → Option Value} {base : Heap}
def mostN : Nat → Nat
  | 0 => 12
  | 1 => 6
  | 2 => 4
  | _ => 8
def fieldN : Nat → Str
  | 0 => Str.ofString "options"
  | 1 => Str.ofString "places"
  | 2 => Str.ofString "groups"
  | _ => Str.ofString "commands"
def spWrong (CO CP CC : Addr) : Sp := fun xs H Q _ => ∃ (T : Addr) (v0 v1 v2 v3 v4 v5 : V), xs = [.ref T] ∧ H T = some (.lst [v0, v1, v2, v3, v4, v5]) ∧ (Thg H v0 ∧ Wf [CO, CP, CC] H v1 ∧ Wf [CO, CP, CC] H v2 ∧ Wf [CO, CP, CC] H v3 ∧ Wf [CO, CP, CC] H v4 ∧ Thg H v5) ∧ ∀ H', Same H H' → Q (.str (wrongC CO CP CC H v0 v1 v2 v3 v4 v5)) H'
theorem wrong_at {CO CP CC : Addr} {H : Hp} {v0 v1 v2 v3 v4 v5 : V} (b0 : isNm v0 = true) {i : Nat} (hi : i < 4) {v : V} (hv : [v1, v2, v3, v4][i]? = some v) (ok : ∀ j u, j < i → [v1, v2, v3, v4][j]? = some u → ol H (mostN j) (gd CO CP CC H (j + 1)) u = true) (no : ol H (mostN i) (gd CO CP CC H (i + 1)) v = false) : wrongC CO CP CC H v0 v1 v2 v3 v4 v5 = fieldN i := by
  unfold wrongC
  rw [if_neg (by rw [b0]; decide)]
  match i, hi, hv with
  | 0, _, hv =>
    cases hv
    rw [if_pos (show ol H 12 (isC H CO) v1 = false from no)]
    rfl
  | 1, _, hv =>
    cases hv
    rw [if_neg (by rw [show ol H 12 (isC H CO) v1 = true from ok 0 v1 (by decide) rfl]; decide), if_pos (show ol H 6 (isC H CP) v2 = false from no)]
    rfl
  | 2, _, hv =>
    cases hv
    rw [if_neg (by rw [show ol H 12 (isC H CO) v1 = true from ok 0 v1 (by decide) rfl]; decide), if_neg (by rw [show ol H 6 (isC H CP) v2 = true from ok 1 v2 (by decide) rfl]; decide), if_pos (show ol H 4 (grp H) v3 = false from no)]
    rfl
  | 3, _, hv =>
    cases hv
    rw [if_neg (by rw [show ol H 12 (isC H CO) v1 = true from ok 0 v1 (by decide) rfl]; decide), if_neg (by rw [show ol H 6 (isC H CP) v2 = true from ok 1 v2 (by decide) rfl]; decide), if_neg (by rw [show ol H 4 (grp H) v3 = true from ok 2 v3 (by decide) rfl]; decide), if_pos (show ol H 8 (isC H CC) v4 = false from no)]
    rfl
theorem wrong_end {CO CP CC : Addr} {H : Hp} {v0 v1 v2 v3 v4 v5 : V} (b0 : isNm v0 = true) (ok : ∀ j u, j < 4 → [v1, v2, v3, v4][j]? = some u → ol H (mostN j) (gd CO CP CC H (j + 1)) u = true) : wrongC CO CP CC H v0 v1 v2 v3 v4 v5 = if isAb v5 = false then Str.ofString "about" else Str.ofString "" := by
  unfold wrongC
  rw [if_neg (by rw [b0]; decide), if_neg (by rw [show ol H 12 (isC H CO) v1 = true from ok 0 v1 (by decide) rfl]; decide), if_neg (by rw [show ol H 6 (isC H CP) v2 = true from ok 1 v2 (by decide) rfl]; decide), if_neg (by rw [show ol H 4 (grp H) v3 = true from ok 2 v3 (by decide) rfl]; decide), if_neg (by rw [show ol H 8 (isC H CC) v4 = true from ok 3 v4 (by decide) rfl]; decide)]
theorem Wf.gd {CO CP CC : Addr} {H H' : Hp} {v : V} (h : Wf [CO, CP, CC] H v) (s : Same H H') (n : Nat) : WB.gd CO CP CC H' n v = WB.gd CO CP CC H n v := by
  unfold WB.gd
  rw [(h.at_ s).2.2, (h.at_ s).2.2, (h.at_ s).2.2, h.grp s]
theorem ok_wrongL {CO CP CC f fN fA fG : Addr} {fd fdN fdA fdG : FuncData} {k : Nat} (F : Fun K "_law_wrong" "_law_wrong" st_wrong f fd) (c : Cl3 K [CO, CP, CC]) (D_w_is_name : Df K mg "_law_is_name" st_w_is_name ["_law_thing"] fN fdN) (D_w_is_about : Df K mg "_law_is_about" st_w_is_about ["_law_thing"] fA fdA) (D_is_good : Df K mg "_law_is_good" st_is_good ["_law_at", "_law_one"] fG fdG)
    (gO : mg "Option" = some (.ref CO)) (gP : mg "Place" = some (.ref CP)) (gC : mg "Command" = some (.ref CC)) (m_len : mg "len" = none) (m_range : mg "range" = none) (m_list : mg "list" = none) (m_str : mg "str" = none) (m_isinstance : mg "isinstance" = none) :
    FnOk P w K mg base CX0 (k + 2) f fd ["_law_told_here"] (spWrong CO CP CC) := by
  have G_w_is_name : FnOk P w K mg base CX0 (k + 1) fN fdN ["_law_thing"] (spOf isNm) := ok_wName D_w_is_name.F m_len m_str m_isinstance
  have G_w_is_about : FnOk P w K mg base CX0 (k + 1) fA fdA ["_law_thing"] (spOf isAb) := ok_wAbout D_w_is_about.F m_len m_str m_isinstance
  have G_is_good : FnOk P w K mg base CX0 (k + 1) fG fdG ["_law_at", "_law_one"] (spGd CO CP CC) := ok_isGood D_is_good.F c gO gP gC m_len m_list m_str m_isinstance
  refine F.ok sc_wrong (fun vs H Q E h => ?_) (fun cdv A outer s H vs Q E hr h => ?_)
  · obtain ⟨T, v0, v1, v2, v3, v4, v5, rfl, _⟩ := h
    rfl
  · obtain ⟨T, v0, v1, v2, v3, v4, v5, rfl, eT, ⟨t0, w1, w2, w3, w4, t5⟩, q⟩ := h
    have sl : sizeLine = 16777216 := sizeLine_eq
    refine ⟨_, pss_cons (ps_if (pt_not (pt_val (pe_call G_w_is_name hr (by rfl) D_w_is_name.g D_w_is_name.F.kp D_w_is_name.b .nil pass0 (pa_cons (pe_ix ix_list (pv 0) pe_int (fun _ _ => rfl)) pa_nil)))) (pss_one (ps_ret pe_str)) pss_nil)
      (pss_cons (ps_for PassesOwn.never rfl (pi_range2 rfl m_range (pa_cons pe_int (pa_cons pe_int pa_nil))) (pg_name (i := 1) sc_wrong.nd rfl (Or.inr rfl)) (pss_cons (ps_set (i := 2) sc_wrong.nd rfl (.inl rfl) (pe_ix ix_list (pe_lst (pa_cons pe_int (pa_cons pe_int (pa_cons pe_int (pa_cons pe_int pa_nil))))) (pe_op op_sub (pv 1) pe_int) (fun _ _ => rfl)))
      (pss_one (ps_if (pt_cmpR op_notN (pe_ix ix_list (pv 0) (pv 1) (fun _ _ => rfl)) pe_non (nomark _)) (pss_cons (ps_if (PW.pt (pw_or (pt_not (pt_val (pe_callB call_isi (by rfl) m_isinstance (by decide +kernel) (pa_cons (pe_ix ix_list (pv 0) (pv 1) (fun _ _ => rfl)) (pa_cons (pe_bltn (v := .ty "list") (by rfl) m_list (by decide +kernel) rfl) pa_nil))))) (pw_or1 (pt_cmpR op_gt (pe_callB call_len_seq (by rfl) m_len PySem.boot_len (pa_cons (pe_ix ix_list (pv 0) (pv 1) (fun _ _ => rfl)) pa_nil)) (pv 2) (nomark _))))) (pss_one (ps_ret (pe_ix ix_list (pe_lst (pa_cons pe_str (pa_cons pe_str (pa_cons pe_str (pa_cons pe_str pa_nil))))) (pe_op op_sub (pv 1) pe_int) (fun _ _ => rfl)))) pss_nil)
      (pss_one (ps_if (pt_cmpR (op_neE hr.units) (pe_lc (own := [("_law_one", 3)]) (g := gName 3) rfl sc_wrong.nd (pi_list (pe_ix ix_list (pv 0) (pv 1) (fun _ _ => rfl))) (blkOk_by (N := ["_law_told_here", "_law_at", "_law_most", "_law_one"]) (sc := defScope st_wrong) (by decide +kernel)) (fun _ _ _ _ _ => (pg_name (i := 3) sc_wrong.nd rfl (Or.inl rfl))) (fun _ _ _ _ _ => pts_one (pt_not (pt_val (pe_call G_is_good hr (by rfl) D_is_good.g D_is_good.F.kp D_is_good.b .nil pass0 (pa_cons (pv 1) (pa_cons (pv 3) pa_nil)))))) (fun _ _ _ _ _ => (pv 3))) (pe_lst pa_nil) (nomark _)) (pss_one (ps_ret (pe_ix ix_list (pe_lst (pa_cons pe_str (pa_cons pe_str (pa_cons pe_str (pa_cons pe_str pa_nil))))) (pe_op op_sub (pv 1) pe_int) (fun _ _ => rfl)))) pss_nil))) pss_nil))))
      (pss_one (ps_ret (pe_ifExp (pt_val (pe_call G_w_is_about hr (by rfl) D_w_is_about.g D_w_is_about.F.kp D_w_is_about.b .nil pass0 (pa_cons (pe_ix ix_list (pv 0) pe_int (fun _ _ => rfl)) pa_nil))) pe_str pe_str)))), ?_⟩
    refine ⟨.ref T, rfl, T, _, 0, v0, rfl, rfl, SqL.of eT, rfl, v0, rfl, t0, fun H1 s1 => ⟨_, rfl, ?_⟩⟩
    cases b0 : isNm v0 with
    | false =>
      rw [show wrongC CO CP CC H v0 v1 v2 v3 v4 v5 = Str.ofString "name" from by unfold wrongC; rw [if_pos b0]] at q
      exact q _ s1
    | true =>
      refine ⟨1, 5, rfl, by decide, for_range (lo := 1) (n := 4) (fun i σ H' => Same H H' ∧ (∀ j u, j < i → [v1, v2, v3, v4][j]? = some u → ol H (mostN j) (gd CO CP CC H (j + 1)) u = true) ∧ ∃ x1 x2, σ = [some (.ref T), x1, x2, none]) ⟨s1, (fun j u hj => by omega), none, none, rfl⟩ ?_ ?_⟩
      · rintro i σ H2 hi ⟨s2, ok, x1, x2, rfl⟩
        obtain ⟨v, hv, wv⟩ : ∃ v, [v1, v2, v3, v4][i]? = some v ∧ Wf [CO, CP, CC] H v := by
          match i, hi with
          | 0, _ => exact ⟨_, rfl, w1⟩
          | 1, _ => exact ⟨_, rfl, w2⟩
          | 2, _ => exact ⟨_, rfl, w3⟩
          | 3, _ => exact ⟨_, rfl, w4⟩
        have hat : atI [V.int 12, .int 6, .int 4, .int 8] (1 + (i : Int) - 1) = some (.int (mostN i)) := by
          match i, hi with
          | 0, _ => rfl
          | 1, _ => rfl
          | 2, _ => rfl
          | 3, _ => rfl
        have haf : atI [V.str (Str.ofString "options"), .str (Str.ofString "places"), .str (Str.ofString "groups"), .str (Str.ofString "commands")] (1 + (i : Int) - 1) = some (.str (fieldN i)) := by
          match i, hi with
          | 0, _ => rfl
          | 1, _ => rfl
          | 2, _ => rfl
          | 3, _ => rfl
        have hvt : atI [v0, v1, v2, v3, v4, v5] (1 + (i : Int)) = some v := by
          match i, hi, hv with
          | 0, _, hv => exact hv
          | 1, _, hv => exact hv
          | 2, _, hv => exact hv
          | 3, _, hv => exact hv
        have ei : (1 + (i : Int)) = ((i + 1 : Nat) : Int) := by omega
        refine ⟨by show 4 ≤ sizeLine; decide, fun ml nml => ⟨.int (1 + (i : Int)), rfl, _, _, rfl, rfl, ml, _, _, .int (mostN i), rfl, rfl, SqL.of upd_same, hat, ?_⟩⟩
        have s3 := s2.trans (same_upd (o := .lst [V.int 12, .int 6, .int 4, .int 8]) nml)
        revert s3
        generalize upd H2 ml (.lst [V.int 12, .int 6, .int 4, .int 8]) = H3
        intro s3
        have eT3 := s3 _ _ eT
        have fin : ∀ {Hx : Hp}, Same H Hx → ol H (mostN i) (gd CO CP CC H (i + 1)) v = true → Same H Hx ∧ (∀ j u, j < i + 1 → [v1, v2, v3, v4][j]? = some u → ol H (mostN j) (gd CO CP CC H (j + 1)) u = true) ∧ ∃ x1 x2, [some (V.ref T), some (V.int (1 + (i : Int))), some (V.int (mostN i)), none] = [some (.ref T), x1, x2, none] := fun sx o => ⟨sx, fun j u hj hu => by
          by_cases z : j = i
          · subst z
            rw [hv] at hu
            cases hu
            exact o
          · exact ok j u (by omega) hu, _, _, rfl⟩
        have bad : ∀ {Hx : Hp}, Same H Hx → ol H (mostN i) (gd CO CP CC H (i + 1)) v = false → Q (.str (fieldN i)) Hx := fun sx o => by
          rw [wrong_at b0 hi hv ok o] at q
          exact q _ sx
        refine ⟨.ref T, rfl, .int (1 + (i : Int)), rfl, T, _, _, v, rfl, rfl, SqL.of eT3, hvt, rfl, _, rfl, ite2 (fun en => ?_) (fun en => ?_)⟩
        · have nn : v ≠ .non := fun z => by rw [z, decide_eq_true rfl] at en; cases en
          have oe : ol H (mostN i) (gd CO CP CC H (i + 1)) v = lok H (mostN i) (gd CO CP CC H (i + 1)) v := by unfold ol; rw [decide_eq_false nn, Bool.false_or]
          rw [oe] at fin bad
          unfold lok at fin bad
          obtain ⟨t, ht, _, hL, _⟩ := (wv.same s3).ty c
          rw [(wv.at_ s3).1] at hL
          refine ⟨.ref T, rfl, .int (1 + (i : Int)), rfl, T, _, _, v, rfl, rfl, SqL.of eT3, hvt, v, _, t, _, _, rfl, ClsV.ty "list", ht, hL, _, rfl, ?_⟩
          cases b : isL H v with
          | false =>
            rw [b] at bad
            exact ⟨by show 4 ≤ sizeLine; decide, fun fl nfl => ⟨.int (1 + (i : Int)), rfl, _, _, rfl, rfl, fl, _, _, .str (fieldN i), rfl, rfl, SqL.of upd_same, haf, bad (s3.trans (same_upd nfl)) rfl⟩⟩
          | true =>
            rw [b] at fin bad
            obtain ⟨a, rfl, ea⟩ := wv.list b
            obtain ⟨le, hw⟩ := wv.items
            revert fin bad
            generalize its H (.ref a) = ys at *
            intro fin bad
            refine ⟨.ref T, rfl, .int (1 + (i : Int)), rfl, T, _, _, .ref a, rfl, rfl, SqL.of eT3, hvt, a, _, rfl, .inl (SqL.of (s3 _ _ ea)), .int (mostN i), rfl, _, _, rfl, rfl, _, rfl, ite2 (fun eg => ?_) (fun eg => ?_)⟩
            · have eg' : (ys.length : Int) > (mostN i : Int) := of_decide_eq_true eg
              refine ⟨by show 4 ≤ sizeLine; decide, fun fl nfl => ⟨.int (1 + (i : Int)), rfl, _, _, rfl, rfl, fl, _, _, .str (fieldN i), rfl, rfl, SqL.of upd_same, haf, bad (s3.trans (same_upd nfl)) ?_⟩⟩
              rw [decide_eq_false (p := ys.length ≤ mostN i) (by omega)]
              rfl
            have eg' : ¬ (ys.length : Int) > (mostN i : Int) := fun z => eg (decide_eq_true z)
            rw [decide_eq_true (p := ys.length ≤ mostN i) (by omega)] at fin bad
            refine ⟨.ref T, rfl, .int (1 + (i : Int)), rfl, T, _, _, .ref a, rfl, rfl, SqL.of eT3, hvt, a, rfl, ⟨_, SqL.of (s3 _ _ ea)⟩, fun D nD => ?_⟩
            refine lc_list (K := K) (a := a) (xs := ys) (fun j Hc => Same H3 Hc ∧ Hc D = some (.lst ((ys.take j).filter fun x => !gd CO CP CC H (i + 1) x))) ⟨same_upd nD, upd_same⟩ (fun j Hc _ h => SqL.of (h.1 _ _ (s3 _ _ ea))) (fun j x Hc hx ⟨sc, eD⟩ => ?_) (fun Hc ⟨sc, eD⟩ => ?_)
            · have wx := hw x (List.mem_of_getElem? hx)
              refine ⟨rfl, .int (1 + (i : Int)), rfl, x, rfl, i + 1, x, by rw [ei]; rfl, wx.same (s3.trans sc), fun Hd sd => ⟨_, rfl, ?_⟩⟩
              rw [wx.gd (s3.trans sc)]
              cases b' : gd CO CP CC H (i + 1) x with
              | true =>
                refine ⟨sc.trans sd, ?_⟩
                rw [filter_off hx b']
                exact sd _ _ eD
              | false =>
                refine ⟨x, rfl, _, sd _ _ eD, ?_, fun b o e => ?_, ?_⟩
                · have := List.length_filter_le (fun x => !gd CO CP CC H (i + 1) x) (ys.take j)
                  rw [List.length_take] at this
                  omega
                · rw [upd_ne (ne_of_none e nD)]
                  exact sd _ _ (sc b o e)
                · rw [upd_same, filter_on hx b']
            · rw [List.take_length] at eD
              refine ⟨by show 0 ≤ sizeLine; decide, fun l0 n0 => ⟨D, l0, _, rfl, rfl, same_upd n0 _ _ eD, upd_same, _, rfl, ?_⟩⟩
              rw [filter_allV]
              have S5 := (s3.trans sc).trans (same_upd (o := .lst []) n0)
              cases b' : ys.all (gd CO CP CC H (i + 1)) with
              | true => exact fin S5 (by rw [b']; rfl)
              | false => exact ⟨by show 4 ≤ sizeLine; decide, fun fl nfl => ⟨.int (1 + (i : Int)), rfl, _, _, rfl, rfl, fl, _, _, .str (fieldN i), rfl, rfl, SqL.of upd_same, haf, bad (S5.trans (same_upd nfl)) (by rw [b']; rfl)⟩⟩
        · have nn : v = .non := by
            by_cases z : v = .non
            · exact z
            · exact absurd (by rw [decide_eq_false z]; rfl) en
          exact fin s3 (by unfold ol; rw [decide_eq_true nn]; rfl)
      · rintro σ H2 ⟨s2, ok, x1, x2, rfl⟩
        rw [wrong_end b0 ok] at q
        refine ⟨.ref T, rfl, T, _, 5, v5, rfl, rfl, SqL.of (s2 _ _ eT), rfl, v5, rfl, t5.same s2, fun H3 s3 => ⟨_, rfl, ?_⟩⟩
        cases b5 : isAb v5 with
        | true =>
          rw [b5] at q
          exact q _ (s2.trans s3)
        | false =>
          rw [b5] at q
          exact q _ (s2.trans s3)
end
end WB

set_option Elab.async false
set_option linter.all false
set_option maxRecDepth 100000
set_option maxHeartbeats 4000000
namespace WB
open PySem PySem.Spec PyProof.Rows L2 WG
open TL (tl)
abbrev st_many : Stmt := topS 53
theorem sc_many : FnScope ["_law_pot_here", "_law_most"] ["_law_pot_here", "_law_most"] (defScope st_many) := ⟨rfl, rfl, rfl, by decide +kernel, rfl, by decide +kernel, by decide +kernel⟩
abbrev st_due : Stmt := topS 60
theorem sc_due : FnScope ["_law_told_here", "_law_way"] ["_law_told_here", "_law_way"] (defScope st_due) := ⟨rfl, rfl, rfl, by decide +kernel, rfl, by decide +kernel, by decide +kernel⟩
section
variable {P : Program} {w : World} {K : PySem.W.Frag} {mg : Str → Option Value} {base : Heap}
def spMany : Sp := fun xs H Q _ => ∃ (p : Addr) (m : Int), xs = [.ref p, .int m] ∧ Pot H p ∧ 2 ≤ m ∧ m ≤ 100 ∧ ∀ H' (d : Int), But p H H' → Pot H' p → 0 ≤ d → d ≤ m → Q (.int d) H'
theorem ok_many {f fT : Addr} {fd fdT : FuncData} {k : Nat} (F : Fun K "_law_many" "_law_many" st_many f fd) (D_take : Df K mg "_law_take" sTake ["_law_pot_here", "_law_room"] fT fdT) : FnOk P w K mg base CX0 (k + 2) f fd ["_law_pot_here", "_law_most"] spMany := by
  have G_take : FnOk P w K mg base CX0 (k + 1) fT fdT ["_law_pot_here", "_law_room"] spTake := ok_take D_take.F
  refine F.ok sc_many (fun vs H Q E h => ?_) (fun cdv A outer s H vs Q E hr h => ?_)
  · obtain ⟨p, m, rfl, _⟩ := h
    rfl
  · obtain ⟨p, m, rfl, hp, m2, m100, q⟩ := h
    refine ⟨_, pss_one (ps_ret (pe_ix ix_list (pe_lst (pa_cons pe_int (pa_cons pe_int (pa_cons pe_int (pa_cons (pv 1) (pa_cons (pe_call G_take hr (by rfl) D_take.g D_take.F.kp D_take.b .nil pass0 (pa_cons (pv 0) (pa_cons (pe_op op_add (pv 1) pe_int) pa_nil))) pa_nil)))))) (pe_call G_take hr (by rfl) D_take.g D_take.F.kp D_take.b .nil pass0 (pa_cons (pv 0) (pa_cons pe_int pa_nil))) (fun _ _ => rfl))), ?_⟩
    refine ⟨.int m, rfl, .ref p, rfl, .int m, rfl, _, _, rfl, rfl, p, m + 1, rfl, hp, by omega, by omega, fun H1 d b1 p1 d0 d1 => ⟨by show 5 ≤ sizeLine; decide, fun l nl => ?_⟩⟩
    have nlp : l ≠ p := (p1.ne nl).symm
    refine ⟨.ref p, rfl, p, 5, rfl, p1.new nl, by decide, by decide, fun H2 e b2 p2 e0 e1 => ?_⟩
    obtain ⟨n, rfl⟩ := Int.eq_ofNat_of_zero_le e0
    have el : H2 l = some (.lst [.int 0, .int 1, .int 2, .int m, .int d]) := b2 _ _ nlp upd_same
    have B : But p H H2 := (b1.trans (But.new nl)).trans b2
    have hn : n < 5 := by omega
    match n, hn with
    | 0, _ => exact ⟨l, _, 0, .int 0, rfl, rfl, SqL.of el, rfl, q _ _ B p2 (by omega) (by omega)⟩
    | 1, _ => exact ⟨l, _, 1, .int 1, rfl, rfl, SqL.of el, rfl, q _ _ B p2 (by omega) (by omega)⟩
    | 2, _ => exact ⟨l, _, 2, .int 2, rfl, rfl, SqL.of el, rfl, q _ _ B p2 (by omega) (by omega)⟩
    | 3, _ => exact ⟨l, _, 3, .int m, rfl, rfl, SqL.of el, rfl, q _ _ B p2 (by omega) (by omega)⟩
    | 4, _ => exact ⟨l, _, 4, .int d, rfl, rfl, SqL.of el, rfl, q _ _ B p2 (by omega) (by omega)⟩
def dueC (way : Int) (v0 v1 v2 v3 v4 v5 : V) : List V := if way = 2 then [v0, v1, v2, .non, .non, .str (Str.ofString "")] else if way = 3 then [v0, .non, .non, v3, v4, .str (Str.ofString "")] else [v0, v1, v2, v3, v4, v5]
def spDue : Sp := fun xs H Q _ => ∃ (T : Addr) (way : Int) (v0 v1 v2 v3 v4 v5 : V), xs = [.ref T, .int way] ∧ H T = some (.lst [v0, v1, v2, v3, v4, v5]) ∧ ∀ H' l, Same H H' → H l = none → H' l = some (.lst (dueC way v0 v1 v2 v3 v4 v5)) → Q (.ref l) H'
theorem ok_due {f : Addr} {fd : FuncData} {k : Nat} (F : Fun K "_law_due" "_law_due" st_due f fd) (m_list : mg "list" = none) : FnOk P w K mg base CX0 (k + 1) f fd ["_law_told_here", "_law_way"] spDue := by
  refine F.ok sc_due (fun vs H Q E h => ?_) (fun cdv A outer s H vs Q E hr h => ?_)
  · obtain ⟨T, way, v0, v1, v2, v3, v4, v5, rfl, _⟩ := h
    rfl
  · obtain ⟨T, way, v0, v1, v2, v3, v4, v5, rfl, eT, q⟩ := h
    refine ⟨_, pss_cons (ps_if (pt_cmpR op_eq (pv 1) pe_int (nomark _)) (pss_one (ps_ret (pe_op op_cat (pe_slice sl_list (pv 0) po_none (po_some pe_int)) (pe_lst (pa_cons pe_non (pa_cons pe_non (pa_cons pe_str pa_nil))))))) pss_nil)
      (pss_cons (ps_if (pt_cmpR op_eq (pv 1) pe_int (nomark _)) (pss_one (ps_ret (pe_lst (pa_cons (pe_ix ix_list (pv 0) pe_int (fun _ _ => rfl)) (pa_cons pe_non (pa_cons pe_non (pa_cons (pe_ix ix_list (pv 0) pe_int (fun _ _ => rfl)) (pa_cons (pe_ix ix_list (pv 0) pe_int (fun _ _ => rfl)) (pa_cons pe_str pa_nil))))))))) pss_nil)
      (pss_one (ps_ret (pe_callTy call_list_of (by rfl) m_list (by decide +kernel) (pa_cons (pv 0) pa_nil))))), ?_⟩
    unfold dueC at q
    refine ⟨.int way, rfl, rfl, _, rfl, ite2 (fun e => ?_) (fun e => ?_)⟩
    · rw [if_pos (V.int.inj (of_decide_eq_true e))] at q
      refine ⟨.ref T, rfl, 3, rfl, T, _, rfl, SqL.of eT, fun l1 n1 => ⟨by show 3 ≤ sizeLine; decide, fun l2 n2 => ?_⟩⟩
      rw [show cutV [v0, v1, v2, v3, v4, v5] none (some 3) = [v0, v1, v2] from rfl] at *
      have t1 := same_upd (o := .lst [v0, v1, v2]) n1
      have t2 := same_upd (o := .lst [.non, .non, .str (Str.ofString "")]) n2
      refine ⟨l1, l2, _, _, rfl, rfl, t2 _ _ upd_same, upd_same, by show 6 ≤ sizeLine; decide, fun l nl => ?_⟩
      exact q _ l ((t1.trans t2).trans (same_upd nl)) (fresh_of (t1.trans t2) nl) upd_same
    · rw [if_neg (fun z => e (by show decide (V.int way = V.int 2) = true; rw [z]; rfl))] at q
      refine ⟨.int way, rfl, rfl, _, rfl, ite2 (fun e3 => ?_) (fun e3 => ?_)⟩
      · rw [if_pos (V.int.inj (of_decide_eq_true e3))] at q
        exact ⟨.ref T, rfl, T, _, 0, v0, rfl, rfl, SqL.of eT, rfl, .ref T, rfl, T, _, 3, v3, rfl, rfl, SqL.of eT, rfl, .ref T, rfl, T, _, 4, v4, rfl, rfl, SqL.of eT, rfl, by show 6 ≤ sizeLine; decide, fun l nl => q _ l (same_upd nl) nl upd_same⟩
      · rw [if_neg (fun z => e3 (by show decide (V.int way = V.int 3) = true; rw [z]; rfl))] at q
        exact ⟨.ref T, rfl, T, _, rfl, .inl (SqL.of eT), fun l nl => q _ l (same_upd nl) nl upd_same⟩
end
end WB

set_option Elab.async false
set_option linter.all false
set_option maxRecDepth 100000
set_option maxHeartbeats 4000000
namespace WB
open PySem PySem.Spec PyProof.Rows L2 WG
open TL (tl)
/-! ### a heap without some of its lists -/
def cut (A : List Addr) (H : Hp) : Hp := fun a => if a ∈ A then none else H a
theorem cut_in {A : List Addr} {H : Hp} {a : Addr} (h : a ∈ A) : cut A H a = none := if_pos h
theorem cut_out {A : List Addr} {H : Hp} {a : Addr} (h : a ∉ A) : cut A H a = H a := if_neg h
theorem cut_some {A : List Addr} {H : Hp} {a : Addr} {o : HO} (e : cut A H a = some o) : a ∉ A ∧ H a = some o := by
  by_cases h : a ∈ A
  · rw [cut_in h] at e
    cases e
  · rw [cut_out h] at e
    exact ⟨h, e⟩
theorem cut_mk {A : List Addr} {H : Hp} {a : Addr} {o : HO} (h : a ∉ A) (e : H a = some o) : cut A H a = some o := by
  rw [cut_out h]
  exact e
theorem cut_le (A : List Addr) (H : Hp) : Same (cut A H) H := fun b o e => (cut_some e).2
theorem cut_chg {A : List Addr} {H H' : Hp} (h : ∀ b o, b ∉ A → H b = some o → H' b = some o) : Same (cut A H) (cut A H') := fun b o e => by
  obtain ⟨n, e'⟩ := cut_some e
  exact cut_mk n (h b o n e')
theorem cut_same {A : List Addr} {H H' : Hp} (s : Same H H') : Same (cut A H) (cut A H') := cut_chg fun b o _ e => s b o e
theorem cut_but {A : List Addr} {H H' : Hp} {p : Addr} (h : p ∈ A) (b : But p H H') : Same (cut A H) (cut A H') := cut_chg fun c o n e => b c o (fun z => n (by rw [z]; exact h)) e
/-- a heap without the lists of an older one -/
def nwl (H H' : Hp) : Hp := fun a => match H a with
  | some (.lst _) => none
  | _ => H' a
theorem nwl_le (H H' : Hp) : Same (nwl H H') H' := fun b o e => by
  unfold nwl at e
  split at e
  · cases e
  · exact e
theorem nwl_same {H H1 H2 : Hp} (s : Same H1 H2) : Same (nwl H H1) (nwl H H2) := fun b o e => by
  unfold nwl at e ⊢
  split at e
  · cases e
  · exact s b o e
theorem nwl_none {H H' : Hp} {a : Addr} {xs : List V} (e : H a = some (.lst xs)) : nwl H H' a = none := by
  unfold nwl
  rw [e]
theorem nwl_new {H H' : Hp} {a : Addr} {o : HO} (n : H a = none) (e : H' a = some o) : nwl H H' a = some o := by
  unfold nwl
  rw [n]
  exact e
theorem nwl_obj {H H' : Hp} {a : Addr} {o : HO} (s : Same H H') (n : ∀ xs, o ≠ .lst xs) (e : H' a = some o) : nwl H H' a = some o := by
  unfold nwl
  split
  · rename_i xs h
    have := s _ _ h
    rw [e] at this
    exact absurd (Option.some.inj this) (n xs)
  · exact e
/-- lists, and no others, are left out -/
theorem nwl_cut {H H' : Hp} {A : List Addr} (h : ∀ a ∈ A, ∃ xs, H a = some (.lst xs)) : Same (nwl H H') (cut A H') := fun b o e => by
  refine cut_mk (fun hb => ?_) (nwl_le _ _ _ _ e)
  obtain ⟨xs, ex⟩ := h b hb
  rw [nwl_none ex] at e
  cases e
theorem IsT.cut {H : Hp} {C a : Addr} {vs : List V} {A : List Addr} (h : IsT H C a vs) (al : ∀ b ∈ A, ∃ xs, H b = some (.lst xs)) : IsT (cut A H) C a vs := by
  obtain ⟨h1, dx, t, e1, e2⟩ := h
  refine ⟨h1, dx, t, cut_mk (fun hb => ?_) e1, cut_mk (fun hb => ?_) e2⟩
  · obtain ⟨xs, ex⟩ := al _ hb
    rw [e1] at ex
    cases ex
  · obtain ⟨xs, ex⟩ := al _ hb
    rw [e2] at ex
    cases ex
/-! ### things of a command's arguments -/
structure Up (A : List Addr) (G : Hp) (A' : List Addr) (G' : Hp) : Prop where
  s : Same G G'
  sub : ∀ a ∈ A, a ∈ A'
  new : ∀ a ∈ A', a ∉ A → G a = none
theorem Up.refl {A : List Addr} {G G' : Hp} (s : Same G G') : Up A G A G' := ⟨s, fun _ h => h, fun _ h n => absurd h n⟩
theorem Up.trans {A A1 A2 : List Addr} {G G1 G2 : Hp} (u : Up A G A1 G1) (v : Up A1 G1 A2 G2) : Up A G A2 G2 := by
  refine ⟨u.s.trans v.s, fun a h => v.sub a (u.sub a h), fun a h n => ?_⟩
  by_cases h1 : a ∈ A1
  · exact u.new a h1 n
  · exact fresh_of u.s (v.new a h h1)
theorem Up.cut {A A' : List Addr} {G G' : Hp} (u : Up A G A' G') : Same (cut A G) (cut A' G') := fun b o e => by
  obtain ⟨n, e'⟩ := cut_some e
  refine cut_mk (fun hb => ?_) (u.s _ _ e')
  rw [u.new b hb n] at e'
  cases e'
structure Itm (CO CP CC : Addr) (A : List Addr) (G : Hp) (x : V) : Prop where
  l : ∀ a, x = .ref a → isL G x = true → a ∈ A
  o : isC G CO x = true → Ins CO (cut A G) x
  p : isC G CP x = true → Ins CP (cut A G) x
  c : isC G CC x = true → ∃ a n os ab, x = .ref a ∧ Bl CO CC (cut A G) a n os ab ∧ P8 n ∧ P8 ab
structure TI (CO CP CC : Addr) (A : List Addr) (G : Hp) (v : V) : Prop where
  w : Wf [CO, CP, CC] G v
  l : ∀ a, v = .ref a → isL G v = true → a ∈ A
  i : ∀ x ∈ its G v, Itm CO CP CC A G x
section
variable {CO CP CC : Addr} {A A' : List Addr} {G G' : Hp} {x v : V}
theorem Itm.up (h : Itm CO CP CC A G x) (w : Wf [CO, CP, CC] G x) (u : Up A G A' G') : Itm CO CP CC A' G' x := by
  obtain ⟨e1, e2, e3⟩ := w.at_ u.s
  refine ⟨fun a ea hl => u.sub a (h.l a ea (by rw [← e1]; exact hl)), fun hc => ?_, fun hc => ?_, fun hc => ?_⟩
  · rw [e3] at hc
    exact (h.o hc).same u.cut
  · rw [e3] at hc
    exact (h.p hc).same u.cut
  · rw [e3] at hc
    obtain ⟨a, n, os, ab, h1, h2, h3⟩ := h.c hc
    exact ⟨a, n, os, ab, h1, h2.same u.cut, h3⟩
theorem TI.up (h : TI CO CP CC A G v) (u : Up A G A' G') : TI CO CP CC A' G' v := by
  obtain ⟨e1, e2, e3⟩ := h.w.at_ u.s
  refine ⟨h.w.same u.s, fun a ea hl => u.sub a (h.l a ea (by rw [← e1]; exact hl)), fun x hx => ?_⟩
  rw [e2] at hx
  exact (h.i x hx).up (h.w.items.2 x hx) u
theorem TI.same (h : TI CO CP CC A G v) (s : Same G G') : TI CO CP CC A G' v := h.up (Up.refl s)
/-- what is no list has no items -/
theorem TI.plain (w : Wf [CO, CP, CC] G v) (hl : isL G v = false) : TI CO CP CC A G v := by
  refine ⟨w, (fun a _ h => by rw [hl] at h; cases h), fun x hx => ?_⟩
  have e : its G v = [] := by
    unfold its
    unfold isL at hl
    split
    · split
      · rename_i h
        simp only [h] at hl
        cases hl
      · rfl
    · rfl
  rw [e] at hx
  cases hx
/-- a list of known items -/
theorem TI.list {a : Addr} {xs : List V} (e : G a = some (.lst xs)) (le : xs.length ≤ 1000) (ha : a ∈ A) (h : ∀ x ∈ xs, Wf [CO, CP, CC] G x ∧ Itm CO CP CC A G x) : TI CO CP CC A G (.ref a) := by
  refine ⟨.lst e le fun x hx => (h x hx).1, fun b eb _ => ?_, fun x hx => ?_⟩
  · cases eb
    exact ha
  · rw [(isL_lst e).2] at hx
    exact (h x hx).2
theorem Itm.flat (hl : isL G x = false) (hc : ∀ C, isC G C x = false) : Itm CO CP CC A G x :=
  ⟨(fun a _ h => by rw [hl] at h; cases h), (fun h => by rw [hc] at h; cases h), (fun h => by rw [hc] at h; cases h), (fun h => by rw [hc] at h; cases h)⟩
theorem Itm.lst {a : Addr} {xs : List V} (e : G a = some (.lst xs)) (ha : a ∈ A) : Itm CO CP CC A G (.ref a) := by
  have hc : ∀ C, isC G C (.ref a) = false := fun C => by unfold isC; simp only [e]
  exact ⟨(fun b eb _ => by cases eb; exact ha), (fun h => by rw [hc] at h; cases h), (fun h => by rw [hc] at h; cases h), (fun h => by rw [hc] at h; cases h)⟩
end
/-- the three classes are three -/
structure Dis (CO CP CC : Addr) : Prop where
  op : CO ≠ CP
  oc : CO ≠ CC
  pc : CP ≠ CC
theorem isC_ins {H : Hp} {a C dx : Addr} {fs : List (Str × V)} (e : H a = some (.ins C dx fs)) (D : Addr) : isC H D (.ref a) = decide (C = D) ∧ isL H (.ref a) = false := by
  unfold isC isL
  simp only [e]
  exact ⟨trivial, trivial⟩
section
variable {CO CP CC a : Addr} {A : List Addr} {G : Hp}
theorem itm_o {vs : List V} (d : Dis CO CP CC) (h : IsT (cut A G) CO a vs) (le : vs.length ≤ 8) : Itm CO CP CC A G (.ref a) := by
  obtain ⟨h1, dx, t, e1, e2⟩ := id h
  have e := cut_le _ _ _ _ e1
  refine ⟨fun b _ z => ?_, fun _ => ⟨a, vs, rfl, h, le⟩, fun z => ?_, fun z => ?_⟩
  · rw [(isC_ins e CO).2] at z
    cases z
  · rw [(isC_ins e CP).1] at z
    exact absurd (of_decide_eq_true z) d.op
  · rw [(isC_ins e CC).1] at z
    exact absurd (of_decide_eq_true z) d.oc
theorem itm_p {vs : List V} (d : Dis CO CP CC) (h : IsT (cut A G) CP a vs) (le : vs.length ≤ 8) : Itm CO CP CC A G (.ref a) := by
  obtain ⟨h1, dx, t, e1, e2⟩ := id h
  have e := cut_le _ _ _ _ e1
  refine ⟨fun b _ z => ?_, fun z => ?_, fun _ => ⟨a, vs, rfl, h, le⟩, fun z => ?_⟩
  · rw [(isC_ins e CO).2] at z
    cases z
  · rw [(isC_ins e CO).1] at z
    exact absurd (of_decide_eq_true z).symm d.op
  · rw [(isC_ins e CC).1] at z
    exact absurd (of_decide_eq_true z) d.pc
theorem itm_c {n ab : Str} {os : List V} (d : Dis CO CP CC) (h : Bl CO CC (cut A G) a n os ab) (pn : P8 n) (pa : P8 ab) : Itm CO CP CC A G (.ref a) := by
  obtain ⟨dx, lo, lp, lg, lc, e1, e2⟩ := id h
  have e := cut_le _ _ _ _ e1
  refine ⟨fun b _ z => ?_, fun z => ?_, fun z => ?_, fun _ => ⟨a, n, os, ab, rfl, h, pn, pa⟩⟩
  · rw [(isC_ins e CO).2] at z
    cases z
  · rw [(isC_ins e CO).1] at z
    exact absurd (of_decide_eq_true z).symm d.oc
  · rw [(isC_ins e CP).1] at z
    exact absurd (of_decide_eq_true z).symm d.pc
end
/-! ### names and what is made of them -/
theorem nm_tx {y : Str} (h : nm (tl y) = true) : Tx 300 y := by
  unfold nm at h
  simp only [Bool.and_eq_true, decide_eq_true_eq] at h
  refine ⟨by rw [TL.len_tl]; have := h.1.1.1.1.2; omega, fun c hc => ?_⟩
  have := of_decide_eq_true (List.all_eq_true.mp h.2 c hc)
  exact (by decide +kernel : ∀ c ∈ tl nameSet, c < 256) c this
def oV (y z : Str) : List V := [.str y, .str (Str.ofString ""), .str (Str.ofString "flag"), .str (Str.ofString "word"), .non, .bl false, .bl false, .str z]
def pV (y m : Str) : List V := [.str y, .str m, .str (Str.ofString "word"), .non, .str (Str.ofString "")]
theorem tx_lit (s : String) (h : (Str.ofString s).length ≤ 300 ∧ ∀ c ∈ tl (Str.ofString s), c < 256) : Tx 300 (Str.ofString s) := ⟨h.1, h.2⟩
theorem oV_fl {y z : Str} (hy : Tx 300 y) (hz : Tx 300 z) : AllFl (oV y z) := fun v hv => by
  unfold oV at hv
  simp only [List.mem_cons, List.not_mem_nil, or_false] at hv
  rcases hv with rfl | rfl | rfl | rfl | rfl | rfl | rfl | rfl
  · exact .str hy
  · exact .str (tx_lit _ (by decide +kernel))
  · exact .str (tx_lit _ (by decide +kernel))
  · exact .str (tx_lit _ (by decide +kernel))
  · exact .non
  · exact .bl _
  · exact .bl _
  · exact .str hz
theorem pV_fl {y m : Str} (hy : Tx 300 y) (hm : Tx 300 m) : AllFl (pV y m) := fun v hv => by
  unfold pV at hv
  simp only [List.mem_cons, List.not_mem_nil, or_false] at hv
  rcases hv with rfl | rfl | rfl | rfl | rfl
  · exact .str hy
  · exact .str hm
  · exact .str (tx_lit _ (by decide +kernel))
  · exact .non
  · exact .str (tx_lit _ (by decide +kernel))
theorem oV_right {y z : Str} (hy : nm (tl y) = true) (hz : ab z = true) : wrongF (.str y) (.str (Str.ofString "")) (.str (Str.ofString "flag")) (.str (Str.ofString "word")) .non (.bl false) (.bl false) (.str z) = Str.ofString "" := by
  unfold wrongF
  rw [show isNm (.str y) = true from hy, show isAb (.str z) = true from hz]
  decide +kernel
theorem pV_right {y m : Str} (hy : nm (tl y) = true) (hm : among (.str m) WP.manies = true) : WP.wrongF (.str y) (.str m) (.str (Str.ofString "word")) .non (.str (Str.ofString "")) = Str.ofString "" := by
  unfold WP.wrongF
  rw [show isNm (.str y) = true from hy, hm, show dflt .non (WP.isMb (.str m)) = true from by unfold dflt; rw [decide_eq_true rfl, Bool.true_or]]
  decide +kernel
section
variable {C CN : Addr} {H1 : Hp} {Q : VK} {E : XK}
theorem mkO {y z : Str} (hy : nm (tl y) = true) (hz : ab z = true) (tz : Tx 300 z) (q : ∀ H' x, Same H1 H' → H1 x = none → IsT H' C x (oV y z) → Q (.ref x) H') : ∀ x dx, H1 x = none → H1 dx = none → dx ≠ x →
    spInit C CN [.ref x, .str y, .str (Str.ofString ""), .str (Str.ofString "flag"), .str (Str.ofString "word"), .non, .bl false, .bl false, .str z] (upd (upd H1 dx (.own x)) x (.ins C dx [])) (fun v H2 => v = .non ∧ Q (.ref x) H2) E := by
  intro x dx nx ndx ne
  have fl := oV_fl (nm_tx hy) tz
  have th : ∀ {Hx : Hp} v, v ∈ oV y z → Thg Hx v := fun v e => (fl v e).thg
  refine ⟨x, dx, _, _, _, _, _, _, _, _, rfl, upd_same, ⟨th _ (by simp [oV]), th _ (by simp [oV]), th _ (by simp [oV]), th _ (by simp [oV]), th _ (by simp [oV]), th _ (by simp [oV]), th _ (by simp [oV]), th _ (by simp [oV])⟩, fun _ H' t b ex et => ⟨rfl, q H' x (fun a o e => ?_) nx ⟨fl, dx, t, ex, et⟩⟩, fun w => absurd (oV_right hy hz) w⟩
  have n1 : a ≠ x := ne_of_none e nx
  have n2 : a ≠ dx := ne_of_none e ndx
  refine b a o n1 ?_
  rw [upd_ne n1, upd_ne n2]
  exact e
theorem mkP {y m : Str} (hy : nm (tl y) = true) (hm : among (.str m) WP.manies = true) (tm : Tx 300 m) (q : ∀ H' x, Same H1 H' → H1 x = none → IsT H' C x (pV y m) → Q (.ref x) H') : ∀ x dx, H1 x = none → H1 dx = none → dx ≠ x →
    WP.spInit C CN [.ref x, .str y, .str m, .str (Str.ofString "word"), .non, .str (Str.ofString "")] (upd (upd H1 dx (.own x)) x (.ins C dx [])) (fun v H2 => v = .non ∧ Q (.ref x) H2) E := by
  intro x dx nx ndx ne
  have fl := pV_fl (nm_tx hy) tm
  have th : ∀ {Hx : Hp} v, v ∈ pV y m → Thg Hx v := fun v e => (fl v e).thg
  refine ⟨x, dx, _, _, _, _, _, rfl, upd_same, ⟨th _ (by simp [pV]), th _ (by simp [pV]), th _ (by simp [pV]), th _ (by simp [pV]), th _ (by simp [pV])⟩, fun _ H' t b ex et => ⟨rfl, q H' x (fun a o e => ?_) nx ⟨fl, dx, t, ex, et⟩⟩, fun w => absurd (pV_right hy hm) w⟩
  have n1 : a ≠ x := ne_of_none e nx
  have n2 : a ≠ dx := ne_of_none e ndx
  refine b a o n1 ?_
  rw [upd_ne n1, upd_ne n2]
  exact e
end
/-- a command with options alone -/
theorem mkC {CO CP CC CN : Addr} {H1 : Hp} {Q : VK} {E : XK} {y z : Str} {v1 : V} (hy : nm (tl y) = true) (hz : ab z = true) (tz : Tx 300 z) (w1 : Wf [CO, CP, CC] H1 v1) (o1 : ol H1 12 (isC H1 CO) v1 = true)
    (q : ∀ H' x dx lo lp lg lc, Same H1 H' → H1 x = none → H' x = some (.ins CC dx (cmdF (.str y) lo lp lg lc (.str z))) → H1 lo = none → H' lo = some (.lst (its H1 v1)) → Q (.ref x) H') : ∀ x dx, H1 x = none → H1 dx = none → dx ≠ x →
    spCInit CO CP CC CN [.ref x, .str y, v1, .non, .non, .non, .str z] (upd (upd H1 dx (.own x)) x (.ins CC dx [])) (fun v H2 => v = .non ∧ Q (.ref x) H2) E := by
  intro x dx nx ndx ne
  have sm : Same H1 (upd (upd H1 dx (.own x)) x (.ins CC dx [])) := fun b o e => by
    rw [upd_ne (ne_of_none e nx), upd_ne (ne_of_none e ndx)]
    exact e
  have ex0 : (upd (upd H1 dx (.own x)) x (.ins CC dx [])) x = some (.ins CC dx []) := upd_same
  revert sm ex0
  generalize upd (upd H1 dx (.own x)) x (.ins CC dx []) = H2
  intro sm ex0
  have o2 : ol H2 12 (isC H2 CO) v1 = true := by
    rw [Wf.ol (m := 12) (g := fun H => isC H CO) w1 sm (fun x wx => (wx.at_ sm).2.2 CO)]
    exact o1
  have wr : wrongC CO CP CC H2 (.str y) v1 .non .non .non (.str z) = Str.ofString "" := by
    unfold wrongC
    rw [show isNm (.str y) = true from hy, show isAb (.str z) = true from hz, o2]
    rfl
  refine ⟨x, dx, .str y, v1, .non, .non, .non, .str z, rfl, ex0, ⟨.str (nm_tx hy), w1.same sm, .non, .non, .non, .str tz⟩, fun _ H' b cm => ⟨rfl, ?_⟩, fun h => absurd wr h⟩
  obtain ⟨dx', lo, lp, lg, lc, ex, ⟨n1, e1⟩, _⟩ := cm.ex
  rw [(w1.at_ sm).2.1] at e1
  exact q H' x dx' lo lp lg lc (fun c o e => b c o (ne_of_none e nx) (sm c o e)) nx ex (fresh_of sm n1) e1
/-- such a command beside lists -/
theorem bl_of {CO CC x dx lo lp lg lc : Addr} {A : List Addr} {H1 H' : Hp} {y z : Str} {os : List V} (s : Same H1 H') (ex : H' x = some (.ins CC dx (cmdF (.str y) lo lp lg lc (.str z)))) (nl : H1 lo = none) (el : H' lo = some (.lst os)) (al : ∀ a ∈ A, ∃ xs, H1 a = some (.lst xs)) (ho : ∀ o ∈ os, Ins CO (cut A H') o) (le : os.length ≤ 20) : Bl CO CC (cut A H') x y os z := by
  refine ⟨dx, lo, lp, lg, lc, cut_mk (fun h => ?_) ex, cut_mk (fun h => ?_) el, ho, le⟩
  · obtain ⟨xs, e⟩ := al _ h
    rw [s _ _ e] at ex
    cases ex
  · obtain ⟨xs, e⟩ := al _ h
    rw [e] at nl
    cases nl
end WB

set_option Elab.async false
set_option linter.all false
set_option maxRecDepth 100000
set_option maxHeartbeats 4000000
namespace WB
open PySem PySem.Spec PyProof.Rows L2 WG
open TL (tl)
abbrev st_made : Stmt := topS 59
theorem sc_made : FnScope ["_law_told_here", "_law_way"] ["_law_told_here", "_law_way"] (defScope st_made) := ⟨rfl, rfl, rfl, by decide +kernel, rfl, by decide +kernel, by decide +kernel⟩
section
variable {P : Program} {w : World} {K : PySem.W.Frag} {mg : Str → Option Value} {base : Heap}
abbrev cmdPs : List Str := ["self", "name", "options", "places", "groups", "commands", "about"]
abbrev dvC : List V := [.non, .non, .non, .non, .str (Str.ofString "")]
def Args (Cs : List Addr) (H : Hp) (v0 v1 v2 v3 v4 v5 : V) : Prop := Thg H v0 ∧ Wf Cs H v1 ∧ Wf Cs H v2 ∧ Wf Cs H v3 ∧ Wf Cs H v4 ∧ Thg H v5
theorem Args.same {Cs : List Addr} {H H' : Hp} {v0 v1 v2 v3 v4 v5 : V} (h : Args Cs H v0 v1 v2 v3 v4 v5) (s : Same H H') : Args Cs H' v0 v1 v2 v3 v4 v5 := ⟨h.1.same s, h.2.1.same s, h.2.2.1.same s, h.2.2.2.1.same s, h.2.2.2.2.1.same s, h.2.2.2.2.2.same s⟩
theorem wrongC_same {CO CP CC : Addr} {H H' : Hp} {v0 v1 v2 v3 v4 v5 : V} (h : Args [CO, CP, CC] H v0 v1 v2 v3 v4 v5) (s : Same H H') : wrongC CO CP CC H' v0 v1 v2 v3 v4 v5 = wrongC CO CP CC H v0 v1 v2 v3 v4 v5 := by
  obtain ⟨_, w1, w2, w3, w4, _⟩ := h
  unfold wrongC
  rw [Wf.ol (m := 12) (g := fun H => isC H CO) w1 s (fun x wx => (wx.at_ s).2.2 CO), Wf.ol (m := 6) (g := fun H => isC H CP) w2 s (fun x wx => (wx.at_ s).2.2 CP), Wf.ol (m := 4) (g := grp) w3 s (fun x wx => wx.grp s), Wf.ol (m := 8) (g := fun H => isC H CC) w4 s (fun x wx => (wx.at_ s).2.2 CC)]
theorem its_its {Cs : List Addr} {H H' : Hp} {v : V} (h : Wf Cs H v) (s : Same H H') : (its H' v).map (its H') = (its H v).map (its H) := by
  rw [(h.at_ s).2.1]
  exact List.map_congr_left fun x hx => ((h.items.2 x hx).at_ s).2.1
/-- what a command made of these arguments is -/
def MadeAt (CC : Addr) (H H' : Hp) (x : Addr) (v0 v1 v2 v3 v4 v5 : V) : Prop := CmdAt CC H H' x v0 (its H v1) (its H v2) ((its H v3).map (its H)) (its H v4) v5
theorem init_useC {CO CP CC CN : Addr} {H : Hp} {Q : VK} {E : XK} {v0 v1 v2 v3 v4 v5 : V} (ha : Args [CO, CP, CC] H v0 v1 v2 v3 v4 v5)
    (hq : wrongC CO CP CC H v0 v1 v2 v3 v4 v5 = Str.ofString "" → ∀ H' x, Same H H' → H x = none → MadeAt CC H H' x v0 v1 v2 v3 v4 v5 → Q (.ref x) H')
    (he : wrongC CO CP CC H v0 v1 v2 v3 v4 v5 ≠ Str.ofString "" → ∀ H' d, Same H H' → H d = none → H' d = some (.xd [(("field" : Str), .str (wrongC CO CP CC H v0 v1 v2 v3 v4 v5))]) → E (.ref CN) (some d) H')
    (x dx : Addr) (nx : H x = none) (ndx : H dx = none) (ne : dx ≠ x) : spCInit CO CP CC CN [.ref x, v0, v1, v2, v3, v4, v5] (upd (upd H dx (.own x)) x (.ins CC dx [])) (fun v H2 => v = .non ∧ Q (.ref x) H2) E := by
  have sm : Same H (upd (upd H dx (.own x)) x (.ins CC dx [])) := fun b o e => by
    rw [upd_ne (ne_of_none e nx), upd_ne (ne_of_none e ndx)]
    exact e
  have ex0 : (upd (upd H dx (.own x)) x (.ins CC dx [])) x = some (.ins CC dx []) := upd_same
  revert sm ex0
  generalize upd (upd H dx (.own x)) x (.ins CC dx []) = H2
  intro sm ex0
  have wr := wrongC_same ha sm
  refine ⟨x, dx, v0, v1, v2, v3, v4, v5, rfl, ex0, ha.same sm, fun hw H' b cm => ⟨rfl, ?_⟩, fun hw H' d s nd ed => ?_⟩
  · rw [wr] at hw
    refine hq hw H' x (fun c o e => b c o (ne_of_none e nx) (sm c o e)) nx ?_
    obtain ⟨_, w1, w2, w3, w4, _⟩ := ha
    rw [(w1.at_ sm).2.1, (w2.at_ sm).2.1, its_its w3 sm, (w4.at_ sm).2.1] at cm
    obtain ⟨dx', lo, lp, lg, lc, ex, ⟨n1, e1⟩, ⟨n2, e2⟩, g, n4, e4⟩ := cm.ex
    exact ⟨dx', lo, lp, lg, lc, ex, ⟨fresh_of sm n1, e1⟩, ⟨fresh_of sm n2, e2⟩, g.base (fun b n => fresh_of sm n), fresh_of sm n4, e4⟩
  · rw [wr] at hw ed
    exact he hw H' d (sm.trans s) (sm.free nd) ed
/-- with what is due -/
def DueQ (CO CP CC CN : Addr) (H : Hp) (Q : VK) (E : XK) : List V → Prop
  | [u0, u1, u2, u3, u4, u5] => (wrongC CO CP CC H u0 u1 u2 u3 u4 u5 = Str.ofString "" → ∀ H' x, Same H H' → H x = none → MadeAt CC H H' x u0 u1 u2 u3 u4 u5 → Q (.ref x) H') ∧
      (wrongC CO CP CC H u0 u1 u2 u3 u4 u5 ≠ Str.ofString "" → ∀ H' d, Same H H' → H d = none → H' d = some (.xd [(("field" : Str), .str (wrongC CO CP CC H u0 u1 u2 u3 u4 u5))]) → E (.ref CN) (some d) H')
  | _ => True
def spCMade (CO CP CC CN : Addr) : Sp := fun vs H Q E => ∃ (T : Addr) (way : Int) (v0 v1 v2 v3 v4 v5 : V), vs = [.ref T, .int way] ∧ H T = some (.lst [v0, v1, v2, v3, v4, v5]) ∧ Args [CO, CP, CC] H v0 v1 v2 v3 v4 v5 ∧ DueQ CO CP CC CN H Q E (dueC way v0 v1 v2 v3 v4 v5)
theorem thg_empty {H : Hp} : Thg H (.str (Str.ofString "")) := .str (tx_lit _ (by decide +kernel))
theorem ok_cmade {CO CP CC CN f fI : Addr} {fd fdI : FuncData} {k : Nat} {ds4 : List Value} {g2 g6 : List Value → List Value → List Value} {gV2 gV6 : List V → List V → List V} (F : Fun K "_law_made" "_law_made" st_made f fd) (M : L2.Mk K CC fI) (gC : mg "Command" = some (.ref CC))
    (GI : FnOk P w K mg base (L2.CX P w) (k + 4) fI fdI cmdPs (spCInit CO CP CC CN))
    (b7 : Binds K fdI cmdPs []) (b4 : Binds K fdI cmdPs ds4) (hv4 : Vals [.non, .non, .str (Str.ofString "")] ds4)
    (kb2 : KBn K fdI cmdPs 2 ["groups", "commands"] g2 gV2) (kb6 : KBn K fdI cmdPs 1 ["about", "commands", "groups", "places", "options", "name"] g6 gV6)
    (hg2 : ∀ x n g c : V, gV2 [x, n] [g, c] = [x, n, .non, .non, g, c, .str (Str.ofString "")]) (hg6 : ∀ x a c g p o n : V, gV6 [x] [a, c, g, p, o, n] = [x, n, o, p, g, c, a]) :
    FnOk P w K mg base (L2.CX P w) (k + 6) f fd ["_law_told_here", "_law_way"] (spCMade CO CP CC CN) := by
  refine F.okX sc_made (fun vs H Q E h => ?_) (fun cdv A outer s H vs Q E hr h => ?_)
  · obtain ⟨T, way, v0, v1, v2, v3, v4, v5, rfl, _⟩ := h
    rfl
  · obtain ⟨T, way, v0, v1, v2, v3, v4, v5, rfl, eT, ha, hq⟩ := h
    have hS : SqL K H T [v0, v1, v2, v3, v4, v5] := SqL.of eT
    have t0 := ha.1
    have w1 := ha.2.1
    have w2 := ha.2.2.1
    have w3 := ha.2.2.2.1
    have w4 := ha.2.2.2.2.1
    refine ⟨_, pss_cons (ps_if (pt_cmpR op_eq (pv 1) pe_int (nomark _)) (pss_one (ps_ret (pe_make M GI hr (by rfl) gC b7 .nil (passes_call (takes_of rfl rfl rfl rfl) (fun _ _ _ _ h => h)) (pa_cons (pe_ix ix_list (pv 0) pe_int (fun _ _ => rfl)) (pa_cons (pe_ix ix_list (pv 0) pe_int (fun _ _ => rfl)) (pa_cons (pe_ix ix_list (pv 0) pe_int (fun _ _ => rfl)) (pa_cons (pe_ix ix_list (pv 0) pe_int (fun _ _ => rfl)) (pa_cons (pe_ix ix_list (pv 0) pe_int (fun _ _ => rfl)) (pa_cons (pe_ix ix_list (pv 0) pe_int (fun _ _ => rfl)) pa_nil))))))))) pss_nil)
      (pss_cons (ps_if (pt_cmpR op_eq (pv 1) pe_int (nomark _)) (pss_one (ps_ret (pe_make M GI hr (by rfl) gC b4 hv4 (passes_call (takes_of rfl rfl rfl rfl) (fun _ _ _ _ h => h)) (pa_cons (pe_ix ix_list (pv 0) pe_int (fun _ _ => rfl)) (pa_cons (pe_ix ix_list (pv 0) pe_int (fun _ _ => rfl)) (pa_cons (pe_ix ix_list (pv 0) pe_int (fun _ _ => rfl)) pa_nil)))))) pss_nil)
      (pss_cons (ps_if (pt_cmpR op_eq (pv 1) pe_int (nomark _)) (pss_one (ps_ret (pe_makeN (n := 1) M GI hr (by rfl) gC kb2 (passes_call (takes_of rfl rfl rfl rfl) (fun _ _ _ _ h => h)) (pa_cons (pe_ix ix_list (pv 0) pe_int (fun _ _ => rfl)) pa_nil) (pk_cons (pe_ix ix_list (pv 0) pe_int (fun _ _ => rfl)) (pk_cons (pe_ix ix_list (pv 0) pe_int (fun _ _ => rfl)) pk_nil))))) pss_nil)
      (pss_one (ps_ret (pe_makeK0 M GI hr (by rfl) gC kb6 (passes_call (takes_of rfl rfl rfl rfl) (fun _ _ _ _ h => h)) (pk_cons (pe_ix ix_list (pv 0) pe_int (fun _ _ => rfl)) (pk_cons (pe_ix ix_list (pv 0) pe_int (fun _ _ => rfl)) (pk_cons (pe_ix ix_list (pv 0) pe_int (fun _ _ => rfl)) (pk_cons (pe_ix ix_list (pv 0) pe_int (fun _ _ => rfl)) (pk_cons (pe_ix ix_list (pv 0) pe_int (fun _ _ => rfl)) (pk_cons (pe_ix ix_list (pv 0) pe_int (fun _ _ => rfl)) pk_nil))))))))))), ?_⟩
    unfold dueC at hq
    refine ⟨_, rfl, rfl, _, rfl, ite2 (fun e => ?_) (fun e => ?_)⟩
    · have e0 : way = 0 := V.int.inj (of_decide_eq_true e)
      rw [if_neg (by omega), if_neg (by omega)] at hq
      refine ⟨.ref T, rfl, T, _, 0, v0, rfl, rfl, hS, rfl, .ref T, rfl, T, _, 1, v1, rfl, rfl, hS, rfl, .ref T, rfl, T, _, 2, v2, rfl, rfl, hS, rfl, .ref T, rfl, T, _, 3, v3, rfl, rfl, hS, rfl, .ref T, rfl, T, _, 4, v4, rfl, rfl, hS, rfl, .ref T, rfl, T, _, 5, v5, rfl, rfl, hS, rfl, ?_⟩
      exact fun x dx nx ndx ne => init_useC ha hq.1 hq.2 x dx nx ndx ne
    · refine ⟨_, rfl, rfl, _, rfl, ite2 (fun e2 => ?_) (fun e2 => ?_)⟩
      · have e0 : way = 2 := V.int.inj (of_decide_eq_true e2)
        rw [if_pos e0] at hq
        refine ⟨.ref T, rfl, T, _, 0, v0, rfl, rfl, hS, rfl, .ref T, rfl, T, _, 1, v1, rfl, rfl, hS, rfl, .ref T, rfl, T, _, 2, v2, rfl, rfl, hS, rfl, ?_⟩
        exact fun x dx nx ndx ne => init_useC ⟨t0, w1, w2, .non, .non, thg_empty⟩ hq.1 hq.2 x dx nx ndx ne
      · have n2 : ¬ way = 2 := fun z => e2 (by rw [z]; rfl)
        rw [if_neg n2] at hq
        refine ⟨_, rfl, rfl, _, rfl, ite2 (fun e3 => ?_) (fun e3 => ?_)⟩
        · have e0 : way = 3 := V.int.inj (of_decide_eq_true e3)
          rw [if_pos e0] at hq
          refine ⟨.ref T, rfl, T, _, 0, v0, rfl, rfl, hS, rfl, .ref T, rfl, T, _, 3, v3, rfl, rfl, hS, rfl, .ref T, rfl, T, _, 4, v4, rfl, rfl, hS, rfl, rfl, rfl, ?_⟩
          intro x dx nx ndx ne
          rw [hg2]
          exact init_useC ⟨t0, .non, .non, w3, w4, thg_empty⟩ hq.1 hq.2 x dx nx ndx ne
        · have n3 : ¬ way = 3 := fun z => e3 (by rw [z]; rfl)
          rw [if_neg n3] at hq
          refine ⟨.ref T, rfl, T, _, 5, v5, rfl, rfl, hS, rfl, .ref T, rfl, T, _, 4, v4, rfl, rfl, hS, rfl, .ref T, rfl, T, _, 3, v3, rfl, rfl, hS, rfl, .ref T, rfl, T, _, 2, v2, rfl, rfl, hS, rfl, .ref T, rfl, T, _, 1, v1, rfl, rfl, hS, rfl, .ref T, rfl, T, _, 0, v0, rfl, rfl, hS, rfl, rfl, rfl, ?_⟩
          intro x dx nx ndx ne
          rw [hg6]
          exact init_useC ha hq.1 hq.2 x dx nx ndx ne
end
end WB

set_option Elab.async false
set_option linter.all false
set_option maxRecDepth 100000
set_option maxHeartbeats 4000000
namespace WB
open PySem PySem.Spec PyProof.Rows L2 WG
open TL (tl)
abbrev st_refused : Stmt := topS 61
theorem sc_refused : FnScope ["_law_told_here", "_law_way", "_law_found", "e"] ["_law_told_here", "_law_way"] (defScope st_refused) := ⟨rfl, rfl, rfl, by decide +kernel, rfl, by decide +kernel, by decide +kernel⟩
section
variable {P : Program} {w : World} {K : PySem.W.Frag} {mg : Str → Option Value} {base : Heap}
def wrongL (CO CP CC : Addr) (H : Hp) : List V → Str
  | [u0, u1, u2, u3, u4, u5] => wrongC CO CP CC H u0 u1 u2 u3 u4 u5
  | _ => Str.ofString ""
theorem due_six (way : Int) (v0 v1 v2 v3 v4 v5 : V) : ∃ u0 u1 u2 u3 u4 u5, dueC way v0 v1 v2 v3 v4 v5 = [u0, u1, u2, u3, u4, u5] := by
  unfold dueC
  split
  · exact ⟨_, _, _, _, _, _, rfl⟩
  · split
    · exact ⟨_, _, _, _, _, _, rfl⟩
    · exact ⟨_, _, _, _, _, _, rfl⟩
theorem field_look {v : V} : List.lookup ("field" : Str) [(("field" : Str), v)] = some v := by simp [List.lookup]
def tbRef (CO CP CC CN : Addr) : WX → TS := fun W => tDrop (tCallS (spCMade CO CP CC CN) (WE W) (tCons (tVar 0) (tCons (tVar 1) tNil)))
def tsRef (K : PySem.W.Frag) (CN BE : Addr) : Addr → Value → Option Addr → TS := fun a cls d => tAsg (tIf (tB (tCB (rIsD K a cls d) (tCons (tVar 3) (tCons (tC (.ref BE)) tNil)))) (tXf a cls d CN "field" (tVar 3)) (tC (.str (Str.ofString "none")))) (gName 2)
/-- NoCommand, where it is caught -/
structure CaughtC (K : PySem.W.Frag) (CN BE : Addr) : Prop where
  x : XfC K CN
  c : ExcC K CN
  exm : PySem.W.exmOne K (.ref CN) (.ref CN) = some true
  kit : PySem.W.kitOne K (.ref CN) (.ref BE) = some true
def spRefused (CO CP CC : Addr) : Sp := fun vs H Q _ => ∃ (T : Addr) (way : Int) (v0 v1 v2 v3 v4 v5 : V), vs = [.ref T, .int way] ∧ H T = some (.lst [v0, v1, v2, v3, v4, v5]) ∧ Args [CO, CP, CC] H v0 v1 v2 v3 v4 v5 ∧ ∀ H', Same H H' → Q (.str (wrongL CO CP CC H (dueC way v0 v1 v2 v3 v4 v5))) H'
theorem ok_refused {CO CP CC CN BE f fM fE : Addr} {fd fdM fdE : FuncData} {k : Nat} (F : Fun K "_law_refused" "_law_refused" st_refused f fd) (D_made : Df K mg "_law_made" st_made ["_law_told_here", "_law_way"] fM fdM)
    (G_made : FnOk P w K mg base (L2.CX P w) k fM fdM ["_law_told_here", "_law_way"] (spCMade CO CP CC CN)) (TE : ErrT K mg "NoCommand" CN fE fdE) (CT : CaughtC K CN BE) (gB : mg "BenchError" = some (.ref BE)) (m_isinstance : mg "isinstance" = none) :
    FnOk P w K mg base CX0 (k + 1) f fd ["_law_told_here", "_law_way"] (spRefused CO CP CC) := by
  refine F.ok sc_refused (fun vs H Q E h => ?_) (fun cdv A outer s H vs Q E hr h => ?_)
  · obtain ⟨T, way, v0, v1, v2, v3, v4, v5, rfl, _⟩ := h
    rfl
  · obtain ⟨T, way, v0, v1, v2, v3, v4, v5, rfl, eT, ha, q⟩ := h
    refine ⟨_, PSs.nox (pss_cons (ps_set (i := 2) sc_refused.nd rfl (.inl rfl) pe_str)
      (pss_cons (ps_try_as (i := 3) (tb := tbRef CO CP CC CN) (ts := tsRef K CN BE) (Wout := fun _ _ _ _ => False) rfl rfl sc_refused.nd rfl rfl ⟨rfl, by decide, Or.inl TE.g⟩ takes0
          (fun W pn xe tk _ => pss_one (ps_expr (by exact (pe_callS G_made hr (by rfl) D_made.g D_made.F.kp D_made.b (fun σ => passAt tk σ) (by exact (pa_cons (pv 0) (pa_cons (pv 1) pa_nil)))))))
          (fun a oe cls d pn hz hf => pss_one (ps_set (i := 2) sc_refused.nd rfl (Or.inl rfl) (by exact (pe_ifExp (pt_val (pe_callB (call_isD hz hf) (by rfl) m_isinstance (by decide +kernel) (pa_cons (pv 3) (pa_cons (pe_glob (v := .ref BE) rfl gB rfl) pa_nil)))) (pe_xf CT.x TE.nf hz hf (pv 3)) pe_str)))))
      (pss_one (ps_ret (pv 2))))), ?_⟩
    obtain ⟨u0, u1, u2, u3, u4, u5, eu⟩ := due_six way v0 v1 v2 v3 v4 v5
    rw [eu] at q
    refine ⟨.ref T, rfl, .int way, rfl, T, way, v0, v1, v2, v3, v4, v5, rfl, eT, ha, ?_⟩
    rw [eu]
    refine ⟨fun hw H1 x s1 nx m => ?_, fun hw H1 d s1 nd ed => ⟨true, CT.exm, fun _ a0 na0 => ?_, fun z => Bool.noConfusion z⟩⟩
    · have e : wrongL CO CP CC H [u0, u1, u2, u3, u4, u5] = Str.ofString "" := hw
      rw [e] at q
      exact ⟨_, rfl, q _ s1⟩
    · refine ⟨.ref a0, rfl, CN, d, _, .ref BE, .ref BE, true, rfl, rfl, ed, CT.c, rfl, fun u hu => hu, CT.kit, _, rfl, ?_⟩
      refine ⟨.ref a0, rfl, rfl, rfl, d, _, .str (wrongC CO CP CC H u0 u1 u2 u3 u4 u5), rfl, ed, field_look, ?_⟩
      exact ⟨_, rfl, q _ s1⟩
end
end WB

set_option Elab.async false
set_option linter.all false
set_option maxRecDepth 100000
set_option maxHeartbeats 4000000
namespace WB
open PySem PySem.Spec PyProof.Rows L2 WG
open TL (tl)
abbrev st_odd_thing : Stmt := topS 55
theorem sc_odd_thing : FnScope ["_law_pot_here", "_law_at", "_law_some", "_law_lists_here", "_law_menu"] ["_law_pot_here", "_law_at"] (defScope st_odd_thing) := ⟨rfl, rfl, rfl, by decide +kernel, rfl, by decide +kernel, by decide +kernel⟩
theorem passF {X : Cx} : Passes (L2.CX X.prog X.w) X (fun _ _ _ => False) := by
  intro pins σ H s e s' inv got
  obtain ⟨_, _, _, _, _, _, _, _, _, _, _, _, no⟩ := got
  exact no.elim
theorem go {R : Hp → Prop} {H : Hp} {a : Addr} {o : HO} (n : H a = none) (h : ∀ H', Same H H' → H' a = some o → R H') : R (upd H a o) := h _ (same_upd n) upd_same
theorem goT {α : Type} {R : Hp → α → Prop} {Q : α} {H : Hp} {a : Addr} {o : HO} (n : H a = none) (h : ∀ H', Same H H' → H' a = some o → R H' Q) : R (upd H a o) Q := h _ (same_upd n) upd_same
theorem tt_gen {t : TT} {σ : L2.St} {H : Hp} {R : Bool → Hp → Prop} (D : Bool → Hp → Prop) (e : ∀ R : Bool → Hp → Prop, (∀ v H', D v H' → R v H') → t σ H R) (c : ∀ v H', D v H' → R v H') : t σ H R := e R c
theorem ev_gen {t : TE} {σ : L2.St} {H : Hp} (D : V → Hp → Prop) {R : VK} (e : ∀ R : VK, (∀ v H', D v H' → R v H') → t σ H R) (c : ∀ v H', D v H' → R v H') : t σ H R := e R c
theorem ts_gen {t : TS} {κ : L2.Ends} {σ : L2.St} {H : Hp} (D : L2.St → Hp → Prop) (e : ∀ κ : L2.Ends, (∀ σ' H', D σ' H' → κ.nx σ' H') → t κ σ H) (c : ∀ σ' H', D σ' H' → κ.nx σ' H') : t κ σ H := e κ c
/-! ### odd things -/
structure Od (CO CP CC : Addr) (N : Hp) (v : V) : Prop where
  w : Wf [CO, CP, CC] N v
  o : isC N CO v = true → Ins CO N v
  p : isC N CP v = true → Ins CP N v
  c : isC N CC v = true → ∃ a n os ab, v = .ref a ∧ Bl CO CC N a n os ab ∧ P8 n ∧ P8 ab
section
variable {CO CP CC : Addr} {N N' : Hp} {v : V}
theorem Od.same (h : Od CO CP CC N v) (s : Same N N') : Od CO CP CC N' v := by
  obtain ⟨e1, e2, e3⟩ := h.w.at_ s
  refine ⟨h.w.same s, fun z => ?_, fun z => ?_, fun z => ?_⟩
  · rw [e3] at z
    exact (h.o z).same s
  · rw [e3] at z
    exact (h.p z).same s
  · rw [e3] at z
    obtain ⟨a, n, os, ab, h1, h2, h3⟩ := h.c z
    exact ⟨a, n, os, ab, h1, h2.same s, h3⟩
theorem Od.flat (w : Wf [CO, CP, CC] N v) (hc : ∀ C, isC N C v = false) : Od CO CP CC N v := ⟨w, (fun h => by rw [hc] at h; cases h), (fun h => by rw [hc] at h; cases h), (fun h => by rw [hc] at h; cases h)⟩
theorem od_non : Od CO CP CC N .non := .flat .non fun _ => rfl
theorem od_bl (b : Bool) : Od CO CP CC N (.bl b) := .flat (.bl b) fun _ => rfl
theorem od_int (i : Int) : Od CO CP CC N (.int i) := .flat (.int i) fun _ => rfl
theorem od_str {z : Str} (h : Tx 300 z) : Od CO CP CC N (.str z) := .flat (.str h) fun _ => rfl
theorem od_lst {a : Addr} {xs : List V} (e : N a = some (.lst xs)) (le : xs.length ≤ 1000) (h : ∀ x ∈ xs, Wf [CO, CP, CC] N x) : Od CO CP CC N (.ref a) := .flat (.lst e le h) fun C => by unfold isC; simp only [e]
theorem od_tup {a : Addr} {xs : List V} (e : N a = some (.tup xs)) : Od CO CP CC N (.ref a) := .flat (.tup e) fun C => by unfold isC; simp only [e]
theorem od_dic {a : Addr} {kvs : List (Key × V)} (e : N a = some (.dK kvs)) : Od CO CP CC N (.ref a) := .flat (.dic e) fun C => by unfold isC; simp only [e]
theorem od_o {a : Addr} {vs : List V} (d : Dis CO CP CC) (h : IsT N CO a vs) (le : vs.length ≤ 8) : Od CO CP CC N (.ref a) := by
  obtain ⟨h1, dx, t, e1, e2⟩ := id h
  refine ⟨.ins e1 (by simp), fun _ => ⟨a, vs, rfl, h, le⟩, fun z => ?_, fun z => ?_⟩
  · rw [(isC_ins e1 CP).1] at z
    exact absurd (of_decide_eq_true z) d.op
  · rw [(isC_ins e1 CC).1] at z
    exact absurd (of_decide_eq_true z) d.oc
theorem od_p {a : Addr} {vs : List V} (d : Dis CO CP CC) (h : IsT N CP a vs) (le : vs.length ≤ 8) : Od CO CP CC N (.ref a) := by
  obtain ⟨h1, dx, t, e1, e2⟩ := id h
  refine ⟨.ins e1 (by simp), fun z => ?_, fun _ => ⟨a, vs, rfl, h, le⟩, fun z => ?_⟩
  · rw [(isC_ins e1 CO).1] at z
    exact absurd (of_decide_eq_true z).symm d.op
  · rw [(isC_ins e1 CC).1] at z
    exact absurd (of_decide_eq_true z) d.pc
theorem od_c {a : Addr} {n ab : Str} {os : List V} (d : Dis CO CP CC) (h : Bl CO CC N a n os ab) (pn : P8 n) (pa : P8 ab) : Od CO CP CC N (.ref a) := by
  obtain ⟨dx, lo, lp, lg, lc, e1, e2⟩ := id h
  refine ⟨.ins e1 (by simp), fun z => ?_, fun z => ?_, fun _ => ⟨a, n, os, ab, rfl, h, pn, pa⟩⟩
  · rw [(isC_ins e1 CO).1] at z
    exact absurd (of_decide_eq_true z).symm d.oc
  · rw [(isC_ins e1 CP).1] at z
    exact absurd (of_decide_eq_true z).symm d.pc
/-- things of the new part of a heap -/
theorem IsT.nwl {H H' : Hp} {C a : Addr} {vs : List V} (h : IsT H' C a vs) (s : Same H H') : IsT (nwl H H') C a vs := by
  obtain ⟨h1, dx, t, e1, e2⟩ := h
  exact ⟨h1, dx, t, nwl_obj s (fun _ z => by cases z) e1, nwl_obj s (fun _ z => by cases z) e2⟩
theorem bl_nwl {H H1 H' : Hp} {x dx lo lp lg lc : Addr} {y z : Str} {os : List V} (s0 : Same H H1) (s : Same H1 H') (ex : H' x = some (.ins CC dx (cmdF (.str y) lo lp lg lc (.str z)))) (nl : H1 lo = none) (el : H' lo = some (.lst os)) (ho : ∀ o ∈ os, Ins CO (nwl H H') o) (le : os.length ≤ 20) : Bl CO CC (nwl H H') x y os z :=
  ⟨dx, lo, lp, lg, lc, nwl_obj (s0.trans s) (fun _ z => by cases z) ex, nwl_new (fresh_of s0 nl) el, ho, le⟩
/-- as an item beside other lists -/
theorem Od.itm {H H' : Hp} {p : Addr} {A : List Addr} {G' : Hp} (h : Od CO CP CC (WB.nwl H H') v) (s : Same (WB.nwl H H') G') (sc : isL (WB.nwl H H') v = false → Same (WB.nwl H H') (WB.cut A G')) (hl : ∀ a, v = .ref a → isL (WB.nwl H H') v = true → a ∈ A) : Itm CO CP CC A G' v := by
  obtain ⟨e1, e2, e3⟩ := h.w.at_ s
  have notl : ∀ C ∈ [CO, CP, CC], isC (WB.nwl H H') C v = true → isL (WB.nwl H H') v = false := fun C _ z => by
    unfold isC at z
    unfold isL
    split at z
    · split at z
      · rename_i e
        simp only [e]
      · cases z
    · cases z
  refine ⟨fun a ea z => hl a ea (by rw [← e1]; exact z), fun z => ?_, fun z => ?_, fun z => ?_⟩
  · rw [e3] at z
    exact (h.o z).same (sc (notl CO (by simp) z))
  · rw [e3] at z
    exact (h.p z).same (sc (notl CP (by simp) z))
  · rw [e3] at z
    obtain ⟨a, n, os, ab, h1, h2, h3⟩ := h.c z
    exact ⟨a, n, os, ab, h1, h2.same (sc (notl CC (by simp) z)), h3⟩
end
abbrev dvO : List V := [.str (Str.ofString ""), .str (Str.ofString "flag"), .str (Str.ofString "word"), .non, .bl false, .bl false, .str (Str.ofString "")]
abbrev dvP : List V := [.str (Str.ofString "one"), .str (Str.ofString "word"), .non, .str (Str.ofString "")]
section
variable {ta : TA} {σ : L2.St} {H : Hp} {Q : List V → Hp → Prop} {E : XK} {s : String}
theorem cons_mkO {C CN : Addr} (hs : nm (tl (Str.ofString s)) = true) (q : ∀ H' x, Same H H' → H x = none → IsT H' C x (oV (Str.ofString s) (Str.ofString "")) → ta σ H' fun xs H3 => Q (.ref x :: xs) H3) :
    tCons (tMake C (spInit C CN) dvO E (tCons (tC (.str (Str.ofString s))) tNil)) ta σ H Q :=
  mkO (Q := fun v H' => ta σ H' fun xs H3 => Q (v :: xs) H3) hs (by decide +kernel) (tx_lit _ (by decide +kernel)) q
theorem cons_mkP {C CN : Addr} (hs : nm (tl (Str.ofString s)) = true) (q : ∀ H' x, Same H H' → H x = none → IsT H' C x (pV (Str.ofString s) (Str.ofString "one")) → ta σ H' fun xs H3 => Q (.ref x :: xs) H3) :
    tCons (tMake C (WP.spInit C CN) dvP E (tCons (tC (.str (Str.ofString s))) tNil)) ta σ H Q :=
  mkP (Q := fun v H' => ta σ H' fun xs H3 => Q (v :: xs) H3) hs (by decide +kernel) (tx_lit _ (by decide +kernel)) q
theorem cons_mkC {CO CP CC CN : Addr} (hs : nm (tl (Str.ofString s)) = true) (q : ∀ H' x dx lo lp lg lc, Same H H' → H x = none → H' x = some (.ins CC dx (cmdF (.str (Str.ofString s)) lo lp lg lc (.str (Str.ofString "")))) → H lo = none → H' lo = some (.lst []) → ta σ H' fun xs H3 => Q (.ref x :: xs) H3) :
    tCons (tMake CC (spCInit CO CP CC CN) dvC E (tCons (tC (.str (Str.ofString s))) tNil)) ta σ H Q :=
  mkC (Q := fun v H' => ta σ H' fun xs H3 => Q (v :: xs) H3) hs (by decide +kernel) (tx_lit _ (by decide +kernel)) .non (by unfold ol; rw [decide_eq_true rfl, Bool.true_or]) q
end
/-- how the three classes are made -/
structure MkAll (P : Program) (w : World) (K : PySem.W.Frag) (mg : Str → Option Value) (base : Heap) (n : Nat) (CO CP CC CNO CNP CN fIO fIP fIC : Addr) (fdO fdP fdC : FuncData) (d1O d1P d1C : List Value) : Prop where
  dis : Dis CO CP CC
  mo : L2.Mk K CO fIO
  go : FnOk P w K mg base (L2.CX P w) n fIO fdO ["self", "long", "short", "takes", "maker", "default", "needed", "off", "about"] (spInit CO CNO)
  gO : mg "Option" = some (.ref CO)
  bo : Binds K fdO ["self", "long", "short", "takes", "maker", "default", "needed", "off", "about"] d1O
  vo : Vals dvO d1O
  mp : L2.Mk K CP fIP
  gp : FnOk P w K mg base (L2.CX P w) n fIP fdP ["self", "name", "many", "maker", "default", "about"] (WP.spInit CP CNP)
  gP : mg "Place" = some (.ref CP)
  bp : Binds K fdP ["self", "name", "many", "maker", "default", "about"] d1P
  vp : Vals dvP d1P
  mc : L2.Mk K CC fIC
  gc : FnOk P w K mg base (L2.CX P w) n fIC fdC cmdPs (spCInit CO CP CC CN)
  gC : mg "Command" = some (.ref CC)
  bc : Binds K fdC cmdPs d1C
  vc : Vals dvC d1C
def spOddT (CO CP CC : Addr) : Sp := fun vs H Q _ => ∃ (p : Addr) (i : Int), vs = [.ref p, .int i] ∧ Pot H p ∧ ∀ H' v, But p H H' → Pot H' p → Od CO CP CC (nwl H H') v → Q v H'
theorem nwl_but {H H1 H2 : Hp} {p : Addr} {xs : List V} (b : But p H1 H2) (e : H p = some (.lst xs)) : Same (nwl H H1) (nwl H H2) := fun c o ec => by
  have nc : c ≠ p := fun z => by
    rw [z, nwl_none e] at ec
    cases ec
  unfold nwl at ec ⊢
  split at ec
  · cases ec
  · exact b c o nc ec
section
variable {P : Program} {w : World} {K : PySem.W.Frag} {mg : Str → Option Value} {base : Heap}
theorem ok_oddT {CO CP CC CNO CNP CN fIO fIP fIC f fT : Addr} {fdO fdP fdC fd fdT : FuncData} {d1O d1P d1C : List Value} {k : Nat} (F : Fun K "_law_odd_thing" "_law_odd_thing" st_odd_thing f fd) (MA : MkAll P w K mg base (k + 1) CO CP CC CNO CNP CN fIO fIP fIC fdO fdP fdC d1O d1P d1C) (D_take : Df K mg "_law_take" sTake ["_law_pot_here", "_law_room"] fT fdT) (m_len : mg "len" = none) :
    FnOk P w K mg base CX0 (k + 3) f fd ["_law_pot_here", "_law_at"] (spOddT CO CP CC) := by
  have G_take : FnOk P w K mg base CX0 (k + 2) fT fdT ["_law_pot_here", "_law_room"] spTake := ok_take D_take.F
  refine F.ok sc_odd_thing (fun vs H Q E h => ?_) (fun cdv A outer s H vs Q E hr h => ?_)
  · obtain ⟨p, i, rfl, _⟩ := h
    rfl
  · obtain ⟨p, i, rfl, hp, q⟩ := h
    have d := MA.dis
    have ta : Tx 300 (Str.ofString "a") := tx_lit _ (by decide +kernel)
    have tb : Tx 300 (Str.ofString "b") := tx_lit _ (by decide +kernel)
    refine ⟨_, pss_cons (ps_set (i := 2) sc_odd_thing.nd rfl (.inl rfl) (pe_lst (pa_cons pe_non (pa_cons pe_int (pa_cons pe_str (pa_cons (pe_lst pa_nil) (pa_cons (pe_lst (pa_cons pe_str pa_nil)) (pa_cons (pe_make MA.mo MA.go (hr.mono (by omega)) (by rfl) MA.gO MA.bo MA.vo passF (pa_cons pe_str pa_nil)) (pa_cons (pe_make MA.mp MA.gp (hr.mono (by omega)) (by rfl) MA.gP MA.bp MA.vp passF (pa_cons pe_str pa_nil)) (pa_cons (pe_make MA.mc MA.gc (hr.mono (by omega)) (by rfl) MA.gC MA.bc MA.vc passF (pa_cons pe_str pa_nil)) (pa_cons pe_bl (pa_cons (pe_tup (pa_cons pe_str (pa_cons pe_str pa_nil))) (pa_cons pe_dnewK pa_nil)))))))))))))
      (pss_cons (ps_set (i := 3) sc_odd_thing.nd rfl (.inl rfl) (pe_lst (pa_cons (pe_lst (pa_cons pe_str pa_nil)) (pa_cons (pe_lst (pa_cons pe_str (pa_cons pe_str (pa_cons pe_str (pa_cons pe_str (pa_cons pe_str (pa_cons pe_str (pa_cons pe_str pa_nil)))))))) (pa_cons (pe_lst (pa_cons pe_str (pa_cons pe_int pa_nil))) (pa_cons (pe_lst (pa_cons pe_str (pa_cons pe_non pa_nil))) (pa_cons (pe_lst (pa_cons pe_str (pa_cons (pe_lst (pa_cons pe_str pa_nil)) pa_nil))) (pa_cons (pe_lst (pa_cons pe_str (pa_cons pe_str pa_nil))) pa_nil))))))))
      (pss_cons (ps_set (i := 4) sc_odd_thing.nd rfl (.inl rfl) (pe_ifExp (pt_cmpR op_eq (pv 1) pe_int (nomark _)) (pe_op op_cat (pe_op op_cat (pv 2) (pv 3)) (pe_lst (pa_cons pe_str (pa_cons (pe_lst (pa_cons pe_str (pa_cons pe_str pa_nil))) pa_nil)))) (pv 2)))
      (pss_one (ps_ret (pe_ix ix_list (pv 4) (pe_call G_take hr (by rfl) D_take.g D_take.F.kp D_take.b .nil pass0 (pa_cons (pv 0) (pa_cons (pe_callB call_len_seq (by rfl) m_len PySem.boot_len (pa_cons (pv 4) pa_nil)) pa_nil))) (fun _ _ => rfl)))))), ?_⟩
    refine ⟨by show 0 ≤ sizeLine; decide, fun l1 n1 => ?_⟩
    refine goT n1 fun H1 s1 e1 => ?_
    refine ⟨by show 1 ≤ sizeLine; decide, fun l2 n2 => ?_⟩
    refine goT n2 fun H2 s2 e2 => ?_
    have S2 := s1.trans s2
    refine cons_mkO (by decide +kernel) fun H3 xo s3 nxo io => ?_
    have S3 := S2.trans s3
    refine cons_mkP (by decide +kernel) fun H4 xp s4 nxp ip => ?_
    have S4 := S3.trans s4
    refine cons_mkC (by decide +kernel) fun H5 xc dx lo lp lg lc s5 nxc ec nlo elo => ?_
    have S5 := S4.trans s5
    refine ⟨by show 2 ≤ sizeLine; decide, fun l6 n6 => ?_⟩
    refine goT n6 fun H6 s6 e6 => ?_
    intro l7 n7
    refine goT n7 fun H7 s7 e7 => ?_
    refine ⟨by show 11 ≤ sizeLine; decide, fun lS nS => ?_⟩
    have S6 := S5.trans s6
    have S7 := S6.trans s7
    have O1 : Od CO CP CC (nwl H H7) (.ref l1) := od_lst (nwl_new n1 (s7 _ _ (s6 _ _ (s5 _ _ (s4 _ _ (s3 _ _ (s2 _ _ e1))))))) (by decide) (fun x hx => by cases hx)
    have O2 : Od CO CP CC (nwl H H7) (.ref l2) := od_lst (nwl_new (fresh_of s1 n2) (s7 _ _ (s6 _ _ (s5 _ _ (s4 _ _ (s3 _ _ e2)))))) (by decide) (fun x hx => by rw [List.mem_singleton.mp hx]; exact .str ta)
    have O3 : Od CO CP CC (nwl H H7) (.ref xo) := (od_o d (io.nwl S3) (by decide)).same (nwl_same (((s4.trans s5).trans s6).trans s7))
    have O4 : Od CO CP CC (nwl H H7) (.ref xp) := (od_p d (ip.nwl S4) (by decide)).same (nwl_same ((s5.trans s6).trans s7))
    have O5 : Od CO CP CC (nwl H H7) (.ref xc) := (od_c d (bl_nwl S4 s5 ec nlo elo (fun o ho => by cases ho) (by decide)) (by intro c hc; revert c; decide +kernel) (by intro c hc; revert c; decide +kernel)).same (nwl_same (s6.trans s7))
    have O6 : Od CO CP CC (nwl H H7) (.ref l6) := od_tup (nwl_new (fresh_of S5 n6) (s7 _ _ e6))
    have O7 : Od CO CP CC (nwl H H7) (.ref l7) := od_dic (nwl_new (fresh_of S6 n7) e7)
    have all1 : ∀ v ∈ [V.non, .int 7, .str (Str.ofString "a"), .ref l1, .ref l2, .ref xo, .ref xp, .ref xc, .bl true, .ref l6, .ref l7], Od CO CP CC (nwl H H7) v := fun v hv => by
      simp only [List.mem_cons, List.not_mem_nil, or_false] at hv
      rcases hv with rfl | rfl | rfl | rfl | rfl | rfl | rfl | rfl | rfl | rfl | rfl
      · exact od_non
      · exact od_int _
      · exact od_str ta
      · exact O1
      · exact O2
      · exact O3
      · exact O4
      · exact O5
      · exact od_bl _
      · exact O6
      · exact O7
    revert nS
    have len1 : [V.non, .int 7, .str (Str.ofString "a"), .ref l1, .ref l2, .ref xo, .ref xp, .ref xc, .bl true, .ref l6, .ref l7].length = 11 := rfl
    revert all1 len1
    generalize [V.non, .int 7, .str (Str.ofString "a"), .ref l1, .ref l2, .ref xo, .ref xp, .ref xc, .bl true, .ref l6, .ref l7] = ys1
    intro all1 len1 nS
    have s8 := same_upd (o := .lst ys1) nS
    have e8 : (upd H7 lS (.lst ys1)) lS = some (.lst ys1) := upd_same
    revert s8 e8
    generalize upd H7 lS (.lst ys1) = H8
    intro s8 e8
    have S8 := S7.trans s8
    have nS0 := fresh_of S7 nS
    have A8 : ∀ v ∈ ys1, Od CO CP CC (nwl H H8) v := fun v hv => (all1 v hv).same (nwl_same s8)
    clear all1 O1 O2 O3 O4 O5 O6 O7
    refine ⟨by show 1 ≤ sizeLine; decide, fun m1 k1 => ?_⟩
    refine goT k1 fun H9 s9 f1 => ?_
    have S9 := S8.trans s9
    refine ⟨by show 7 ≤ sizeLine; decide, fun m2 k2 => ?_⟩
    refine goT k2 fun H10 s10 f2 => ?_
    have S10 := S9.trans s10
    refine ⟨by show 2 ≤ sizeLine; decide, fun m3 k3 => ?_⟩
    refine goT k3 fun H11 s11 f3 => ?_
    have S11 := S10.trans s11
    refine ⟨by show 2 ≤ sizeLine; decide, fun m4 k4 => ?_⟩
    refine goT k4 fun H12 s12 f4 => ?_
    have S12 := S11.trans s12
    refine ⟨by show 1 ≤ sizeLine; decide, fun m5 k5 => ?_⟩
    refine goT k5 fun H13 s13 f5 => ?_
    have S13 := S12.trans s13
    refine ⟨by show 2 ≤ sizeLine; decide, fun m6 k6 => ?_⟩
    refine goT k6 fun H14 s14 f6 => ?_
    have S14 := S13.trans s14
    refine ⟨by show 2 ≤ sizeLine; decide, fun m7 k7 => ?_⟩
    refine goT k7 fun H15 s15 f7 => ?_
    have S15 := S14.trans s15
    refine ⟨by show 6 ≤ sizeLine; decide, fun lL nL => ?_⟩
    have t915 := ((((s10.trans s11).trans s12).trans s13).trans s14).trans s15
    have wa : ∀ {N : Hp}, Wf [CO, CP, CC] N (.str (Str.ofString "a")) := .str ta
    have B1 : Od CO CP CC (nwl H H15) (.ref m1) := od_lst (nwl_new (fresh_of S8 k1) (t915 _ _ f1)) (by decide) (fun x hx => by rw [List.mem_singleton.mp hx]; exact wa)
    have B2 : Od CO CP CC (nwl H H15) (.ref m2) := od_lst (nwl_new (fresh_of S9 k2) (s15 _ _ (s14 _ _ (s13 _ _ (s12 _ _ (s11 _ _ f2)))))) (by show 7 ≤ 1000; decide) (fun x hx => by
      simp only [List.mem_cons, List.not_mem_nil, or_false] at hx
      rcases hx with rfl | rfl | rfl | rfl | rfl | rfl | rfl <;> exact .str (tx_lit _ (by decide +kernel)))
    have B3 : Od CO CP CC (nwl H H15) (.ref m3) := od_lst (nwl_new (fresh_of S10 k3) (s15 _ _ (s14 _ _ (s13 _ _ (s12 _ _ f3))))) (by show 2 ≤ 1000; decide) (fun x hx => by
      simp only [List.mem_cons, List.not_mem_nil, or_false] at hx
      rcases hx with rfl | rfl
      · exact wa
      · exact .int _)
    have B4 : Od CO CP CC (nwl H H15) (.ref m4) := od_lst (nwl_new (fresh_of S11 k4) (s15 _ _ (s14 _ _ (s13 _ _ f4)))) (by show 2 ≤ 1000; decide) (fun x hx => by
      simp only [List.mem_cons, List.not_mem_nil, or_false] at hx
      rcases hx with rfl | rfl
      · exact wa
      · exact .non)
    have B6 : Od CO CP CC (nwl H H15) (.ref m6) := od_lst (nwl_new (fresh_of S13 k6) (s15 _ _ f6)) (by show 2 ≤ 1000; decide) (fun x hx => by
      simp only [List.mem_cons, List.not_mem_nil, or_false] at hx
      rcases hx with rfl | rfl
      · exact wa
      · exact .lst (nwl_new (fresh_of S12 k5) (s15 _ _ (s14 _ _ f5))) (by show 1 ≤ 1000; decide) (fun y hy => by rw [List.mem_singleton.mp hy]; exact .str tb))
    have B7 : Od CO CP CC (nwl H H15) (.ref m7) := od_lst (nwl_new (fresh_of S14 k7) f7) (by show 2 ≤ 1000; decide) (fun x hx => by
      simp only [List.mem_cons, List.not_mem_nil, or_false] at hx
      rcases hx with rfl | rfl <;> exact wa)
    have all2 : ∀ v ∈ [V.ref m1, .ref m2, .ref m3, .ref m4, .ref m6, .ref m7], Od CO CP CC (nwl H H15) v := fun v hv => by
      simp only [List.mem_cons, List.not_mem_nil, or_false] at hv
      rcases hv with rfl | rfl | rfl | rfl | rfl | rfl
      · exact B1
      · exact B2
      · exact B3
      · exact B4
      · exact B6
      · exact B7
    have len2 : [V.ref m1, .ref m2, .ref m3, .ref m4, .ref m6, .ref m7].length = 6 := rfl
    revert nL
    revert all2 len2
    generalize [V.ref m1, .ref m2, .ref m3, .ref m4, .ref m6, .ref m7] = ys2
    intro all2 len2 nL
    have s16 := same_upd (o := .lst ys2) nL
    have e16 : (upd H15 lL (.lst ys2)) lL = some (.lst ys2) := upd_same
    revert s16 e16
    generalize upd H15 lL (.lst ys2) = H16
    intro s16 e16
    have S16 := S15.trans s16
    have eS := s16 _ _ (t915 _ _ (s9 _ _ e8))
    have A16 : ∀ v ∈ ys1, Od CO CP CC (nwl H H16) v := fun v hv => (A8 v hv).same (nwl_same ((s9.trans t915).trans s16))
    have all16 : ∀ v ∈ ys2, Od CO CP CC (nwl H H16) v := fun v hv => (all2 v hv).same (nwl_same s16)
    clear A8 all2 B1 B2 B3 B4 B6 B7
    dsimp only [tSeq, tAsg, tC, gName]
    refine ev_gen (t := tIf _ _ _) (fun v H' => Same H H' ∧ ∃ (m : Addr) (ys : List V), v = .ref m ∧ H m = none ∧ H' m = some (.lst ys) ∧ 0 < ys.length ∧ ys.length ≤ 100 ∧ ∀ y ∈ ys, Od CO CP CC (nwl H H') y) (fun R c => ?_) ?_
    · refine ⟨.int i, rfl, rfl, _, rfl, ite2 (fun e => ?_) (fun e => ?_)⟩
      · refine ⟨.ref lS, rfl, .ref lL, rfl, lS, lL, _, _, rfl, rfl, eS, e16, by rw [len1, len2]; decide, fun c1 x1 => ?_⟩
        refine goT x1 fun H17 s17 g1 => ?_
        refine ⟨by show 2 ≤ sizeLine; decide, fun c2 x2 => ?_⟩
        refine goT x2 fun H18 s18 g2 => ?_
        refine ⟨by show 2 ≤ sizeLine; decide, fun c3 x3 => ?_⟩
        refine goT x3 fun H19 s19 g3 => ?_
        have S17 := S16.trans s17
        have S18 := S17.trans s18
        have S19 := S18.trans s19
        refine ⟨c1, c3, _, _, rfl, rfl, s19 _ _ (s18 _ _ g1), g3, by rw [List.length_append, len1, len2]; show 19 ≤ sizeLine; decide, fun c4 x4 => ?_⟩
        refine go (R := fun Hz => R (.ref c4) Hz) x4 fun H20 s20 g4 => ?_
        refine c _ _ ⟨S19.trans s20, c4, _, rfl, fresh_of S19 x4, g4, by rw [List.length_append, List.length_append, len1]; omega, by rw [List.length_append, List.length_append, len1, len2]; show 19 ≤ 100; decide, fun y hy => ?_⟩
        have t20 := ((s17.trans s18).trans s19).trans s20
        rcases List.mem_append.mp hy with hy | hy
        · rcases List.mem_append.mp hy with hy | hy
          · exact (A16 y hy).same (nwl_same t20)
          · exact (all16 y hy).same (nwl_same t20)
        · simp only [List.mem_cons, List.not_mem_nil, or_false] at hy
          rcases hy with rfl | rfl
          · exact od_str (tx_lit _ (by decide +kernel))
          · exact od_lst (nwl_new (fresh_of S17 x2) (s20 _ _ (s19 _ _ g2))) (by show 2 ≤ 1000; decide) (fun x hx => by
              simp only [List.mem_cons, List.not_mem_nil, or_false] at hx
              rcases hx with rfl | rfl <;> exact .str (tx_lit _ (by decide +kernel)))
      · exact ⟨.ref lS, rfl, c _ _ ⟨S16, lS, ys1, rfl, nS0, eS, by omega, by omega, A16⟩⟩
    rintro _ H17 ⟨S17, m, ys, rfl, nm0, em, l0, l1', hO⟩
    obtain ⟨x, y, ep, _⟩ := id hp
    have nmp : m ≠ p := fun z => by rw [z, ep] at nm0; cases nm0
    refine ⟨.ref m, rfl, .ref p, rfl, .ref m, rfl, m, ys, rfl, .inl (SqL.of em), p, ys.length, rfl, hp.same S17, by omega, by omega, fun H18 dd b18 p18 d0 d1 => ?_⟩
    obtain ⟨v, hv, ev⟩ := at_any ys dd d0 d1
    refine ⟨m, ys, dd, v, rfl, rfl, SqL.of (b18 _ _ nmp em), ev, ?_⟩
    exact q _ v ((But.of_same S17).trans b18) p18 ((hO v hv).same (nwl_but b18 ep))
end
end WB

set_option Elab.async false
set_option linter.all false
set_option maxRecDepth 100000
set_option maxHeartbeats 4000000
namespace WB
open PySem PySem.Spec PyProof.Rows L2 WG
open TL (tl)
abbrev st_spoilt : Stmt := topS 56
theorem sc_spoilt : FnScope ["_law_pot_here", "_law_told_here", "_law_at", "_law_some", "_law_way", "_law_good_here", "_law_most", "_law_place"] ["_law_pot_here", "_law_told_here", "_law_at"] (defScope st_spoilt) := ⟨rfl, rfl, rfl, by decide +kernel, rfl, by decide +kernel, by decide +kernel⟩
theorem cutV_mem {xs : List V} {lo hi : Option Int} {x : V} (h : x ∈ cutV xs lo hi) : x ∈ xs := by
  unfold cutV at h
  exact List.mem_of_mem_drop (List.mem_of_mem_take h)
theorem cut_none {A : List Addr} {H : Hp} {a : Addr} (h : H a = none) : cut A H a = none := by
  by_cases q : a ∈ A
  · exact cut_in q
  · rw [cut_out q]
    exact h
/-- the pot and the told list -/
def PT (H : Hp) (p T : Addr) : Prop := ∀ a ∈ [p, T], ∃ xs, H a = some (.lst xs)
section
variable {H H' : Hp} {p T a : Addr} {o : HO}
theorem PT.mk (hp : Pot H p) {us : List V} (hT : H T = some (.lst us)) : PT H p T := fun b hb => by
  obtain ⟨x, y, e, _⟩ := hp
  simp only [List.mem_cons, List.not_mem_nil, or_false] at hb
  rcases hb with rfl | rfl
  · exact ⟨_, e⟩
  · exact ⟨_, hT⟩
theorem PT.obj (h : PT H p T) (n : ∀ xs, o ≠ .lst xs) (e : H a = some o) : cut [p, T] H a = some o := cut_mk (fun hb => by
  obtain ⟨xs, ex⟩ := h a hb
  rw [e] at ex
  exact n xs (Option.some.inj ex)) e
theorem PT.new (h : PT H p T) (n : H a = none) (e : H' a = some o) : cut [p, T] H' a = some o := cut_mk (fun hb => by
  obtain ⟨xs, ex⟩ := h a hb
  rw [n] at ex
  cases ex) e
theorem PT.same (h : PT H p T) (s : Same H H') : PT H' p T := fun b hb => by
  obtain ⟨xs, e⟩ := h b hb
  exact ⟨xs, s _ _ e⟩
theorem PT.but (h : PT H p T) (b : But p H H') (hp : Pot H' p) : PT H' p T := fun c hc => by
  by_cases z : c = p
  · obtain ⟨x, y, e, _⟩ := hp
    exact ⟨_, by rw [z]; exact e⟩
  · obtain ⟨xs, e⟩ := h c hc
    exact ⟨xs, b _ _ z e⟩
theorem PT.sb (b : But p H H') : Same (cut [p, T] H) (cut [p, T] H') := cut_but (by simp) b
end
theorem Up.add {A : List Addr} {G G' : Hp} {a : Addr} (s : Same G G') (n : G a = none) : Up A G (a :: A) G' :=
  ⟨s, fun b h => List.mem_cons_of_mem _ h, fun b h nb => by
    rcases List.mem_cons.mp h with e | e
    · rw [e]
      exact n
    · exact absurd e nb⟩
/-- what an odd thing is beside the lists of the law -/
theorem odd_item {CO CP CC p T : Addr} {H4 H5 : Hp} {A : List Addr} {r : V} (h : Od CO CP CC (nwl H4 H5) r) (b : But p H4 H5) (pt : PT H4 p T) (hp5 : Pot H5 p) (al : ∀ a ∈ A, ∃ xs, cut [p, T] H4 a = some (.lst xs)) :
    ∃ A1, Up A (cut [p, T] H4) A1 (cut [p, T] H5) ∧ (∀ a ∈ A1, a ∉ A → H4 a = none) ∧ (∀ a ∈ A1, ∃ xs, cut [p, T] H5 a = some (.lst xs)) ∧ Wf [CO, CP, CC] (cut [p, T] H5) r ∧ Itm CO CP CC A1 (cut [p, T] H5) r := by
  have s5 : Same (nwl H4 H5) (cut [p, T] H5) := nwl_cut pt
  have sb : Same (cut [p, T] H4) (cut [p, T] H5) := PT.sb b
  have al5 : ∀ a ∈ A, ∃ xs, cut [p, T] H5 a = some (.lst xs) := fun a ha => by
    obtain ⟨xs, e⟩ := al a ha
    exact ⟨xs, sb _ _ e⟩
  have notA : ∀ a o, a ∈ A → nwl H4 H5 a = some o → False := fun a o ha e => by
    obtain ⟨xs, ex⟩ := al a ha
    rw [nwl_none (cut_le _ _ _ _ ex)] at e
    cases e
  cases hl : isL (nwl H4 H5) r with
  | false =>
    refine ⟨A, Up.refl sb, fun a h n => absurd h n, al5, h.w.same s5, h.itm (p := p) s5 (fun _ c o e => cut_mk (fun hc => notA c o hc e) (s5 _ _ e)) (fun a _ z => by rw [hl] at z; cases z)⟩
  | true =>
    obtain ⟨a, rfl, ea⟩ := h.w.list hl
    have n4 : H4 a = none := by
      cases e : H4 a with
      | none => rfl
      | some o =>
        exfalso
        have na : a ≠ p := fun z => by
          obtain ⟨xs, ex⟩ := pt p (by simp)
          rw [z, nwl_none ex] at ea
          cases ea
        have e5 := b _ _ na e
        rw [nwl_le _ _ _ _ ea] at e5
        rw [← Option.some.inj e5] at e
        rw [nwl_none e] at ea
        cases ea
    refine ⟨a :: A, Up.add sb (cut_none n4), fun c hc nc => ?_, fun c hc => ?_, h.w.same s5, h.itm (p := p) s5 (fun z => by rw [hl] at z; cases z) (fun c ec _ => by cases ec; exact List.mem_cons_self)⟩
    · rcases List.mem_cons.mp hc with e | e
      · rw [e]
        exact n4
      · exact absurd e nc
    · rcases List.mem_cons.mp hc with e | e
      · rw [e]
        exact ⟨_, s5 _ _ ea⟩
      · exact al5 c e
def SpPost (CO CP CC : Addr) (p T : Addr) (at_ : Nat) (A : List Addr) (n : Nat) (H : Hp) (Q : VK) : Prop := ∀ H' r A', But p H H' → Pot H' p → Up A (cut [p, T] H) A' (cut [p, T] H') → (∀ a ∈ A', a ∉ A → H a = none) → (∀ a ∈ A', ∃ xs, cut [p, T] H' a = some (.lst xs)) → ((at_ = 0 ∨ at_ = 5) → Thg (cut [p, T] H') r) →
  (at_ ≠ 0 → at_ ≠ 5 → TI CO CP CC A' (cut [p, T] H') r ∧ (its (cut [p, T] H') r).length ≤ 2 * n + 20) → Q r H'
def spSpoilt (CO CP CC : Addr) : Sp := fun vs H Q _ => ∃ (p T : Addr) (at_ : Nat) (us : List V) (v : V) (A : List Addr) (n : Nat), vs = [.ref p, .ref T, .int at_] ∧ at_ < 6 ∧ Pot H p ∧ T ≠ p ∧ H T = some (.lst us) ∧ us[at_]? = some v ∧ (∀ a ∈ A, ∃ xs, cut [p, T] H a = some (.lst xs)) ∧
  (at_ ≠ 0 → at_ ≠ 5 → TI CO CP CC A (cut [p, T] H) v ∧ (its (cut [p, T] H) v).length ≤ n) ∧ n ≤ 200 ∧ SpPost CO CP CC p T at_ A n H Q
end WB

set_option Elab.async false
set_option linter.all false
set_option maxRecDepth 100000
set_option maxHeartbeats 4000000
namespace WB
open PySem PySem.Spec PyProof.Rows L2 WG
open TL (tl)
section
variable {P : Program} {w : World} {K : PySem.W.Frag} {mg : Str → Option Value} {base : Heap}
theorem allL_up {p T : Addr} {A : List Addr} {H H' : Hp} (al : ∀ a ∈ A, ∃ xs, cut [p, T] H a = some (.lst xs)) (s : Same (cut [p, T] H) (cut [p, T] H')) : ∀ a ∈ A, ∃ xs, cut [p, T] H' a = some (.lst xs) := fun a ha => by
  obtain ⟨xs, e⟩ := al a ha
  exact ⟨xs, s _ _ e⟩
theorem its_none {G : Hp} {v : V} (hl : isL G v = false) : its G v = [] := by
  unfold its
  unfold isL at hl
  split
  · split
    · rename_i h
      simp only [h] at hl
      cases hl
    · rfl
  · rfl
theorem repl_mem {k : Nat} {g x : V} (h : x ∈ (List.replicate k [g]).flatten) : x = g := by
  obtain ⟨l, hl, hx⟩ := List.mem_flatten.mp h
  rw [(List.mem_replicate.mp hl).2] at hx
  exact List.mem_singleton.mp hx
theorem repl_len (k : Nat) (g : V) : (List.replicate k [g]).flatten.length = k := by
  rw [List.length_flatten, List.map_replicate]
  simp
/-- a list of items, as it is handed back -/
theorem ti_new {CO CP CC p T l : Addr} {A : List Addr} {H H' : Hp} {xs : List V} (pt : PT H p T) (nl : H l = none) (el : H' l = some (.lst xs)) (s : Same H H') (le : xs.length ≤ 1000) (h : ∀ x ∈ xs, Wf [CO, CP, CC] (cut [p, T] H) x ∧ Itm CO CP CC A (cut [p, T] H) x) :
    TI CO CP CC (l :: A) (cut [p, T] H') (.ref l) ∧ its (cut [p, T] H') (.ref l) = xs := by
  have e := pt.new nl el
  refine ⟨TI.list e le List.mem_cons_self fun x hx => ⟨(h x hx).1.same (cut_same s), (h x hx).2.up (h x hx).1 (Up.add (cut_same s) (cut_none nl))⟩, (isL_lst e).2⟩
theorem ok_spoilt {CO CP CC CNO CNP CN fIO fIP fIC f fT fO : Addr} {fdO fdP fdC fd fdT fdO' : FuncData} {d1O d1P d1C : List Value} {k : Nat} (F : Fun K "_law_spoilt" "_law_spoilt" st_spoilt f fd) (c3 : Cl3 K [CO, CP, CC]) (MA : MkAll P w K mg base (k + 1) CO CP CC CNO CNP CN fIO fIP fIC fdO fdP fdC d1O d1P d1C)
    (D_take : Df K mg "_law_take" sTake ["_law_pot_here", "_law_room"] fT fdT) (D_odd_thing : Df K mg "_law_odd_thing" st_odd_thing ["_law_pot_here", "_law_at"] fO fdO') (m_len : mg "len" = none) (m_list : mg "list" = none) (m_tuple : mg "tuple" = none) (m_isinstance : mg "isinstance" = none) :
    FnOk P w K mg base CX0 (k + 4) f fd ["_law_pot_here", "_law_told_here", "_law_at"] (spSpoilt CO CP CC) := by
  have G_take : FnOk P w K mg base CX0 (k + 3) fT fdT ["_law_pot_here", "_law_room"] spTake := ok_take D_take.F
  have G_odd_thing : FnOk P w K mg base CX0 (k + 3) fO fdO' ["_law_pot_here", "_law_at"] (spOddT CO CP CC) := ok_oddT D_odd_thing.F MA D_take m_len
  refine F.ok sc_spoilt (fun vs H Q E h => ?_) (fun cdv A outer s H vs Q E hr h => ?_)
  · obtain ⟨p, T, at_, us, v, A, n, rfl, _⟩ := h
    rfl
  · obtain ⟨p, T, at_, us, v, AA, n, rfl, ha6, hp, nTp, eT, hv, al, hti, hn, q⟩ := h
    have sl : sizeLine = 16777216 := sizeLine_eq
    have d := MA.dis
    have pt := PT.mk hp eT
    refine ⟨_, pss_cons (ps_if (pt_cmpR op_eq (pv 2) pe_int (nomark _)) (pss_one (ps_ret (pe_ix ix_list (pe_lst (pa_cons pe_str (pa_cons pe_str (pa_cons pe_str (pa_cons pe_str (pa_cons pe_str (pa_cons pe_non (pa_cons pe_int (pa_cons (pe_lst (pa_cons pe_str pa_nil)) pa_nil))))))))) (pe_call G_take hr (by rfl) D_take.g D_take.F.kp D_take.b .nil pass0 (pa_cons (pv 0) (pa_cons pe_int pa_nil))) (fun _ _ => rfl)))) pss_nil)
      (pss_cons (ps_if (pt_cmpR op_eq (pv 2) pe_int (nomark _)) (pss_one (ps_ret (pe_ix ix_list (pe_lst (pa_cons pe_str (pa_cons pe_str (pa_cons pe_str (pa_cons (pe_op op_mul_str pe_str pe_int) (pa_cons pe_non (pa_cons pe_int (pa_cons (pe_lst (pa_cons pe_str pa_nil)) pa_nil)))))))) (pe_call G_take hr (by rfl) D_take.g D_take.F.kp D_take.b .nil pass0 (pa_cons (pv 0) (pa_cons pe_int pa_nil))) (fun _ _ => rfl)))) pss_nil)
      (pss_cons (ps_set (i := 3) sc_spoilt.nd rfl (.inl rfl) (pe_ifExp (pt_val (pe_callB call_isi (by rfl) m_isinstance (by decide +kernel) (pa_cons (pe_ix ix_list (pv 1) (pv 2) (fun _ _ => rfl)) (pa_cons (pe_bltn (v := .ty "list") (by rfl) m_list (by decide +kernel) rfl) pa_nil)))) (pe_callTy (r := rListOf K) call_listOf (by rfl) m_list (by decide +kernel) (pa_cons (pe_ix ix_list (pv 1) (pv 2) (fun _ _ => rfl)) pa_nil)) (pe_lst pa_nil)))
      (pss_cons (ps_set (i := 4) sc_spoilt.nd rfl (.inl rfl) (pe_call G_take hr (by rfl) D_take.g D_take.F.kp D_take.b .nil pass0 (pa_cons (pv 0) (pa_cons pe_int pa_nil))))
      (pss_cons (ps_if (pt_cmpR op_eq (pv 4) pe_int (nomark _)) (pss_one (ps_ret (pe_ix ix_list (pe_lst (pa_cons (pe_tup pa_nil) (pa_cons pe_str (pa_cons pe_int (pa_cons pe_bl (pa_cons pe_dnewK (pa_cons (pe_make MA.mo MA.go (hr.mono (by omega)) (by rfl) MA.gO MA.bo MA.vo passF (pa_cons pe_str pa_nil)) (pa_cons pe_non (pa_cons (pe_callTy call_tuple_of (by rfl) m_tuple (by decide +kernel) (pa_cons (pv 3) pa_nil)) pa_nil))))))))) (pe_call G_take hr (by rfl) D_take.g D_take.F.kp D_take.b .nil pass0 (pa_cons (pv 0) (pa_cons pe_int pa_nil))) (fun _ _ => rfl)))) pss_nil)
      (pss_cons (ps_if (pt_cmpR op_eq (pv 4) pe_int (nomark _)) (pss_cons (ps_set (i := 5) sc_spoilt.nd rfl (.inl rfl) (pe_ix ix_list (pe_lst (pa_cons (pe_make MA.mo MA.go (hr.mono (by omega)) (by rfl) MA.gO MA.bo MA.vo passF (pa_cons pe_str pa_nil)) (pa_cons (pe_make MA.mp MA.gp (hr.mono (by omega)) (by rfl) MA.gP MA.bp MA.vp passF (pa_cons pe_str pa_nil)) (pa_cons (pe_lst (pa_cons pe_str (pa_cons pe_str pa_nil))) (pa_cons (pe_make MA.mc MA.gc (hr.mono (by omega)) (by rfl) MA.gC MA.bc MA.vc passF (pa_cons pe_str pa_nil)) pa_nil))))) (pe_op op_sub (pv 2) pe_int) (fun _ _ => rfl)))
      (pss_cons (ps_set (i := 6) sc_spoilt.nd rfl (.inl rfl) (pe_ix ix_list (pe_lst (pa_cons pe_int (pa_cons pe_int (pa_cons pe_int (pa_cons pe_int pa_nil))))) (pe_op op_sub (pv 2) pe_int) (fun _ _ => rfl)))
      (pss_one (ps_ret (pe_op op_cat (pv 3) (pe_op op_rep (pe_lst (pa_cons (pv 5) pa_nil)) (pe_op op_sub (pe_op op_add (pv 6) pe_int) (pe_callB call_len_seq (by rfl) m_len PySem.boot_len (pa_cons (pv 3) pa_nil))))))))) pss_nil)
      (pss_cons (ps_set (i := 7) sc_spoilt.nd rfl (.inl rfl) (pe_call G_take hr (by rfl) D_take.g D_take.F.kp D_take.b .nil pass0 (pa_cons (pv 0) (pa_cons (pe_op op_add (pe_callB call_len_seq (by rfl) m_len PySem.boot_len (pa_cons (pv 3) pa_nil)) pe_int) pa_nil))))
      (pss_one (ps_ret (pe_op op_cat (pe_op op_cat (pe_slice sl_list (pv 3) po_none (po_some (pv 7))) (pe_lst (pa_cons (pe_call G_odd_thing hr (by rfl) D_odd_thing.g D_odd_thing.F.kp D_odd_thing.b .nil pass0 (pa_cons (pv 0) (pa_cons (pv 2) pa_nil))) pa_nil))) (pe_slice sl_list (pv 3) (po_some (pe_op op_add (pv 7) pe_int)) po_none)))))))))), ?_⟩
    refine ⟨.int at_, rfl, rfl, _, rfl, ite2 (fun e0 => ?_) (fun e0 => ?_)⟩
    · have h0 : at_ = 0 := by have := V.int.inj (of_decide_eq_true e0); omega
      refine ⟨by show 1 ≤ sizeLine; decide, fun l1 n1 => ?_⟩
      refine goT n1 fun H1 s1 e1 => ?_
      refine ⟨by show 8 ≤ sizeLine; decide, fun l2 n2 => ?_⟩
      refine goT n2 fun H2 s2 e2 => ?_
      have S2 := s1.trans s2
      refine ⟨.ref p, rfl, p, 8, rfl, hp.same S2, by decide, by decide, fun H3 dd b3 p3 d0 d1 => ?_⟩
      have B3 : But p H H3 := (But.of_same S2).trans b3
      obtain ⟨r, hr', er⟩ := at_any [V.str (Str.ofString ""), .str (Str.ofString "-a"), .str (Str.ofString "A"), .str (Str.ofString "no-a"), .str (Str.ofString "abcdefghijk"), .non, .int 7, .ref l1] dd d0 (by show dd < 8; exact d1)
      have n2p : l2 ≠ p := fun z => by
        obtain ⟨xs, ex⟩ := pt p (by simp)
        rw [z, s1 _ _ ex] at n2
        cases n2
      have n1p : l1 ≠ p := fun z => by
        obtain ⟨xs, ex⟩ := pt p (by simp)
        rw [z, ex] at n1
        cases n1
      refine ⟨l2, _, dd, r, rfl, rfl, SqL.of (b3 _ _ n2p e2), er, ?_⟩
      refine q H3 r AA B3 p3 (Up.refl (PT.sb B3)) (fun a h nh => absurd h nh) (allL_up al (PT.sb B3)) (fun _ => ?_) (fun z => absurd h0 z)
      have eL : cut [p, T] H3 l1 = some (.lst [.str (Str.ofString "a")]) := pt.new n1 (b3 _ _ n1p (s2 _ _ e1))
      simp only [List.mem_cons, List.not_mem_nil, or_false] at hr'
      rcases hr' with rfl | rfl | rfl | rfl | rfl | rfl | rfl | rfl
      · exact .str (tx_lit _ (by decide +kernel))
      · exact .str (tx_lit _ (by decide +kernel))
      · exact .str (tx_lit _ (by decide +kernel))
      · exact .str (tx_lit _ (by decide +kernel))
      · exact .str (tx_lit _ (by decide +kernel))
      · exact .non
      · exact .int (by decide) (by decide)
      · exact .odd eL (.l1 ⟨by decide +kernel, by decide +kernel⟩)
    have h0 : at_ ≠ 0 := fun z => e0 (by rw [z]; rfl)
    refine ⟨.int at_, rfl, rfl, _, rfl, ite2 (fun e5 => ?_) (fun e5 => ?_)⟩
    · have h5 : at_ = 5 := by have := V.int.inj (of_decide_eq_true e5); omega
      refine ⟨_, 201, rfl, rfl, by decide, by decide +kernel, fun y hy hyc => ?_⟩
      refine ⟨by show 1 ≤ sizeLine; decide, fun l1 n1 => ?_⟩
      refine goT n1 fun H1 s1 e1 => ?_
      refine ⟨by show 7 ≤ sizeLine; decide, fun l2 n2 => ?_⟩
      refine goT n2 fun H2 s2 e2 => ?_
      have S2 := s1.trans s2
      refine ⟨.ref p, rfl, p, 7, rfl, hp.same S2, by decide, by decide, fun H3 dd b3 p3 d0 d1 => ?_⟩
      have B3 : But p H H3 := (But.of_same S2).trans b3
      obtain ⟨r, hr', er⟩ := at_any [V.str (Str.ofString " a"), .str (Str.ofString "a "), .str (Str.ofString "a  b"), .str y, .non, .int 7, .ref l1] dd d0 (by show dd < 7; exact d1)
      have n2p : l2 ≠ p := fun z => by
        obtain ⟨xs, ex⟩ := pt p (by simp)
        rw [z, s1 _ _ ex] at n2
        cases n2
      have n1p : l1 ≠ p := fun z => by
        obtain ⟨xs, ex⟩ := pt p (by simp)
        rw [z, ex] at n1
        cases n1
      refine ⟨l2, _, dd, r, rfl, rfl, SqL.of (b3 _ _ n2p e2), er, ?_⟩
      refine q H3 r AA B3 p3 (Up.refl (PT.sb B3)) (fun a h nh => absurd h nh) (allL_up al (PT.sb B3)) (fun _ => ?_) (fun _ z => absurd h5 z)
      have eL : cut [p, T] H3 l1 = some (.lst [.str (Str.ofString "a")]) := pt.new n1 (b3 _ _ n1p (s2 _ _ e1))
      simp only [List.mem_cons, List.not_mem_nil, or_false] at hr'
      rcases hr' with rfl | rfl | rfl | rfl | rfl | rfl | rfl
      · exact .str (tx_lit _ (by decide +kernel))
      · exact .str (tx_lit _ (by decide +kernel))
      · exact .str (tx_lit _ (by decide +kernel))
      · refine .str ⟨?_, fun c hc => ?_⟩
        · rw [hy, show (Str.ofString "b").length = 1 from by decide +kernel]
          decide
        · exact (by decide +kernel : ∀ c ∈ (Str.ofString "b").cps.toList, c < 256) c (hyc c hc)
      · exact .non
      · exact .int (by decide) (by decide)
      · exact .odd eL (.l1 ⟨by decide +kernel, by decide +kernel⟩)
    have h5 : at_ ≠ 5 := fun z => e5 (by rw [z]; rfl)
    obtain ⟨ti, tin⟩ := hti h0 h5
    have wH : Wf [CO, CP, CC] H v := ti.w.same (cut_le _ _)
    have eat := ti.w.at_ (cut_le [p, T] H)
    have hat : atI us (at_ : Int) = some v := atI_nat hv
    dsimp only [tNext, tSeq, tAsg, tC, gName]
    refine ev_gen (t := tIf _ _ _) (fun r H' => Same H H' ∧ ∃ (l : Addr) (xs : List V), r = .ref l ∧ H l = none ∧ H' l = some (.lst xs) ∧ xs.length ≤ n ∧ ∀ x ∈ xs, Wf [CO, CP, CC] (cut [p, T] H) x ∧ Itm CO CP CC AA (cut [p, T] H) x) (fun R c => ?_) ?_
    · obtain ⟨t, ht, _, hL, _⟩ := wH.ty c3
      refine ⟨.ref T, rfl, .int at_, rfl, T, us, at_, v, rfl, rfl, SqL.of eT, hat, v, _, t, _, _, rfl, ClsV.ty "list", ht, hL, _, rfl, ite2 (fun e => ?_) (fun e => ?_)⟩
      · obtain ⟨a, rfl, ea⟩ := wH.list e
        refine ⟨.ref T, rfl, .int at_, rfl, T, us, at_, .ref a, rfl, rfl, SqL.of eT, hat, a, _, rfl, .inl (SqL.of ea), fun l nl => c _ _ ⟨same_upd nl, l, _, rfl, nl, upd_same, ?_, fun x hx => ?_⟩⟩
        · rw [eat.2.1]
          exact tin
        · rw [eat.2.1] at hx
          exact ⟨ti.w.items.2 x hx, ti.i x hx⟩
      · exact ⟨by show 0 ≤ sizeLine; decide, fun l nl => c _ _ ⟨same_upd nl, l, [], rfl, nl, upd_same, Nat.zero_le _, (fun x hx => by cases hx)⟩⟩
    rintro _ H1 ⟨S1, ls, xs, rfl, nls, els, lx, hx⟩
    have pt1 := pt.same S1
    have hp1 := hp.same S1
    have nlp : ls ≠ p := (hp.ne nls).symm
    refine ⟨.ref p, rfl, p, 4, rfl, hp1, by decide, by decide, fun H2 dw b2 p2 dw0 dw1 => ?_⟩
    have B2 : But p H H2 := (But.of_same S1).trans b2
    have pt2 := pt1.but b2 p2
    have els2 := b2 _ _ nlp els
    have G2 : Same (cut [p, T] H) (cut [p, T] H2) := PT.sb B2
    have hx2 : ∀ x ∈ xs, Wf [CO, CP, CC] (cut [p, T] H2) x ∧ Itm CO CP CC AA (cut [p, T] H2) x := fun x h => ⟨(hx x h).1.same G2, (hx x h).2.up (hx x h).1 (Up.refl G2)⟩
    have al2 := allL_up al G2
    refine ⟨.int dw, rfl, rfl, _, rfl, ite2 (fun e => ?_) (fun e => ?_)⟩
    · refine ⟨by show 0 ≤ sizeLine; decide, fun t1 m1 => ?_⟩
      refine goT m1 fun H3 s3 f1 => ?_
      intro t2 m2
      refine goT m2 fun H4 s4 f2 => ?_
      refine cons_mkO (by decide +kernel) fun H5 xo s5 nxo io => ?_
      have S5 := (s3.trans s4).trans s5
      refine ⟨.ref ls, rfl, ls, xs, rfl, .inl ⟨SqL.of (S5 _ _ els2), fun t3 m3 => ?_⟩⟩
      refine goT m3 fun H6 s6 f3 => ?_
      refine ⟨by show 8 ≤ sizeLine; decide, fun lm nm => ?_⟩
      have S6 := S5.trans s6
      have O3 := (io.same s6)
      have nmp : lm ≠ p := ((p2.same S6).ne nm).symm
      have em : (upd H6 lm (.lst [V.ref t1, .str (Str.ofString "a"), .int 7, .bl true, .ref t2, .ref xo, .non, .ref t3])) lm = some (.lst [V.ref t1, .str (Str.ofString "a"), .int 7, .bl true, .ref t2, .ref xo, .non, .ref t3]) := upd_same
      have s7 := same_upd (o := .lst [V.ref t1, .str (Str.ofString "a"), .int 7, .bl true, .ref t2, .ref xo, .non, .ref t3]) nm
      revert em s7
      generalize upd H6 lm (.lst [V.ref t1, .str (Str.ofString "a"), .int 7, .bl true, .ref t2, .ref xo, .non, .ref t3]) = H7
      intro em s7
      have S7 := S6.trans s7
      refine ⟨.ref p, rfl, p, 8, rfl, p2.same S7, by decide, by decide, fun H8 dd b8 p8 d0 d1 => ?_⟩
      obtain ⟨r, hr', er⟩ := at_any [V.ref t1, .str (Str.ofString "a"), .int 7, .bl true, .ref t2, .ref xo, .non, .ref t3] dd d0 (by show dd < 8; exact d1)
      refine ⟨lm, _, dd, r, rfl, rfl, SqL.of (b8 _ _ nmp em), er, ?_⟩
      have B8 : But p H2 H8 := (But.of_same S7).trans b8
      have BB : But p H H8 := B2.trans B8
      have pt8 := pt2.but B8 p8
      have nl : ∀ {a : Addr} {o : HO}, H7 a = some o → (∀ xs, o ≠ .lst xs) → cut [p, T] H8 a = some o := fun {a o} e ne => pt8.obj ne (b8 _ _ (fun z => by
        obtain ⟨ys, ey⟩ := (pt2.same S7) p (by simp)
        rw [z, ey] at e
        exact ne ys (Option.some.inj e).symm) e)
      obtain ⟨_, dx, t, eo1, eo2⟩ := O3.same s7
      refine q H8 r AA BB p8 (Up.refl (PT.sb BB)) (fun a h nh => absurd h nh) (allL_up al (PT.sb BB)) (fun z => z.elim (fun z => absurd z h0) (fun z => absurd z h5)) (fun _ _ => ?_)
      have key : Wf [CO, CP, CC] (cut [p, T] H8) r ∧ isL (cut [p, T] H8) r = false := by
        simp only [List.mem_cons, List.not_mem_nil, or_false] at hr'
        rcases hr' with rfl | rfl | rfl | rfl | rfl | rfl | rfl | rfl
        · have e := nl (s7 _ _ (s6 _ _ (s5 _ _ (s4 _ _ f1)))) (fun _ z => by cases z)
          exact ⟨.tup e, by unfold isL; simp only [e]⟩
        · exact ⟨.str (tx_lit _ (by decide +kernel)), rfl⟩
        · exact ⟨.int _, rfl⟩
        · exact ⟨.bl _, rfl⟩
        · have e := nl (s7 _ _ (s6 _ _ (s5 _ _ f2))) (fun _ z => by cases z)
          exact ⟨.dic e, by unfold isL; simp only [e]⟩
        · have e := nl eo1 (fun _ z => by cases z)
          exact ⟨.ins e (by simp), by unfold isL; simp only [e]⟩
        · exact ⟨.non, rfl⟩
        · have e := nl (s7 _ _ f3) (fun _ z => by cases z)
          exact ⟨.tup e, by unfold isL; simp only [e]⟩
      refine ⟨TI.plain key.1 key.2, ?_⟩
      have e0 : its (cut [p, T] H8) r = [] := its_none key.2
      rw [e0]
      exact Nat.zero_le _
    refine ⟨.int dw, rfl, rfl, _, rfl, ite2 (fun e1 => ?_) (fun e1 => ?_)⟩
    · dsimp only [tSeq, tAsg, tOp, tLst]
      refine cons_mkO (s := "z") (by decide +kernel) fun H3 xo s3 nxo io => ?_
      refine cons_mkP (s := "z") (by decide +kernel) fun H4 xp s4 nxp ip => ?_
      refine ⟨by show 2 ≤ sizeLine; decide, fun lz nz => ?_⟩
      refine goT nz fun H5 s5 ez => ?_
      refine cons_mkC (s := "z") (by decide +kernel) fun H6 xc dx lo lp lg lc s6 nxc ec nlo elo => ?_
      refine ⟨by show 4 ≤ sizeLine; decide, fun lm nm => ?_⟩
      have em : (upd H6 lm (.lst [V.ref xo, .ref xp, .ref lz, .ref xc])) lm = some (.lst [V.ref xo, .ref xp, .ref lz, .ref xc]) := upd_same
      have s7 := same_upd (o := .lst [V.ref xo, .ref xp, .ref lz, .ref xc]) nm
      revert em s7
      generalize upd H6 lm (.lst [V.ref xo, .ref xp, .ref lz, .ref xc]) = H7
      intro em s7
      have S4 := s3.trans s4
      have S5 := S4.trans s5
      have S6 := S5.trans s6
      have S7 := S6.trans s7
      have pt4 := pt2.same S4
      have pt5 := pt2.same S5
      have pt7 := pt2.same S7
      -- the lists of the law, and one more
      have al5 : ∀ a ∈ lz :: AA, ∃ ys, cut [p, T] H5 a = some (.lst ys) := fun a ha => by
        rcases List.mem_cons.mp ha with z | z
        · rw [z]
          exact ⟨_, pt4.new nz ez⟩
        · obtain ⟨ys, ey⟩ := al2 a z
          exact ⟨ys, cut_same S5 _ _ ey⟩
      have al7 : ∀ a ∈ lz :: AA, ∃ ys, cut [p, T] H7 a = some (.lst ys) := allL_up al5 (cut_same (s6.trans s7))
      have up7 : Up AA (cut [p, T] H2) (lz :: AA) (cut [p, T] H7) := Up.add (cut_same S7) (cut_none (fresh_of S4 nz))
      have hx7 : ∀ x ∈ xs, Wf [CO, CP, CC] (cut [p, T] H7) x ∧ Itm CO CP CC (lz :: AA) (cut [p, T] H7) x := fun x h => ⟨(hx2 x h).1.same (cut_same S7), (hx2 x h).2.up (hx2 x h).1 up7⟩
      have good : ∀ (j : Nat) (g : V), j < 4 → [V.ref xo, .ref xp, .ref lz, .ref xc][j]? = some g → Wf [CO, CP, CC] (cut [p, T] H7) g ∧ Itm CO CP CC (lz :: AA) (cut [p, T] H7) g := fun j g hj hg => by
        match j, hj, hg with
        | 0, _, hg =>
          cases hg
          have it := ((io.same ((s4.trans s5).trans (s6.trans s7))).cut pt7).cut al7
          obtain ⟨_, dx', t', e1', _⟩ := id it
          exact ⟨.ins (cut_le _ _ _ _ e1') (by simp), itm_o d it (by decide)⟩
        | 1, _, hg =>
          cases hg
          have it := ((ip.same (s5.trans (s6.trans s7))).cut pt7).cut al7
          obtain ⟨_, dx', t', e1', _⟩ := id it
          exact ⟨.ins (cut_le _ _ _ _ e1') (by simp), itm_p d it (by decide)⟩
        | 2, _, hg =>
          cases hg
          have ez7 : cut [p, T] H7 lz = some (.lst [.str (Str.ofString "z"), .str (Str.ofString "y")]) := pt4.new nz (s7 _ _ (s6 _ _ ez))
          exact ⟨.lst ez7 (by show 2 ≤ 1000; decide) (fun x hx => by
            simp only [List.mem_cons, List.not_mem_nil, or_false] at hx
            rcases hx with rfl | rfl <;> exact .str (tx_lit _ (by decide +kernel))), Itm.lst ez7 List.mem_cons_self⟩
        | 3, _, hg =>
          cases hg
          have bl : Bl CO CC (cut (lz :: AA) (cut [p, T] H6)) xc _ _ _ := bl_of (cut_same s6) (pt5.same s6 |>.obj (fun _ z => by cases z) ec) (cut_none nlo) (pt5.new nlo elo) al5 (fun o ho => by cases ho) (by decide)
          have bl7 := bl.same (cut_same (A := lz :: AA) (cut_same (A := [p, T]) s7))
          obtain ⟨dx', lo', lp', lg', lc', e1', _⟩ := id bl7
          exact ⟨.ins (cut_le _ _ _ _ e1') (by simp), itm_c d bl7 (by intro c hc; revert c; decide +kernel) (by intro c hc; revert c; decide +kernel)⟩
      obtain ⟨j, hj⟩ : ∃ j, at_ = j + 1 := ⟨at_ - 1, by omega⟩
      have hj4 : j < 4 := by omega
      obtain ⟨g, hg⟩ : ∃ g, [V.ref xo, .ref xp, .ref lz, .ref xc][j]? = some g := ⟨_, List.getElem?_eq_getElem (by show j < 4; exact hj4)⟩
      obtain ⟨m, hm, hm12⟩ : ∃ m : Nat, [V.int 12, .int 6, .int 4, .int 8][j]? = some (.int m) ∧ m ≤ 12 := by
        match j, hj4 with
        | 0, _ => exact ⟨12, rfl, by decide⟩
        | 1, _ => exact ⟨6, rfl, by decide⟩
        | 2, _ => exact ⟨4, rfl, by decide⟩
        | 3, _ => exact ⟨8, rfl, by decide⟩
      have ej : (at_ : Int) - 1 = (j : Int) := by omega
      obtain ⟨gw, gi⟩ := good j g hj4 hg
      refine ⟨.int at_, rfl, _, _, rfl, rfl, lm, _, _, g, rfl, rfl, SqL.of em, by rw [ej]; exact atI_nat hg, ?_⟩
      refine ⟨by show 4 ≤ sizeLine; decide, fun lq nq => ?_⟩
      have eq' : (upd H7 lq (.lst [V.int 12, .int 6, .int 4, .int 8])) lq = some (.lst [V.int 12, .int 6, .int 4, .int 8]) := upd_same
      have s8 := same_upd (o := .lst [V.int 12, .int 6, .int 4, .int 8]) nq
      revert eq' s8
      generalize upd H7 lq (.lst [V.int 12, .int 6, .int 4, .int 8]) = H8
      intro eq' s8
      refine ⟨.int at_, rfl, _, _, rfl, rfl, lq, _, _, .int m, rfl, rfl, SqL.of eq', by rw [ej]; exact atI_nat hm, ?_⟩
      refine ⟨.ref ls, rfl, g, rfl, by show 1 ≤ sizeLine; decide, fun l1 n1 => ?_⟩
      refine goT n1 fun H9 s9 f9 => ?_
      have els9 := s9 _ _ (s8 _ _ (S7 _ _ els2))
      refine ⟨.int m, rfl, _, _, rfl, rfl, .ref ls, rfl, ls, xs, rfl, .inl (SqL.of els9), _, _, rfl, rfl, l1, _, _, rfl, rfl, f9, by omega, by omega, by show 1 * _ ≤ sizeLine; omega, fun l2 n2 => ?_⟩
      refine goT n2 fun H10 s10 f10 => ?_
      refine ⟨ls, l2, _, _, rfl, rfl, s10 _ _ els9, f10, by rw [repl_len]; omega, fun l3 n3 => ?_⟩
      have S10 := (s8.trans s9).trans s10
      have s11 := same_upd (o := .lst (xs ++ (List.replicate (Int.toNat ((m : Int) + 1 - (xs.length : Int))) [g]).flatten)) n3
      have f11 : (upd H10 l3 (.lst (xs ++ (List.replicate (Int.toNat ((m : Int) + 1 - (xs.length : Int))) [g]).flatten))) l3 = some (.lst (xs ++ (List.replicate (Int.toNat ((m : Int) + 1 - (xs.length : Int))) [g]).flatten)) := upd_same
      revert s11 f11
      generalize upd H10 l3 (.lst (xs ++ (List.replicate (Int.toNat ((m : Int) + 1 - (xs.length : Int))) [g]).flatten)) = H11
      intro s11 f11
      have len : (xs ++ (List.replicate (Int.toNat ((m : Int) + 1 - (xs.length : Int))) [g]).flatten).length ≤ 2 * n + 20 := by
        rw [List.length_append, repl_len]
        omega
      obtain ⟨r1, r2⟩ := ti_new (CO := CO) (CP := CP) (CC := CC) (A := lz :: AA) (pt7.same S10) n3 f11 s11 (by omega) (fun x hx => by
        have hg7 : Wf [CO, CP, CC] (cut [p, T] H7) x ∧ Itm CO CP CC (lz :: AA) (cut [p, T] H7) x := by
          rcases List.mem_append.mp hx with z | z
          · exact hx7 x z
          · rw [repl_mem z]
            exact ⟨gw, gi⟩
        exact ⟨hg7.1.same (cut_same S10), hg7.2.up hg7.1 (Up.refl (cut_same S10))⟩)
      have S11 := (S7.trans S10).trans s11
      have BB : But p H H11 := B2.trans (But.of_same S11)
      refine q H11 (.ref l3) (l3 :: lz :: AA) BB (p2.same S11) ?_ (fun a ha na => ?_) (fun a ha => ?_) (fun z => z.elim (fun z => absurd z h0) (fun z => absurd z h5)) (fun _ _ => ⟨r1, by rw [r2]; exact len⟩)
      · exact (Up.refl G2).trans (up7.trans ((Up.refl (cut_same S10)).trans (Up.add (cut_same s11) (cut_none n3))))
      · have fr : ∀ {Hx : Hp} {c : Addr}, Same H2 Hx → Hx c = none → H c = none := fun {Hx c} sx nc => by
          have n2c := fresh_of sx nc
          cases e : H c with
          | none => rfl
          | some o =>
            have ncp : c ≠ p := fun z => by
              obtain ⟨x, y, ep, _⟩ := id p2
              rw [z, ep] at n2c
              cases n2c
            rw [B2 _ _ ncp e] at n2c
            cases n2c
        rcases List.mem_cons.mp ha with z | z
        · rw [z]
          exact fr (S7.trans S10) n3
        · rcases List.mem_cons.mp z with z | z
          · rw [z]
            exact fr S4 nz
          · exact absurd z na
      · rcases List.mem_cons.mp ha with z | z
        · rw [z]
          exact ⟨_, (pt7.same S10).new n3 f11⟩
        · obtain ⟨ys, ey⟩ := al7 a z
          exact ⟨ys, cut_same (S10.trans s11) _ _ ey⟩
    refine ⟨.ref p, rfl, .ref ls, rfl, ls, xs, rfl, .inl (SqL.of els2), _, _, rfl, rfl, p, xs.length + 1, rfl, p2, by omega, by omega, fun H3 dp b3 p3 dp0 dp1 => ?_⟩
    have els3 := b3 _ _ nlp els2
    have pt3 := pt2.but b3 p3
    refine ⟨.ref ls, rfl, .int dp, rfl, dp, rfl, ls, xs, rfl, SqL.of els3, fun q1 m1 => ?_⟩
    refine goT m1 fun H4 s4 f4 => ?_
    have p4 := p3.same s4
    have pt4 := pt3.same s4
    have nq1 : q1 ≠ p := (p3.ne m1).symm
    have B4 : But p H H4 := (B2.trans b3).trans (But.of_same s4)
    have al4 := allL_up al (PT.sb B4)
    refine ⟨.ref p, rfl, .int at_, rfl, p, at_, rfl, p4, fun H5 r b5 p5 od => ?_⟩
    obtain ⟨A1, up5, new5, al5, wr, ir⟩ := odd_item od b5 pt4 p5 al4
    have pt5 := pt4.but b5 p5
    have B5 := B4.trans b5
    have hx5 : ∀ x ∈ xs, Wf [CO, CP, CC] (cut [p, T] H5) x ∧ Itm CO CP CC A1 (cut [p, T] H5) x := fun x h => by
      have u := (Up.refl (A := AA) (PT.sb (T := T) B4)).trans up5
      exact ⟨(hx x h).1.same u.s, (hx x h).2.up (hx x h).1 u⟩
    refine ⟨by show 1 ≤ sizeLine; decide, fun q2 m2 => ?_⟩
    refine goT m2 fun H6 s6 f6 => ?_
    have lc1 := cutV_length xs none (some dp)
    refine ⟨q1, q2, _, _, rfl, rfl, s6 _ _ (b5 _ _ nq1 f4), f6, by show _ + 1 ≤ _; omega, fun q3 m3 => ?_⟩
    refine goT m3 fun H7 s7 f7 => ?_
    have S7 := s6.trans s7
    have els7 := S7 _ _ (b5 _ _ nlp (s4 _ _ els3))
    refine ⟨.ref ls, rfl, .int dp, rfl, _, _, rfl, rfl, _, rfl, ls, xs, rfl, SqL.of els7, fun q4 m4 => ?_⟩
    refine goT m4 fun H8 s8 f8 => ?_
    have S8 := S7.trans s8
    have lc2 := cutV_length xs (some (dp + 1)) none
    refine ⟨q3, q4, _, _, rfl, rfl, s8 _ _ f7, f8, by rw [List.length_append]; show _ + 1 + _ ≤ _; omega, fun q5 m5 => ?_⟩
    have s9 := same_upd (o := .lst (cutV xs none (some dp) ++ [r] ++ cutV xs (some (dp + 1)) none)) m5
    have f9 : (upd H8 q5 (.lst (cutV xs none (some dp) ++ [r] ++ cutV xs (some (dp + 1)) none))) q5 = some (.lst (cutV xs none (some dp) ++ [r] ++ cutV xs (some (dp + 1)) none)) := upd_same
    revert s9 f9
    generalize upd H8 q5 (.lst (cutV xs none (some dp) ++ [r] ++ cutV xs (some (dp + 1)) none)) = H9
    intro s9 f9
    have len : (cutV xs none (some dp) ++ [r] ++ cutV xs (some (dp + 1)) none).length ≤ 2 * n + 20 := by
      rw [List.length_append, List.length_append]
      show _ + 1 + _ ≤ _
      omega
    obtain ⟨r1, r2⟩ := ti_new (CO := CO) (CP := CP) (CC := CC) (A := A1) (pt5.same S8) m5 f9 s9 (by omega) (fun x hx => by
      have h5' : Wf [CO, CP, CC] (cut [p, T] H5) x ∧ Itm CO CP CC A1 (cut [p, T] H5) x := by
        rcases List.mem_append.mp hx with z | z
        · rcases List.mem_append.mp z with z | z
          · exact hx5 x (cutV_mem z)
          · rw [List.mem_singleton.mp z]
            exact ⟨wr, ir⟩
        · exact hx5 x (cutV_mem z)
      exact ⟨h5'.1.same (cut_same S8), h5'.2.up h5'.1 (Up.refl (cut_same S8))⟩)
    have S9 := S8.trans s9
    have BB : But p H H9 := B5.trans (But.of_same S9)
    have fr : ∀ {Hx : Hp} {c : Addr}, But p H Hx → Pot Hx p → Hx c = none → H c = none := fun {Hx c} bx px nc => by
      cases e : H c with
      | none => rfl
      | some o =>
        rw [bx _ _ (fun z => by
          obtain ⟨x, y, ep, _⟩ := id px
          rw [z, ep] at nc
          cases nc) e] at nc
        cases nc
    refine q H9 (.ref q5) (q5 :: A1) BB (p5.same S9) ?_ (fun a ha na => ?_) (fun a ha => ?_) (fun z => z.elim (fun z => absurd z h0) (fun z => absurd z h5)) (fun _ _ => ⟨r1, by rw [r2]; exact len⟩)
    · exact (Up.refl (PT.sb B4)).trans (up5.trans ((Up.refl (cut_same S8)).trans (Up.add (cut_same s9) (cut_none m5))))
    · rcases List.mem_cons.mp ha with z | z
      · rw [z]
        exact fr (B5.trans (But.of_same S8)) (p5.same S8) m5
      · exact fr B4 p4 (new5 a z na)
    · rcases List.mem_cons.mp ha with z | z
      · rw [z]
        exact ⟨_, (pt5.same S8).new m5 f9⟩
      · obtain ⟨ys, ey⟩ := al5 a z
        exact ⟨ys, cut_same S9 _ _ ey⟩
end
end WB

set_option Elab.async false
set_option linter.all false
set_option maxRecDepth 100000
set_option maxHeartbeats 4000000
namespace WB
open PySem PySem.Spec PyProof.Rows L2 WG
open TL (tl)
abbrev st_good : Stmt := topS 54
theorem sc_good : FnScope ["_law_pot_here", "_law_first", "_law_second", "_law_third", "_law_k", "_law_below_here", "_law_told_here", "_law_at", "_law_j"] ["_law_pot_here"] (defScope st_good) := ⟨rfl, rfl, rfl, by decide +kernel, rfl, by decide +kernel, by decide +kernel⟩
/-! ### the told list -/
structure Tl (CO CP CC : Addr) (H0 H : Hp) (p T : Addr) (A : List Addr) (n : Nat) (us : List V) : Prop where
  pt : Pot H p
  ne : T ≠ p
  eT : H T = some (.lst us)
  nT : H0 T = none
  len : us.length = 6
  al : ∀ a ∈ A, H0 a = none ∧ ∃ xs, cut [p, T] H a = some (.lst xs)
  th : ∀ j v, us[j]? = some v → j = 0 ∨ j = 5 → Thg (cut [p, T] H) v
  ti : ∀ j v, us[j]? = some v → j ≠ 0 → j ≠ 5 → TI CO CP CC A (cut [p, T] H) v ∧ (its (cut [p, T] H) v).length ≤ n
theorem but_fresh {p c : Addr} {H H' : Hp} (b : But p H H') (hp : Pot H' p) (n : H' c = none) : H c = none := by
  cases e : H c with
  | none => rfl
  | some o =>
    rw [b _ _ (fun z => by
      obtain ⟨x, y, ep, _⟩ := id hp
      rw [z, ep] at n
      cases n) e] at n
    cases n
theorem cut_T {p T : Addr} {H : Hp} {o : HO} : cut [p, T] (upd H T o) = cut [p, T] H := by
  funext a
  by_cases h : a ∈ [p, T]
  · rw [cut_in h, cut_in h]
  · rw [cut_out h, cut_out h, upd_ne (fun z => h (by rw [z]; simp))]
section
variable {CO CP CC p T : Addr} {H0 H H' : Hp} {A A' : List Addr} {n n' : Nat} {us : List V}
theorem Tl.put {j : Nat} {r : V} (h : Tl CO CP CC H0 H p T A n us) (b0 : But p H0 H) (b : But p H H') (hp : Pot H' p) (u : Up A (cut [p, T] H) A' (cut [p, T] H')) (nw : ∀ a ∈ A', a ∉ A → H a = none) (al : ∀ a ∈ A', ∃ xs, cut [p, T] H' a = some (.lst xs)) (nn : n ≤ n')
    (rt : (j = 0 ∨ j = 5) → Thg (cut [p, T] H') r) (ri : j ≠ 0 → j ≠ 5 → TI CO CP CC A' (cut [p, T] H') r ∧ (its (cut [p, T] H') r).length ≤ n') : Tl CO CP CC H0 (upd H' T (.lst (us.set j r))) p T A' n' (us.set j r) := by
  refine ⟨?_, h.ne, upd_same, h.nT, by rw [List.length_set]; exact h.len, fun a ha => ⟨?_, ?_⟩, fun i v hv hi => ?_, fun i v hv h0 h5 => ?_⟩
  · obtain ⟨x, y, e, h1, h2⟩ := hp
    exact ⟨x, y, by rw [upd_ne h.ne.symm]; exact e, h1, h2⟩
  · by_cases z : a ∈ A
    · exact (h.al a z).1
    · exact but_fresh b0 h.pt (nw a ha z)
  · rw [cut_T]
    exact al a ha
  · rw [cut_T]
    by_cases z : i = j
    · subst z
      rw [List.getElem?_set_self (by by_cases q : i < us.length; exact q; rw [List.getElem?_set] at hv; simp [q] at hv)] at hv
      cases hv
      exact rt hi
    · rw [List.getElem?_set_ne (fun q => z q.symm)] at hv
      exact (h.th i v hv hi).same u.s
  · rw [cut_T]
    by_cases z : i = j
    · subst z
      rw [List.getElem?_set_self (by by_cases q : i < us.length; exact q; rw [List.getElem?_set] at hv; simp [q] at hv)] at hv
      cases hv
      exact ri h0 h5
    · rw [List.getElem?_set_ne (fun q => z q.symm)] at hv
      obtain ⟨t, l⟩ := h.ti i v hv h0 h5
      refine ⟨t.up u, ?_⟩
      rw [(t.w.at_ u.s).2.1]
      omega
end
theorem Ins.cut {C : Addr} {H : Hp} {v : V} {A : List Addr} (h : Ins C H v) (al : ∀ b ∈ A, ∃ xs, H b = some (.lst xs)) : Ins C (cut A H) v := by
  obtain ⟨a, vs, e, t, l⟩ := h
  exact ⟨a, vs, e, t.cut al, l⟩
/-! ### lists of new options and places -/
def P1 (C p D : Addr) (H1 : Hp) (i : Nat) (Hc : Hp) : Prop := But p H1 Hc ∧ Pot Hc p ∧ ∃ xs, Hc D = some (.lst xs) ∧ xs.length = i ∧ ∀ x ∈ xs, Ins C (cut [p, D] Hc) x
theorem two_lists {p D : Addr} {H : Hp} {xs : List V} (hp : Pot H p) (e : H D = some (.lst xs)) : ∀ b ∈ [p, D], ∃ ys, H b = some (.lst ys) := PT.mk hp e
theorem P1.start {C p D : Addr} {H1 : Hp} (hp : Pot H1 p) (nD : H1 D = none) : P1 C p D H1 0 (upd H1 D (.lst [])) := ⟨But.new nD, hp.new nD, [], upd_same, rfl, fun x hx => by cases hx⟩
theorem P1.step {C p D x : Addr} {H1 Hc H3 H4 : Hp} {i : Nat} {vs : List V} (h : P1 C p D H1 i Hc) (nD : H1 D = none) (hp1 : Pot H1 p) (hi : i < 1000) (b : But p Hc H3) (p3 : Pot H3 p) (s : Same H3 H4) (it : IsT H4 C x vs) (le : vs.length ≤ 8) :
    ∃ acc, H4 D = some (.lst acc) ∧ acc.length < sizeLine ∧ P1 C p D H1 (i + 1) (upd H4 D (.lst (acc ++ [.ref x]))) := by
  have sl : sizeLine = 16777216 := sizeLine_eq
  obtain ⟨bc, pc, xs, eD, el, hx⟩ := h
  have npD : D ≠ p := (hp1.ne nD).symm
  have eD4 := s _ _ (b _ _ npD eD)
  refine ⟨xs, eD4, by omega, fun c o nc e => ?_, ?_, xs ++ [.ref x], upd_same, by rw [List.length_append, el]; rfl, fun y hy => ?_⟩
  · rw [upd_ne (ne_of_none e nD)]
    exact s _ _ (b _ _ nc (bc c o nc e))
  · obtain ⟨x, y, e, h1, h2⟩ := p3.same s
    exact ⟨x, y, by rw [upd_ne npD.symm]; exact e, h1, h2⟩
  · have sm : Same (cut [p, D] H4) (cut [p, D] (upd H4 D (.lst (xs ++ [.ref x])))) := cut_chg fun c o nc e => by
      rw [upd_ne (fun z => nc (by rw [z]; simp))]
      exact e
    rcases List.mem_append.mp hy with z | z
    · exact (hx y z).same ((cut_chg fun c o nc e => s _ _ (b _ _ (fun z => nc (by rw [z]; simp)) e)).trans sm)
    · rw [List.mem_singleton.mp z]
      exact ⟨x, vs, rfl, (it.cut (two_lists (p3.same s) eD4)).same sm, le⟩
/-! ### lists of new commands -/
def P4 (CO CC p D : Addr) (B : List Addr) (H3 : Hp) (i : Nat) (Hc : Hp) : Prop := But p H3 Hc ∧ Pot Hc p ∧ ∃ cs, Hc D = some (.lst cs) ∧ cs.length = i ∧ ∀ c ∈ cs, ∃ x n os ab, c = .ref x ∧ Bl CO CC (cut (p :: D :: B) Hc) x n os ab ∧ P8 n ∧ P8 ab
theorem P4.start {CO CC p D : Addr} {B : List Addr} {H1 : Hp} (hp : Pot H1 p) (nD : H1 D = none) : P4 CO CC p D B H1 0 (upd H1 D (.lst [])) := ⟨But.new nD, hp.new nD, [], upd_same, rfl, fun x hx => by cases hx⟩
theorem P4.step {CO CC p D x dx lo lp lg lc : Addr} {B : List Addr} {H1 Hc H3 H4 : Hp} {i : Nat} {y z : Str} {os : List V} (h : P4 CO CC p D B H1 i Hc) (nD : H1 D = none) (hp1 : Pot H1 p) (hB : ∀ b ∈ B, ∃ xs, H1 b = some (.lst xs)) (hi : i < 1000) (b : But p Hc H3) (p3 : Pot H3 p) (s : Same H3 H4)
    (ex : H4 x = some (.ins CC dx (cmdF (.str y) lo lp lg lc (.str z)))) (nl : H3 lo = none) (elo : H4 lo = some (.lst os)) (ho : ∀ o ∈ os, Ins CO H3 o) (le : os.length ≤ 20) (py : P8 y) (pz : P8 z) :
    ∃ acc, H4 D = some (.lst acc) ∧ acc.length < sizeLine ∧ P4 CO CC p D B H1 (i + 1) (upd H4 D (.lst (acc ++ [.ref x]))) := by
  have sl : sizeLine = 16777216 := sizeLine_eq
  obtain ⟨bc, pc, xs, eD, el, hx⟩ := h
  have npD : D ≠ p := (hp1.ne nD).symm
  have eD3 := b _ _ npD eD
  have eD4 := s _ _ eD3
  have al : ∀ a ∈ p :: D :: B, ∃ xs, H3 a = some (.lst xs) := fun a ha => by
    rcases List.mem_cons.mp ha with q | q
    · obtain ⟨x, y, e, _⟩ := p3
      exact ⟨_, by rw [q]; exact e⟩
    · rcases List.mem_cons.mp q with q | q
      · exact ⟨_, by rw [q]; exact eD3⟩
      · obtain ⟨ys, ey⟩ := hB a q
        by_cases r : a = p
        · obtain ⟨x, y, e, _⟩ := p3
          exact ⟨_, by rw [r]; exact e⟩
        · exact ⟨ys, b _ _ r (bc _ _ r ey)⟩
  refine ⟨xs, eD4, by omega, fun c o nc e => ?_, ?_, xs ++ [.ref x], upd_same, by rw [List.length_append, el]; rfl, fun c hc => ?_⟩
  · rw [upd_ne (ne_of_none e nD)]
    exact s _ _ (b _ _ nc (bc c o nc e))
  · obtain ⟨x, y, e, h1, h2⟩ := p3.same s
    exact ⟨x, y, by rw [upd_ne npD.symm]; exact e, h1, h2⟩
  · have sm : Same (cut (p :: D :: B) H4) (cut (p :: D :: B) (upd H4 D (.lst (xs ++ [.ref x])))) := cut_chg fun c o nc e => by
      rw [upd_ne (fun z => nc (by rw [z]; simp))]
      exact e
    rcases List.mem_append.mp hc with q | q
    · obtain ⟨a, n, os', ab, h1, h2, h3⟩ := hx c q
      exact ⟨a, n, os', ab, h1, h2.same ((cut_chg fun c o nc e => s _ _ (b _ _ (fun z => nc (by rw [z]; simp)) e)).trans sm), h3⟩
    · refine ⟨x, y, os, z, List.mem_singleton.mp q, (bl_of s ex nl elo al (fun o h => ?_) le).same sm, py, pz⟩
      exact ((ho o h).cut al).same (cut_same s)
end WB

set_option Elab.async false
set_option linter.all false
set_option maxRecDepth 100000
set_option maxHeartbeats 4000000
namespace WB
open PySem PySem.Spec PyProof.Rows L2 WG
open TL (tl)
/-- how they are made by names of arguments -/
structure MkKw (K : PySem.W.Frag) (fdO fdP fdC : FuncData) (gO1 gP1 gC1 : List Value → List Value → List Value) (gVO gVP gVC : List V → List V → List V) : Prop where
  kO : KBn K fdO ["self", "long", "short", "takes", "maker", "default", "needed", "off", "about"] 2 ["about"] gO1 gVO
  hO : ∀ x n a : V, gVO [x, n] [a] = [x, n, .str (Str.ofString ""), .str (Str.ofString "flag"), .str (Str.ofString "word"), .non, .bl false, .bl false, a]
  kP : KBn K fdP ["self", "name", "many", "maker", "default", "about"] 2 ["many"] gP1 gVP
  hP : ∀ x n a : V, gVP [x, n] [a] = [x, n, a, .str (Str.ofString "word"), .non, .str (Str.ofString "")]
  kC : KBn K fdC cmdPs 3 ["about"] gC1 gVC
  hC : ∀ x n o a : V, gVC [x, n, o] [a] = [x, n, o, .non, .non, .non, a]
/-- what a right list of groups is -/
def GrpL (H2 Hc : Hp) (l3 : Addr) (gs : List Addr) : Prop := Hc l3 = some (.lst (gs.map V.ref)) ∧ ∀ g ∈ gs, H2 g = none ∧ g ≠ l3 ∧ ∃ ys, Hc g = some (.lst ys) ∧ ys.length ≤ 6 ∧ ∀ v ∈ ys, ∃ z, v = .str z ∧ Tx 300 z
theorem ol_of {H : Hp} {a : Addr} {xs : List V} {m : Nat} {g : V → Bool} (e : H a = some (.lst xs)) (le : xs.length ≤ m) (h : ∀ x ∈ xs, g x = true) : ol H m g (.ref a) = true := by
  unfold ol lok
  rw [(isL_lst e).1, (isL_lst e).2, decide_eq_true le, List.all_eq_true.mpr h]
  simp
theorem Ins.wf {C : Addr} {Cs : List Addr} {H : Hp} {v : V} (h : Ins C H v) (hC : C ∈ Cs) : Wf Cs H v := by
  obtain ⟨a, vs, rfl, ⟨_, dx, t, e1, _⟩, _⟩ := h
  exact .ins e1 hC
theorem Ins.isC {C : Addr} {H : Hp} {v : V} (h : Ins C H v) : WB.isC H C v = true := by
  obtain ⟨a, vs, rfl, ⟨_, dx, t, e1, _⟩, _⟩ := h
  rw [(isC_ins e1 C).1]
  exact decide_eq_true rfl
theorem Ins.itm_o {CO CP CC : Addr} {A : List Addr} {G : Hp} {v : V} (h : Ins CO (WB.cut A G) v) (d : Dis CO CP CC) : Itm CO CP CC A G v := by
  obtain ⟨a, vs, rfl, t, l⟩ := h
  exact WB.itm_o d t l
theorem Ins.itm_p {CO CP CC : Addr} {A : List Addr} {G : Hp} {v : V} (h : Ins CP (WB.cut A G) v) (d : Dis CO CP CC) : Itm CO CP CC A G v := by
  obtain ⟨a, vs, rfl, t, l⟩ := h
  exact WB.itm_p d t l
theorem Tl.keep {CO CP CC p T : Addr} {H0 H H' : Hp} {A : List Addr} {n : Nat} {us : List V} (h : Tl CO CP CC H0 H p T A n us) (b : But p H H') (hp : Pot H' p) : Tl CO CP CC H0 H' p T A n us := by
  have s : Same (WB.cut [p, T] H) (WB.cut [p, T] H') := PT.sb b
  refine ⟨hp, h.ne, b _ _ h.ne h.eT, h.nT, h.len, fun a ha => ⟨(h.al a ha).1, ?_⟩, fun j v hv hj => (h.th j v hv hj).same s, fun j v hv h0 h5 => ?_⟩
  · obtain ⟨xs, e⟩ := (h.al a ha).2
    exact ⟨xs, s _ _ e⟩
  · obtain ⟨t, l⟩ := h.ti j v hv h0 h5
    exact ⟨t.same s, by rw [(t.w.at_ s).2.1]; exact l⟩
def spGood (CO CP CC : Addr) : Sp := fun vs H Q _ => ∃ p, vs = [.ref p] ∧ Pot H p ∧ ∀ H' T A us, But p H H' → Tl CO CP CC H H' p T A 12 us → Q (.ref T) H'
section
variable {P : Program} {w : World} {K : PySem.W.Frag} {mg : Str → Option Value} {base : Heap}
theorem ok_good {CO CP CC CNO CNP CN fIO fIP fIC f fT fM fN fA fX fS : Addr} {fdO fdP fdC fd fdT fdM fdN fdA fdX fdS : FuncData} {d1O d1P d1C : List Value} {gO1 gP1 gC1 : List Value → List Value → List Value} {gVO gVP gVC : List V → List V → List V} {k : Nat} (F : Fun K "_law_good" "_law_good" st_good f fd)
    (MA : MkAll P w K mg base (k + 1) CO CP CC CNO CNP CN fIO fIP fIC fdO fdP fdC d1O d1P d1C) (MK : MkKw K fdO fdP fdC gO1 gP1 gC1 gVO gVP gVC)
    (D_take : Df K mg "_law_take" sTake ["_law_pot_here", "_law_room"] fT fdT) (D_many : Df K mg "_law_many" st_many ["_law_pot_here", "_law_most"] fM fdM) (D_name : Df K mg "_law_name" sName ["_law_pot_here"] fN fdN) (D_about : Df K mg "_law_about" sAbout ["_law_pot_here"] fA fdA) (D_text : Df K mg "_law_text" sText ["_law_pot_here"] fX fdX) (D_signs : Df K mg "_law_signs" sSigns ["_law_pot_here", "_law_most"] fS fdS)
    (m_len : mg "len" = none) (m_range : mg "range" = none) : FnOk P w K mg base CX0 (k + 5) f fd ["_law_pot_here"] (spGood CO CP CC) := by
  have G_take : FnOk P w K mg base CX0 (k + 4) fT fdT ["_law_pot_here", "_law_room"] spTake := ok_take D_take.F
  have G_many : FnOk P w K mg base CX0 (k + 4) fM fdM ["_law_pot_here", "_law_most"] spMany := ok_many D_many.F D_take
  have G_name : FnOk P w K mg base CX0 (k + 4) fN fdN ["_law_pot_here"] spNm := ok_nm D_name.F D_take m_len m_range
  have G_about : FnOk P w K mg base CX0 (k + 4) fA fdA ["_law_pot_here"] spAb := ok_ab D_about.F D_take D_signs m_len m_range
  have G_text : FnOk P w K mg base CX0 (k + 4) fX fdX ["_law_pot_here"] (spDrawn 60) := ok_text D_text.F D_take D_signs m_len m_range
  refine F.ok sc_good (fun vs H Q E h => ?_) (fun cdv A outer s H vs Q E hr h => ?_)
  · obtain ⟨p, rfl, _⟩ := h
    rfl
  · obtain ⟨p, rfl, hp, q⟩ := h
    have sl : sizeLine = 16777216 := sizeLine_eq
    have d := MA.dis
    refine ⟨_, pss_cons (ps_set (i := 1) sc_good.nd rfl (.inr rfl) (pe_lc (own := [("_law_k", 4)]) (g := gName 4) (tt := tYes) rfl sc_good.nd (pi_range1 rfl m_range (pa_cons (pe_call G_many hr (by rfl) D_many.g D_many.F.kp D_many.b .nil pass0 (pa_cons (pv 0) (pa_cons pe_int pa_nil))) pa_nil)) (blkOk_by (N := ["_law_pot_here", "_law_first", "_law_second", "_law_third", "_law_k", "_law_below_here", "_law_told_here", "_law_at", "_law_j"]) (sc := defScope st_good) (by decide +kernel)) (fun _ _ _ _ _ => (pg_name (i := 4) sc_good.nd rfl (Or.inl rfl))) (fun _ _ _ _ _ => pts_nil) (fun _ _ _ _ _ => (pe_makeN (n := 1) MA.mo MA.go (hr.mono (by omega)) (by rfl) MA.gO MK.kO passF (pa_cons (pe_call G_name hr (by rfl) D_name.g D_name.F.kp D_name.b .nil pass0 (pa_cons (pv 0) pa_nil)) pa_nil) (pk_cons (pe_call G_about hr (by rfl) D_about.g D_about.F.kp D_about.b .nil pass0 (pa_cons (pv 0) pa_nil)) pk_nil)))))
      (pss_cons (ps_setLc (i := 2) (own := [("_law_k", 4)]) (g := gName 4) (tt := tYes)  rfl sc_good.nd rfl rfl (sw_true rfl rfl rfl (by decide +kernel)) (pi_range1 rfl m_range (pa_cons (pe_call G_many hr (by rfl) D_many.g D_many.F.kp D_many.b .nil pass0 (pa_cons (pv 0) (pa_cons pe_int pa_nil))) pa_nil)) (blkOk_by (N := ["_law_pot_here", "_law_first", "_law_second", "_law_third", "_law_k", "_law_below_here", "_law_told_here", "_law_at", "_law_j"]) (sc := defScope st_good) (by decide +kernel)) (fun _ _ _ _ _ => (pg_name (i := 4) sc_good.nd rfl (Or.inl rfl))) (fun _ _ _ _ _ => pts_nil) (fun _ _ _ _ _ => (pe_makeN (n := 1) MA.mp MA.gp (hr.mono (by omega)) (by rfl) MA.gP MK.kP passF (pa_cons (pe_call G_name hr (by rfl) D_name.g D_name.F.kp D_name.b .nil pass0 (pa_cons (pv 0) pa_nil)) pa_nil) (pk_cons pe_str pk_nil))))
      (pss_cons (ps_set (i := 3) sc_good.nd rfl (.inl rfl) (pe_lst pa_nil))
      (pss_cons (ps_for PassesOwn.never rfl (pi_range1 rfl m_range (pa_cons (pe_call G_many hr (by rfl) D_many.g D_many.F.kp D_many.b .nil pass0 (pa_cons (pv 0) (pa_cons pe_int pa_nil))) pa_nil)) (pg_name (i := 4) sc_good.nd rfl (Or.inl rfl)) (pss_one (ps_expr (pe_bm PySem.F.plainAttrs_list PySem.F.slot_list_append PySem.F.type_list_append mt_append (pv 3) (pa_cons (pe_lc (own := [("_law_j", 8)]) (g := gName 8) (tt := tYes) rfl sc_good.nd (pi_range1 rfl m_range (pa_cons (pe_ix ix_list (pe_lst (pa_cons pe_int (pa_cons pe_int (pa_cons (pe_op op_add pe_int (pe_call G_take hr (by rfl) D_take.g D_take.F.kp D_take.b .nil pass0 (pa_cons (pv 0) (pa_cons pe_int pa_nil)))) pa_nil)))) (pe_call G_take hr (by rfl) D_take.g D_take.F.kp D_take.b .nil pass0 (pa_cons (pv 0) (pa_cons pe_int pa_nil))) (fun _ _ => rfl)) pa_nil)) (blkOk_by (N := ["_law_pot_here", "_law_first", "_law_second", "_law_third", "_law_k", "_law_below_here", "_law_told_here", "_law_at", "_law_j"]) (sc := defScope st_good) (by decide +kernel)) (fun _ _ _ _ _ => (pg_name (i := 8) sc_good.nd rfl (Or.inl rfl))) (fun _ _ _ _ _ => pts_nil) (fun _ _ _ _ _ => (pe_call G_text hr (by rfl) D_text.g D_text.F.kp D_text.b .nil pass0 (pa_cons (pv 0) pa_nil)))) pa_nil)))))
      (pss_cons (ps_setLc (i := 5) (own := [("_law_j", 8)]) (g := gName 8) (tt := tYes)  rfl sc_good.nd rfl rfl (sw_true rfl rfl rfl (by decide +kernel)) (pi_range1 rfl m_range (pa_cons (pe_call G_many hr (by rfl) D_many.g D_many.F.kp D_many.b .nil pass0 (pa_cons (pv 0) (pa_cons pe_int pa_nil))) pa_nil)) (blkOk_by (N := ["_law_pot_here", "_law_first", "_law_second", "_law_third", "_law_k", "_law_below_here", "_law_told_here", "_law_at", "_law_j"]) (sc := defScope st_good) (by decide +kernel)) (fun _ _ _ _ _ => (pg_name (i := 8) sc_good.nd rfl (Or.inl rfl))) (fun _ _ _ _ _ => pts_nil) (fun _ _ _ _ _ => (pe_makeN (n := 2) MA.mc MA.gc (hr.mono (by omega)) (by rfl) MA.gC MK.kC passF (pa_cons (pe_call G_name hr (by rfl) D_name.g D_name.F.kp D_name.b .nil pass0 (pa_cons (pv 0) pa_nil)) (pa_cons (pe_slice (r := rSlL K) sl_list (pv 1) po_none (po_some (pv 8))) pa_nil)) (pk_cons (pe_call G_about hr (by rfl) D_about.g D_about.F.kp D_about.b .nil pass0 (pa_cons (pv 0) pa_nil)) pk_nil))))
      (pss_cons (ps_set (i := 6) sc_good.nd rfl (.inl rfl) (pe_lst (pa_cons (pe_call G_name hr (by rfl) D_name.g D_name.F.kp D_name.b .nil pass0 (pa_cons (pv 0) pa_nil)) (pa_cons (pv 1) (pa_cons (pv 2) (pa_cons (pv 3) (pa_cons (pv 5) (pa_cons (pe_call G_about hr (by rfl) D_about.g D_about.F.kp D_about.b .nil pass0 (pa_cons (pv 0) pa_nil)) pa_nil))))))))
      (pss_cons (ps_for PassesOwn.never rfl (pi_range2 rfl m_range (pa_cons pe_int (pa_cons pe_int pa_nil))) (pg_name (i := 7) sc_good.nd rfl (Or.inl rfl)) (pss_one (ps_if (PW.pt (pw_and (pt_cmpR (op_eqE hr.units) (pe_ix ix_list (pv 6) (pv 7) (fun _ _ => rfl)) (pe_lst pa_nil) (nomark _)) (pw_and1 (pt_cmpR op_eq (pe_call G_take hr (by rfl) D_take.g D_take.F.kp D_take.b .nil pass0 (pa_cons (pv 0) (pa_cons pe_int pa_nil))) pe_int (nomark _))))) (pss_one (ps_asg pe_non (pg_sub (pv 6) (pv 7) set_list))) pss_nil)))
      (pss_one (ps_ret (pv 6))))))))), ?_⟩
    -- options
    refine ⟨.ref p, rfl, p, 12, rfl, hp, by decide, by decide, fun Ha ma ba pa ma0 ma1 => ?_⟩
    refine ⟨ma, rfl, by omega, by omega, fun l1 nl1 => ?_⟩
    refine lc_range (lo := 0) (n := ma.toNat) (P1 CO p l1 Ha) (P1.start pa nl1) (fun i Hc hi h1 => ?_) (fun H1 h1 => ?_)
    · refine ⟨rfl, .ref p, rfl, p, rfl, h1.2.1, fun Hd y bd pd hy => ⟨.ref p, rfl, p, rfl, pd, fun He z be pe tz az => ⟨rfl, rfl, ?_⟩⟩⟩
      intro x dx nx ndx ne
      rw [MK.hO]
      exact mkO (Q := fun v H' => ∃ acc, H' l1 = some (.lst acc) ∧ acc.length < sizeLine ∧ P1 CO p l1 Ha (i + 1) (upd H' l1 (.lst (acc ++ [v])))) hy az tz (fun H' x s nx it => h1.step nl1 pa (by omega) (bd.trans be) pe s it (by show 8 ≤ 8; decide)) x dx nx ndx ne
    obtain ⟨b1, p1, xs1, e1, len1, hx1⟩ := h1
    have B1 : But p H H1 := ba.trans b1
    have N1 : H l1 = none := but_fresh ba pa nl1
    -- places
    refine ⟨.ref p, rfl, p, 6, rfl, p1, by decide, by decide, fun Hb mb bb pb mb0 mb1 => ?_⟩
    refine ⟨mb, rfl, by omega, by omega, fun l2 nl2 => ?_⟩
    refine lc_range (lo := 0) (n := mb.toNat) (P1 CP p l2 Hb) (P1.start pb nl2) (fun i Hc hi h1 => ?_) (fun H2 h2 => ?_)
    · refine ⟨rfl, .ref p, rfl, p, rfl, h1.2.1, fun Hd y bd pd hy => ⟨rfl, rfl, ?_⟩⟩
      intro x dx nx ndx ne
      rw [MK.hP]
      exact mkP (Q := fun v H' => ∃ acc, H' l2 = some (.lst acc) ∧ acc.length < sizeLine ∧ P1 CP p l2 Hb (i + 1) (upd H' l2 (.lst (acc ++ [v])))) hy (by decide +kernel) (tx_lit _ (by decide +kernel)) (fun H' x s nx it => h1.step nl2 pb (by omega) bd pd s it (by show 5 ≤ 8; decide)) x dx nx ndx ne
    obtain ⟨b2', p2, xs2, e2, len2, hx2⟩ := h2
    have b2 : But p H1 H2 := bb.trans b2'
    have N2 : H1 l2 = none := but_fresh bb pb nl2
    -- groups
    refine ⟨by show 0 ≤ sizeLine; decide, fun l3 nl3 => ?_⟩
    have nl3p : l3 ≠ p := (p2.ne nl3).symm
    refine ⟨.ref p, rfl, p, 4, rfl, p2.new nl3, by decide, by decide, fun Hg mg' bg pg mg0 mg1 => ?_⟩
    have bg2 : But p H2 Hg := (But.new nl3).trans bg
    have eg3 := bg _ _ nl3p (upd_same (H := H2) (o := .lst []))
    have P0 : ∃ gs : List Addr, GrpL H2 Hg l3 gs ∧ gs.length = 0 := ⟨[], ⟨eg3, fun g hg => by cases hg⟩, rfl⟩
    refine ⟨mg', rfl, by omega, by omega, for_range (lo := 0) (n := mg'.toNat) (fun i σ Hc => But p H2 Hc ∧ Pot Hc p ∧ (∃ gs : List Addr, GrpL H2 Hc l3 gs ∧ gs.length = i) ∧ ∃ x4, σ = [some (.ref p), some (.ref l1), some (.ref l2), some (.ref l3), x4, none, none, none, none]) ⟨bg2, pg, P0, none, rfl⟩ ?_ ?_⟩
    · rintro i σ Hc hi ⟨bc, pc, ⟨gs, ⟨ec, hgs⟩, lgs⟩, x4, rfl⟩
      refine ⟨.ref l3, rfl, Or.inl ⟨rfl, _, SqL.of ec⟩, ?_⟩
      refine ⟨.ref p, rfl, p, 5, rfl, pc, by decide, by decide, fun Hd d5 bd pd d50 d51 => ?_⟩
      refine ⟨_, _, rfl, rfl, by show 3 ≤ sizeLine; decide, fun lr nr => ?_⟩
      have nrp : lr ≠ p := (pd.ne nr).symm
      refine ⟨.ref p, rfl, p, 3, rfl, pd.new nr, by decide, by decide, fun He d3 be pe d30 d31 => ?_⟩
      have er := be _ _ nrp (upd_same (H := Hd) (o := .lst [.int 2, .int 6, .int (2 + d5)]))
      have Be : But p Hc He := (bd.trans (But.new nr)).trans be
      obtain ⟨m, hm, m2, m6⟩ : ∃ m : Int, atI [V.int 2, .int 6, .int (2 + d5)] d3 = some (.int m) ∧ 2 ≤ m ∧ m ≤ 6 := by
        obtain ⟨n, rfl⟩ := Int.eq_ofNat_of_zero_le d30
        have hn : n < 3 := by omega
        match n, hn with
        | 0, _ => exact ⟨2, rfl, by omega, by omega⟩
        | 1, _ => exact ⟨6, rfl, by omega, by omega⟩
        | 2, _ => exact ⟨2 + d5, rfl, by omega, by omega⟩
      refine ⟨lr, _, d3, .int m, rfl, rfl, SqL.of er, hm, m, rfl, by omega, by omega, fun D nD => ?_⟩
      have npD : D ≠ p := (pe.ne nD).symm
      refine lc_range (lo := 0) (n := m.toNat) (fun i Hf => But p He Hf ∧ Pot Hf p ∧ ∃ ys : List Str, Hf D = some (.lst (ys.map V.str)) ∧ ys.length = i ∧ ∀ y ∈ ys, Tx 60 y)
        ⟨But.new nD, pe.new nD, [], upd_same, rfl, fun y hy => by cases hy⟩ (fun i Hf hi' ⟨bf, pf, ys, eD, el, e1⟩ => ?_) (fun Hf ⟨bf, pf, ys, eD, el, e1⟩ => ?_)
      · refine ⟨rfl, .ref p, rfl, p, rfl, pf, fun Hh y bh ph ty => ⟨ys.map V.str, bh _ _ npD eD, by rw [List.length_map]; omega, ?_, ?_, ys ++ [y], ?_, ?_, ?_⟩⟩
        · exact fun b o nb e => by
            rw [upd_ne (ne_of_none e nD)]
            exact bh b o nb (bf b o nb e)
        · obtain ⟨x, y, e, h1, h2⟩ := ph
          exact ⟨x, y, by rw [upd_ne npD.symm]; exact e, h1, h2⟩
        · rw [upd_same, List.map_append]
          rfl
        · rw [List.length_append, el]
          rfl
        · intro y' hy
          rcases List.mem_append.mp hy with hy | hy
          · exact e1 y' hy
          · rw [List.mem_singleton.mp hy]
            exact ty
      have Bf : But p Hc Hf := Be.trans bf
      have ecf := Bf _ _ nl3p ec
      have nDc : Hc D = none := but_fresh Be pe nD
      have nD3 : D ≠ l3 := fun z => by rw [z, ec] at nDc; cases nDc
      refine ⟨l3, _, _, rfl, rfl, ecf, by rw [List.length_map]; omega, fun b o nb e => ?_, ?_, ⟨gs ++ [D], ⟨?_, fun g hg => ?_⟩, by rw [List.length_append, lgs]; rfl⟩, _, rfl⟩
      · rw [upd_ne (ne_of_none e nl3)]
        exact Bf _ _ nb (bc b o nb e)
      · obtain ⟨x, y, e, h1, h2⟩ := pf
        exact ⟨x, y, by rw [upd_ne nl3p.symm]; exact e, h1, h2⟩
      · rw [upd_same, List.map_append]
        rfl
      · rcases List.mem_append.mp hg with z | z
        · obtain ⟨h1, h2, ys', h3, h4⟩ := hgs g z
          have ngp : g ≠ p := fun q => by
            obtain ⟨x, y, e, _⟩ := id p2
            rw [q, e] at h1
            cases h1
          exact ⟨h1, h2, ys', by rw [upd_ne h2]; exact Bf _ _ ngp h3, h4⟩
        · rw [List.mem_singleton.mp z]
          refine ⟨but_fresh bc pc nDc, nD3, _, by rw [upd_ne nD3]; exact eD, by rw [List.length_map]; omega, fun v hv => ?_⟩
          obtain ⟨y, hy, rfl⟩ := List.mem_map.mp hv
          exact ⟨y, rfl, (e1 y hy).mono (by decide)⟩
    rintro σ H3 ⟨b3, p3, ⟨gs, ⟨e3, hgs⟩, lgs⟩, x4, rfl⟩
    -- commands
    have nl1p : l1 ≠ p := fun z => by
      obtain ⟨x, y, e, _⟩ := id hp
      rw [z, e] at N1
      cases N1
    have nl2p : l2 ≠ p := fun z => by
      obtain ⟨x, y, e, _⟩ := id p1
      rw [z, e] at N2
      cases N2
    have ngp : ∀ g ∈ gs, g ≠ p := fun g hg q => by
      have h1 := (hgs g hg).1
      obtain ⟨x, y, e, _⟩ := id p2
      rw [q, e] at h1
      cases h1
    refine ⟨.ref p, rfl, p, 8, rfl, p3, by decide, by decide, fun Hk mk bk pk mk0 mk1 => ?_⟩
    refine ⟨mk, rfl, by omega, by omega, fun l4 nl4 => ?_⟩
    have B13 : But p H1 Hk := (b2.trans b3).trans bk
    have hB : ∀ b ∈ l1 :: l2 :: l3 :: gs, ∃ xs, Hk b = some (.lst xs) := fun b hb => by
      simp only [List.mem_cons] at hb
      rcases hb with rfl | rfl | rfl | hb
      · exact ⟨_, B13 _ _ nl1p e1⟩
      · exact ⟨_, bk _ _ nl2p (b3 _ _ nl2p e2)⟩
      · exact ⟨_, bk _ _ nl3p e3⟩
      · obtain ⟨_, _, ys, ey, _⟩ := hgs b hb
        exact ⟨_, bk _ _ (ngp b hb) ey⟩
    refine lc_range (lo := 0) (n := mk.toNat) (P4 CO CC p l4 (l1 :: l2 :: l3 :: gs) Hk) (P4.start pk nl4) (fun i Hc hi h4 => ?_) (fun H4 h4 => ?_)
    · obtain ⟨bc, pc, _⟩ := id h4
      refine ⟨rfl, .ref p, rfl, p, rfl, pc, fun Hd y bd pd hy => ?_⟩
      have Bd : But p H1 Hd := (B13.trans bc).trans bd
      refine ⟨.ref l1, rfl, .int (0 + (i : Int)), rfl, _, rfl, l1, xs1, rfl, SqL.of (Bd _ _ nl1p e1), fun sx nsx => ?_⟩
      refine goT nsx fun He se ee => ?_
      have nsp : sx ≠ p := (pd.ne nsx).symm
      refine ⟨.ref p, rfl, p, rfl, pd.same se, fun Hf z bf pf tz az => ⟨rfl, rfl, ?_⟩⟩
      have Bf : But p Hc Hf := (bd.trans (But.of_same se)).trans bf
      have ef := bf _ _ nsp ee
      have hos : ∀ o ∈ cutV xs1 none (some (0 + (i : Int))), Ins CO Hf o := fun o ho => (hx1 o (cutV_mem ho)).same (fun b u e => by
        obtain ⟨nb, e'⟩ := cut_some e
        exact Bf _ _ (fun z => nb (by rw [z]; simp)) ((B13.trans bc) _ _ (fun z => nb (by rw [z]; simp)) e'))
      have lc1 := cutV_length xs1 none (some (0 + (i : Int)))
      intro x dx nx ndx ne
      rw [MK.hC]
      refine mkC (Q := fun v H' => ∃ acc, H' l4 = some (.lst acc) ∧ acc.length < sizeLine ∧ P4 CO CC p l4 (l1 :: l2 :: l3 :: gs) Hk (i + 1) (upd H' l4 (.lst (acc ++ [v])))) hy az tz (.lst ef (by omega) (fun o ho => (hos o ho).wf (by simp))) (ol_of ef (by omega) (fun o ho => (hos o ho).isC)) (fun H' x dx lo lp lg lc s nx ex nlo elo => ?_) x dx nx ndx ne
      rw [(isL_lst ef).2] at elo
      exact h4.step nl4 pk hB (by omega) Bf pf s ex nlo elo hos (by omega) (nm_tx hy).pl tz.pl
    obtain ⟨b4', p4, cs, e4, len4, hcs⟩ := h4
    have nl4p : l4 ≠ p := (pk.ne nl4).symm
    -- the told list
    refine ⟨.ref p, rfl, p, rfl, p4, fun H5 y b5 p5 hy => ⟨_, rfl, _, rfl, _, rfl, _, rfl, .ref p, rfl, p, rfl, p5, fun H6 z b6 p6 tz az => ⟨by show 6 ≤ sizeLine; decide, fun T nT => ?_⟩⟩⟩
    have s7 := same_upd (o := .lst [.str y, .ref l1, .ref l2, .ref l3, .ref l4, .str z]) nT
    have eT : (upd H6 T (.lst [.str y, .ref l1, .ref l2, .ref l3, .ref l4, .str z])) T = some (.lst [.str y, .ref l1, .ref l2, .ref l3, .ref l4, .str z]) := upd_same
    revert s7 eT
    generalize upd H6 T (.lst [.str y, .ref l1, .ref l2, .ref l3, .ref l4, .str z]) = H7
    intro s7 eT
    have nTp : T ≠ p := (p6.ne nT).symm
    have b46 : But p H4 H6 := b5.trans b6
    have bk6 : But p Hk H6 := b4'.trans b46
    have b16 : But p H1 H6 := B13.trans bk6
    have BH6 : But p H H6 := B1.trans b16
    have b26 : But p H2 H6 := (b3.trans bk).trans bk6
    have p7 := p6.same s7
    have hA6 : ∀ a ∈ l4 :: l1 :: l2 :: l3 :: gs, a ≠ p ∧ H a = none ∧ ∃ xs, H6 a = some (.lst xs) := fun a ha => by
      simp only [List.mem_cons] at ha
      rcases ha with rfl | rfl | rfl | rfl | ha
      · exact ⟨nl4p, but_fresh ((B1.trans B13)) pk nl4, _, b46 _ _ nl4p e4⟩
      · exact ⟨nl1p, N1, _, b16 _ _ nl1p e1⟩
      · exact ⟨nl2p, but_fresh B1 p1 N2, _, b26 _ _ nl2p e2⟩
      · exact ⟨nl3p, but_fresh (B1.trans b2) p2 nl3, _, (bk.trans bk6) _ _ nl3p e3⟩
      · obtain ⟨h1, h2, ys, ey, _⟩ := hgs a ha
        exact ⟨ngp a ha, but_fresh (B1.trans b2) p2 h1, _, (bk.trans bk6) _ _ (ngp a ha) ey⟩
    have pt7 : PT H7 p T := PT.mk p7 eT
    have gv : ∀ {a : Addr} {o : HO}, a ≠ p → H6 a = some o → cut [p, T] H7 a = some o := fun {a o} np e => cut_mk (fun hm => by
      simp only [List.mem_cons, List.not_mem_nil, or_false] at hm
      rcases hm with rfl | rfl
      · exact np rfl
      · rw [nT] at e
        cases e) (s7 _ _ e)
    have al7 : ∀ a ∈ l4 :: l1 :: l2 :: l3 :: gs, H a = none ∧ ∃ xs, cut [p, T] H7 a = some (.lst xs) := fun a ha => by
      obtain ⟨h1, h2, xs, h3⟩ := hA6 a ha
      exact ⟨h2, xs, gv h1 h3⟩
    have al7' : ∀ a ∈ l4 :: l1 :: l2 :: l3 :: gs, ∃ xs, cut [p, T] H7 a = some (.lst xs) := fun a ha => (al7 a ha).2
    have insAt : ∀ {C a : Addr} {Hx : Hp} {v : V}, But p Hx H6 → Ins C (cut [p, a] Hx) v → Ins C (cut (l4 :: l1 :: l2 :: l3 :: gs) (cut [p, T] H7)) v := fun {C a Hx v} bx h =>
      ((h.same (fun b u e => by
        obtain ⟨nb, e'⟩ := cut_some e
        exact s7 _ _ (bx _ _ (fun z => nb (by rw [z]; simp)) e') : Same (cut [p, a] Hx) H7)).cut pt7).cut al7'
    have ti1 : TI CO CP CC (l4 :: l1 :: l2 :: l3 :: gs) (cut [p, T] H7) (.ref l1) := TI.list (gv nl1p (b16 _ _ nl1p e1)) (by omega) (by simp) (fun x hx => by
      have h := insAt b16 (hx1 x hx)
      exact ⟨(h.wf (by simp)).same (cut_le _ _), h.itm_o d⟩)
    have ti2 : TI CO CP CC (l4 :: l1 :: l2 :: l3 :: gs) (cut [p, T] H7) (.ref l2) := TI.list (gv nl2p (b26 _ _ nl2p e2)) (by omega) (by simp) (fun x hx => by
      have h := insAt b26 (hx2 x hx)
      exact ⟨(h.wf (by simp)).same (cut_le _ _), h.itm_p d⟩)
    have ti3 : TI CO CP CC (l4 :: l1 :: l2 :: l3 :: gs) (cut [p, T] H7) (.ref l3) := TI.list (gv nl3p ((bk.trans bk6) _ _ nl3p e3)) (by rw [List.length_map]; omega) (by simp) (fun x hx => by
      obtain ⟨g, hg, rfl⟩ := List.mem_map.mp hx
      obtain ⟨_, _, ys, ey, ly, hy⟩ := hgs g hg
      have eg := gv (ngp g hg) ((bk.trans bk6) _ _ (ngp g hg) ey)
      exact ⟨.lst eg (by omega) (fun v hv => by obtain ⟨z, rfl, tz⟩ := hy v hv; exact .str tz), Itm.lst eg (by simp [hg])⟩)
    have ti4 : TI CO CP CC (l4 :: l1 :: l2 :: l3 :: gs) (cut [p, T] H7) (.ref l4) := TI.list (gv nl4p (b46 _ _ nl4p e4)) (by omega) (by simp) (fun x hx => by
      obtain ⟨a, n, os, ab, rfl, bl, pn, pa'⟩ := hcs x hx
      have bl7 : Bl CO CC (cut (l4 :: l1 :: l2 :: l3 :: gs) (cut [p, T] H7)) a n os ab := bl.same (fun b u e => by
        obtain ⟨nb, e'⟩ := cut_some e
        exact cut_mk (fun hm => nb (List.mem_cons_of_mem _ hm)) (gv (fun z => nb (by rw [z]; simp)) (b46 _ _ (fun z => nb (by rw [z]; simp)) e')))
      obtain ⟨dx', lo', lp', lg', lc', e1', _⟩ := id bl7
      exact ⟨.ins (cut_le _ _ _ _ e1') (by simp), itm_c d bl7 pn pa'⟩)
    have tl7 : Tl CO CP CC H H7 p T (l4 :: l1 :: l2 :: l3 :: gs) 12 [.str y, .ref l1, .ref l2, .ref l3, .ref l4, .str z] := by
      refine ⟨p7, nTp, eT, but_fresh BH6 p6 nT, rfl, al7, fun j v hv hj => ?_, fun j v hv h0 h5 => ?_⟩
      · rcases hj with rfl | rfl
        · cases hv
          exact .str (nm_tx hy)
        · cases hv
          exact .str tz
      · match j, hv with
        | 0, _ => exact absurd rfl h0
        | 1, hv =>
          cases hv
          exact ⟨ti1, by rw [(isL_lst (gv nl1p (b16 _ _ nl1p e1))).2]; omega⟩
        | 2, hv =>
          cases hv
          exact ⟨ti2, by rw [(isL_lst (gv nl2p (b26 _ _ nl2p e2))).2]; omega⟩
        | 3, hv =>
          cases hv
          exact ⟨ti3, by rw [(isL_lst (gv nl3p ((bk.trans bk6) _ _ nl3p e3))).2, List.length_map]; omega⟩
        | 4, hv =>
          cases hv
          exact ⟨ti4, by rw [(isL_lst (gv nl4p (b46 _ _ nl4p e4))).2]; omega⟩
        | 5, _ => exact absurd rfl h5
        | j + 6, hv => cases hv
    have BH7 : But p H H7 := BH6.trans (But.of_same s7)
    have st7 : ∀ j, 0 ≤ j → j < 4 → ∃ a xs, [V.str y, .ref l1, .ref l2, .ref l3, .ref l4, .str z][j + 1]? = some (.ref a) ∧ cut [p, T] H7 a = some (.lst xs) := fun j _ hj => by
      match j, hj with
      | 0, _ => exact ⟨_, _, rfl, gv nl1p (b16 _ _ nl1p e1)⟩
      | 1, _ => exact ⟨_, _, rfl, gv nl2p (b26 _ _ nl2p e2)⟩
      | 2, _ => exact ⟨_, _, rfl, gv nl3p ((bk.trans bk6) _ _ nl3p e3)⟩
      | 3, _ => exact ⟨_, _, rfl, gv nl4p (b46 _ _ nl4p e4)⟩
    clear ti1 ti2 ti3 ti4 insAt al7 al7' hA6 gv hcs hx1 hx2 hgs
    revert tl7 st7
    generalize [V.str y, .ref l1, .ref l2, .ref l3, .ref l4, .str z] = us0
    generalize l4 :: l1 :: l2 :: l3 :: gs = AA
    intro tl7 st7
    refine ⟨1, 5, rfl, ⟨by decide, by decide, by decide, by decide⟩, for_range (lo := 1) (n := 4) (fun i σ Hc => But p H Hc ∧ (∃ us, Tl CO CP CC H Hc p T AA 12 us ∧ ∀ j, i ≤ j → j < 4 → ∃ a xs, us[j + 1]? = some (.ref a) ∧ cut [p, T] Hc a = some (.lst xs)) ∧ ∃ x7, σ = [some (.ref p), some (.ref l1), some (.ref l2), some (.ref l3), x4, some (.ref l4), some (.ref T), x7, none]) ⟨BH7, ⟨us0, tl7, st7⟩, none, rfl⟩ ?_ ?_⟩
    · rintro i σ Hc hi ⟨bc, ⟨us, tl, st⟩, x7, rfl⟩
      obtain ⟨a, xs, ha, ea⟩ := st i (Nat.le_refl _) hi
      have hat : atI us (1 + (i : Int)) = some (.ref a) := by
        rw [show (1 + (i : Int)) = ((i + 1 : Nat) : Int) from by omega]
        exact atI_nat ha
      have keep : ∀ {H'}, But p Hc H' → Pot H' p → But p H H' ∧ (∃ us, Tl CO CP CC H H' p T AA 12 us ∧ ∀ j, i + 1 ≤ j → j < 4 → ∃ a xs, us[j + 1]? = some (.ref a) ∧ cut [p, T] H' a = some (.lst xs)) ∧ ∃ y7, [some (V.ref p), some (.ref l1), some (.ref l2), some (.ref l3), x4, some (.ref l4), some (.ref T), some (.int (1 + (i : Int))), none] = [some (.ref p), some (.ref l1), some (.ref l2), some (.ref l3), x4, some (.ref l4), some (.ref T), y7, none] := fun {H'} b hp' => by
        refine ⟨bc.trans b, ⟨us, tl.keep b hp', fun j h1 h2 => ?_⟩, _, rfl⟩
        obtain ⟨a, xs, h3, h4⟩ := st j (by omega) h2
        exact ⟨a, xs, h3, PT.sb b _ _ h4⟩
      refine ⟨.ref T, rfl, .int (1 + (i : Int)), rfl, T, us, _, .ref a, rfl, rfl, SqL.of tl.eT, hat, by show 0 ≤ sizeLine; decide, fun l0 n0 => ⟨a, l0, xs, rfl, rfl, same_upd n0 _ _ (cut_le _ _ _ _ ea), upd_same, _, rfl, ite2 (fun e => ?_) (fun e => ?_)⟩⟩
      · refine ⟨.ref p, rfl, p, 2, rfl, tl.pt.new n0, by decide, by decide, fun Hd dd bd pd d0 d1 => ⟨rfl, _, rfl, ite2 (fun e2 => ?_) (fun e2 => ?_)⟩⟩
        · have B : But p Hc Hd := (But.new n0).trans bd
          have eTd := B _ _ tl.ne tl.eT
          refine ⟨.ref T, rfl, .int (1 + (i : Int)), rfl, T, us, _, i + 1, rfl, rfl, eTd, by rw [tl.len]; unfold ixN; rw [if_pos (by omega), if_pos (by omega)]; congr 1; omega, ?_⟩
          have tl' := tl.put (j := i + 1) (r := .non) bc B pd (Up.refl (PT.sb B)) (fun a h nh => absurd h nh) (fun a ha => by obtain ⟨ys, ey⟩ := (tl.al a ha).2; exact ⟨ys, PT.sb B _ _ ey⟩) (Nat.le_refl _) (fun z => by omega) (fun _ _ => ⟨TI.plain .non rfl, Nat.zero_le _⟩)
          refine ⟨fun b o nb e => ?_, ⟨_, tl', fun j h1 h2 => ?_⟩, _, rfl⟩
          · rw [upd_ne (fun z => by rw [z, tl.nT] at e; cases e)]
            exact (bc.trans B) _ _ nb e
          · obtain ⟨a, xs, h3, h4⟩ := st j (by omega) h2
            exact ⟨a, xs, by rw [List.getElem?_set_ne (by omega)]; exact h3, by rw [cut_T]; exact PT.sb B _ _ h4⟩
        · exact keep ((But.new n0).trans bd) pd
      · exact keep (But.new n0) (tl.pt.new n0)
    · rintro σ Hz ⟨bz, ⟨us, tl, _⟩, x7, rfl⟩
      exact ⟨_, rfl, q Hz T AA us bz tl⟩
end
end WB

set_option Elab.async false
set_option linter.all false
set_option maxRecDepth 100000
set_option maxHeartbeats 4000000
namespace WB
open PySem PySem.Spec PyProof.Rows L2 WG
open TL (tl)
abbrev st_right : Stmt := topS 67
theorem sc_right : FnScope ["_law_told_here", "_law_way", "_law_due_here", "_law_kept", "_law_command", "_law_second", "_law_one", "_law_inner"] ["_law_told_here", "_law_way"] (defScope st_right) := ⟨rfl, rfl, rfl, by decide +kernel, rfl, by decide +kernel, by decide +kernel⟩
/-! ### arguments that are right -/
theorem wrong_ok {CO CP CC : Addr} {H : Hp} {v0 v1 v2 v3 v4 v5 : V} (h : wrongC CO CP CC H v0 v1 v2 v3 v4 v5 = Str.ofString "") : isNm v0 = true ∧ ol H 12 (isC H CO) v1 = true ∧ ol H 6 (isC H CP) v2 = true ∧ ol H 4 (grp H) v3 = true ∧ ol H 8 (isC H CC) v4 = true ∧ isAb v5 = true := by
  unfold wrongC at h
  cases b0 : isNm v0 with
  | false => rw [if_pos b0] at h; exact absurd h (lit_ne (by decide +kernel))
  | true =>
    rw [if_neg (by rw [b0]; decide)] at h
    cases b1 : ol H 12 (isC H CO) v1 with
    | false => rw [if_pos b1] at h; exact absurd h (lit_ne (by decide +kernel))
    | true =>
      rw [if_neg (by rw [b1]; decide)] at h
      cases b2 : ol H 6 (isC H CP) v2 with
      | false => rw [if_pos b2] at h; exact absurd h (lit_ne (by decide +kernel))
      | true =>
        rw [if_neg (by rw [b2]; decide)] at h
        cases b3 : ol H 4 (grp H) v3 with
        | false => rw [if_pos b3] at h; exact absurd h (lit_ne (by decide +kernel))
        | true =>
          rw [if_neg (by rw [b3]; decide)] at h
          cases b4 : ol H 8 (isC H CC) v4 with
          | false => rw [if_pos b4] at h; exact absurd h (lit_ne (by decide +kernel))
          | true =>
            rw [if_neg (by rw [b4]; decide)] at h
            cases b5 : isAb v5 with
            | false => rw [if_pos b5] at h; exact absurd h (lit_ne (by decide +kernel))
            | true => exact ⟨rfl, rfl, rfl, rfl, rfl, rfl⟩
theorem ol_items {H : Hp} {m : Nat} {g : V → Bool} {v : V} (h : ol H m g v = true) : (its H v).length ≤ m ∧ ∀ x ∈ its H v, g x = true := by
  unfold ol at h
  by_cases e : v = .non
  · subst e
    exact ⟨Nat.zero_le _, fun x hx => by cases hx⟩
  · rw [decide_eq_false e, Bool.false_or] at h
    unfold lok at h
    simp only [Bool.and_eq_true, decide_eq_true_eq] at h
    exact ⟨h.1.2, List.all_eq_true.mp h.2⟩
theorem ol_ref {Cs : List Addr} {H : Hp} {m : Nat} {g : V → Bool} {v : V} (w : Wf Cs H v) (h : ol H m g v = true) : v = .non ∨ ∃ a, v = .ref a ∧ H a = some (.lst (its H v)) := by
  rcases lv_of w h with ⟨h1, _⟩ | h
  · exact .inl h1
  · exact .inr h
theorem bl_all {CO CC : Addr} {H : Hp} : ∀ {cs : List V}, (∀ c ∈ cs, ∃ x n os ab, c = .ref x ∧ Bl CO CC H x n os ab ∧ P8 n ∧ P8 ab) → ∃ bs, BlAll CO CC H cs bs
  | [], _ => ⟨[], rfl, fun i c e => by cases e⟩
  | c :: r, h => by
    obtain ⟨bs, h1, h2⟩ := bl_all (cs := r) fun x hx => h x (List.mem_cons_of_mem _ hx)
    obtain ⟨x, n, os, ab, e, bl, pn, pa⟩ := h c List.mem_cons_self
    refine ⟨(n, tx "Option(" H os, ab) :: bs, by rw [List.length_cons, List.length_cons, h1], fun i c' e' => ?_⟩
    cases i with
    | zero =>
      cases e'
      exact ⟨x, n, os, ab, e, bl, rfl, pn, pa⟩
    | succ i => exact h2 i c' e'
/-- lists of such arguments, their things beside the lists of the law -/
structure RA (CO CP CC : Addr) (A : List Addr) (H : Hp) (u1 u2 u3 u4 : V) (bs : List (Str × Str × Str)) : Prop where
  l1 : LV H u1 (its H u1)
  l2 : LV H u2 (its H u2)
  l3 : LV H u3 (its H u3)
  l4 : LV H u4 (its H u4)
  n1 : (its H u1).length ≤ 20
  n2 : (its H u2).length ≤ 20
  n3 : (its H u3).length ≤ 1000
  n4 : (its H u4).length ≤ 1000
  io : ∀ o ∈ its H u1, Ins CO (cut A H) o
  ip : ∀ o ∈ its H u2, Ins CP (cut A H) o
  gi : ∀ (i : Nat) (y : V), (its H u3)[i]? = some y → ∃ b g, y = .ref b ∧ H b = some (.lst g) ∧ ((its H u3).map (its H))[i]? = some g
  gs : GS ((its H u3).map (its H))
  gl : ∀ g ∈ (its H u3).map (its H), g.length ≤ 1000
  bl : BlAll CO CC (cut A H) (its H u4) bs
theorem ra_of {CO CP CC p T : Addr} {A : List Addr} {H : Hp} {u0 u1 u2 u3 u4 u5 : V} (t1 : TI CO CP CC A (cut [p, T] H) u1) (t2 : TI CO CP CC A (cut [p, T] H) u2) (t3 : TI CO CP CC A (cut [p, T] H) u3) (t4 : TI CO CP CC A (cut [p, T] H) u4) (hw : wrongC CO CP CC H u0 u1 u2 u3 u4 u5 = Str.ofString "") : ∃ bs, RA CO CP CC A H u1 u2 u3 u4 bs := by
  obtain ⟨_, o1, o2, o3, o4, _⟩ := wrong_ok hw
  have s : Same (cut [p, T] H) H := cut_le _ _
  have sA : Same (cut A (cut [p, T] H)) (cut A H) := cut_same s
  have w1 := t1.w.same s
  have w2 := t2.w.same s
  have w3 := t3.w.same s
  have w4 := t4.w.same s
  have key : ∀ {u : V}, TI CO CP CC A (cut [p, T] H) u → ∀ x ∈ its H u, Itm CO CP CC A (cut [p, T] H) x ∧ ∀ D, isC H D x = isC (cut [p, T] H) D x := fun {u} t x hx => by
    rw [(t.w.at_ s).2.1] at hx
    exact ⟨t.i x hx, ((t.w.items.2 x hx).at_ s).2.2⟩
  obtain ⟨bs, hb⟩ := bl_all (CO := CO) (CC := CC) (H := cut A H) (cs := its H u4) fun c hc => by
    obtain ⟨i, e⟩ := key t4 c hc
    have z := (ol_items o4).2 c hc
    rw [e] at z
    obtain ⟨a, n, os, ab, h1, h2, h3⟩ := i.c z
    exact ⟨a, n, os, ab, h1, h2.same sA, h3⟩
  refine ⟨bs, lv_of w1 o1, lv_of w2 o2, lv_of w3 o3, lv_of w4 o4, by have := (ol_items o1).1; omega, by have := (ol_items o2).1; omega, by have := (ol_items o3).1; omega, by have := (ol_items o4).1; omega, fun o ho => ?_, fun o ho => ?_, grp_items w3 o3, fun g hg v hv => ?_, fun g hg => ?_, hb⟩
  · obtain ⟨i, e⟩ := key t1 o ho
    have z := (ol_items o1).2 o ho
    rw [e] at z
    exact (i.o z).same sA
  · obtain ⟨i, e⟩ := key t2 o ho
    have z := (ol_items o2).2 o ho
    rw [e] at z
    exact (i.p z).same sA
  · obtain ⟨y, hy, rfl⟩ := List.mem_map.mp hg
    have z := (ol_items o3).2 y hy
    unfold grp at z
    simp only [Bool.and_eq_true, decide_eq_true_eq] at z
    have zs := List.all_eq_true.mp z.2 v hv
    have wv := ((w3.items.2 y hy).items.2 v hv)
    cases wv with
    | str h => exact ⟨_, rfl, h.pl⟩
    | _ => cases zs
  · obtain ⟨y, hy, rfl⟩ := List.mem_map.mp hg
    have z := (ol_items o3).2 y hy
    unfold grp at z
    simp only [Bool.and_eq_true, decide_eq_true_eq] at z
    omega
/-! ### what is changed behind the call -/
/-- the items of a told list: instances, or groups -/
def Kd (CO CP CC : Addr) (A : List Addr) (H : Hp) (gs : List Addr) (x : V) : Prop := (∃ b C dx fs, x = .ref b ∧ cut A H b = some (.ins C dx fs) ∧ C ∈ [CO, CP, CC]) ∨ ∃ g ∈ gs, x = .ref g
/-- the told lists and their groups -/
structure Tops (CO CP CC : Addr) (A : List Addr) (H : Hp) (vs : List V) (gs : List Addr) : Prop where
  t : ∀ v ∈ vs, v = .non ∨ ∃ a, v = .ref a ∧ a ∈ A ∧ a ∉ gs ∧ H a = some (.lst (its H v)) ∧ (its H v).length ≤ 12 ∧ ∀ x ∈ its H v, Kd CO CP CC A H gs x
  g : ∀ g ∈ gs, g ∈ A ∧ ∃ ys, H g = some (.lst ys) ∧ ys.length ≤ 6
theorem tops_of {CO CP CC p T : Addr} {A : List Addr} {H : Hp} {v0 v1 v2 v3 v4 v5 : V} (t1 : TI CO CP CC A (cut [p, T] H) v1) (t2 : TI CO CP CC A (cut [p, T] H) v2) (t3 : TI CO CP CC A (cut [p, T] H) v3) (t4 : TI CO CP CC A (cut [p, T] H) v4) (hw : wrongC CO CP CC H v0 v1 v2 v3 v4 v5 = Str.ofString "") : ∃ gs, Tops CO CP CC A H [v1, v2, v3, v4] gs := by
  obtain ⟨_, o1, o2, o3, o4, _⟩ := wrong_ok hw
  have s : Same (cut [p, T] H) H := cut_le _ _
  have sA : Same (cut A (cut [p, T] H)) (cut A H) := cut_same s
  have w1 := t1.w.same s
  have w2 := t2.w.same s
  have w3 := t3.w.same s
  have w4 := t4.w.same s
  have key : ∀ {u : V}, TI CO CP CC A (cut [p, T] H) u → ∀ x ∈ its H u, Itm CO CP CC A (cut [p, T] H) x ∧ (isL H x = isL (cut [p, T] H) x) ∧ ∀ D, isC H D x = isC (cut [p, T] H) D x := fun {u} t x hx => by
    rw [(t.w.at_ s).2.1] at hx
    exact ⟨t.i x hx, ((t.w.items.2 x hx).at_ s).1, ((t.w.items.2 x hx).at_ s).2.2⟩
  have g3 : ∀ x ∈ its H v3, ∃ g, x = .ref g ∧ g ∈ A ∧ H g = some (.lst (its H x)) ∧ 2 ≤ (its H x).length ∧ (its H x).length ≤ 6 ∧ ∀ y ∈ its H x, isS y = true := fun x hx => by
    have z := (ol_items o3).2 x hx
    unfold grp at z
    simp only [Bool.and_eq_true, decide_eq_true_eq] at z
    obtain ⟨g, e, eg⟩ := (w3.items.2 x hx).list z.1.1.1
    obtain ⟨i, el, _⟩ := key t3 x hx
    exact ⟨g, e, i.l g e (by rw [← el]; exact z.1.1.1), eg, z.1.2, z.1.1.2, List.all_eq_true.mp z.2⟩
  have hmap : ∀ {xs : List V}, (∀ x ∈ xs, ∃ g, x = .ref g) → ∃ gs : List Addr, xs = gs.map V.ref := fun {xs} h => by
    induction xs with
    | nil => exact ⟨[], rfl⟩
    | cons x r ih =>
      obtain ⟨g, rfl⟩ := h x List.mem_cons_self
      obtain ⟨gs, e⟩ := ih fun y hy => h y (List.mem_cons_of_mem _ hy)
      exact ⟨g :: gs, by rw [e]; rfl⟩
  obtain ⟨gs, egs⟩ := hmap (xs := its H v3) fun x hx => by obtain ⟨g, e, _⟩ := g3 x hx; exact ⟨g, e⟩
  have hg : ∀ g ∈ gs, g ∈ A ∧ H g = some (.lst (its H (.ref g))) ∧ 2 ≤ (its H (.ref g)).length ∧ (its H (.ref g)).length ≤ 6 ∧ ∀ y ∈ its H (.ref g), isS y = true := fun g h => by
    obtain ⟨g', e, h1⟩ := g3 (.ref g) (by rw [egs]; exact List.mem_map.mpr ⟨g, h, rfl⟩)
    cases e
    exact h1
  -- a told list is no group
  have apart : ∀ {v : V} {a : Addr}, v = .ref a → H a = some (.lst (its H v)) → (∀ x ∈ its H v, isS x = false) → a ∉ gs := fun {v a} e ea h hm => by
    obtain ⟨_, _, h2, _, h4⟩ := hg a hm
    subst e
    cases hx : its H (.ref a) with
    | nil => rw [hx] at h2; exact absurd h2 (by decide)
    | cons y r =>
      have y1 := h4 y (by rw [hx]; exact List.mem_cons_self)
      have y2 := h y (by rw [hx]; exact List.mem_cons_self)
      rw [y1] at y2
      cases y2
  have nS : ∀ {C : Addr} {x : V}, isC H C x = true → isS x = false := fun {C x} h => by
    cases x with
    | str z => cases h
    | _ => rfl
  have nSl : ∀ {x : V}, isL H x = true → isS x = false := fun {x} h => by
    cases x with
    | str z => cases h
    | _ => rfl
  have insK : ∀ {C : Addr} {x : V}, C ∈ [CO, CP, CC] → Ins C (cut A (cut [p, T] H)) x → Kd CO CP CC A H gs x := fun {C x} hC h => by
    obtain ⟨a, vs, rfl, ⟨_, dx, t, e, _⟩, _⟩ := h
    exact .inl ⟨a, C, dx, _, rfl, sA _ _ e, hC⟩
  refine ⟨gs, fun v hv => ?_, fun g h => ?_⟩
  · simp only [List.mem_cons, List.not_mem_nil, or_false] at hv
    rcases hv with rfl | rfl | rfl | rfl
    · rcases ol_ref w1 o1 with z | ⟨a, e, ea⟩
      · exact .inl z
      · refine .inr ⟨a, e, ?_, apart e ea (fun x hx => nS ((ol_items o1).2 x hx)), ea, by have := (ol_items o1).1; omega, fun x hx => ?_⟩
        · exact t1.l a e (by rw [← (t1.w.at_ s).1, e]; exact (isL_lst ea).1)
        · obtain ⟨i, _, ec⟩ := key t1 x hx
          exact insK (by simp) (i.o (by rw [← ec]; exact (ol_items o1).2 x hx))
    · rcases ol_ref w2 o2 with z | ⟨a, e, ea⟩
      · exact .inl z
      · refine .inr ⟨a, e, ?_, apart e ea (fun x hx => nS ((ol_items o2).2 x hx)), ea, by have := (ol_items o2).1; omega, fun x hx => ?_⟩
        · exact t2.l a e (by rw [← (t2.w.at_ s).1, e]; exact (isL_lst ea).1)
        · obtain ⟨i, _, ec⟩ := key t2 x hx
          exact insK (by simp) (i.p (by rw [← ec]; exact (ol_items o2).2 x hx))
    · rcases ol_ref w3 o3 with z | ⟨a, e, ea⟩
      · exact .inl z
      · refine .inr ⟨a, e, ?_, apart e ea (fun x hx => ?_), ea, by have := (ol_items o3).1; omega, fun x hx => ?_⟩
        · exact t3.l a e (by rw [← (t3.w.at_ s).1, e]; exact (isL_lst ea).1)
        · obtain ⟨g, rfl, _⟩ := g3 x hx
          rfl
        · rw [egs] at hx
          obtain ⟨g, hg', rfl⟩ := List.mem_map.mp hx
          exact .inr ⟨g, hg', rfl⟩
    · rcases ol_ref w4 o4 with z | ⟨a, e, ea⟩
      · exact .inl z
      · refine .inr ⟨a, e, ?_, apart e ea (fun x hx => nS ((ol_items o4).2 x hx)), ea, by have := (ol_items o4).1; omega, fun x hx => ?_⟩
        · exact t4.l a e (by rw [← (t4.w.at_ s).1, e]; exact (isL_lst ea).1)
        · obtain ⟨i, _, ec⟩ := key t4 x hx
          obtain ⟨b, n, os, ab, rfl, ⟨dx, lo, lp, lg, lc, eb, _⟩, _⟩ := i.c (by rw [← ec]; exact (ol_items o4).2 x hx)
          exact .inl ⟨b, CC, dx, _, rfl, sA _ _ eb, by simp⟩
  · obtain ⟨h1, h2, _, h3, _⟩ := hg g h
    exact ⟨h1, _, h2, h3⟩
end WB

set_option Elab.async false
set_option linter.all false
set_option maxRecDepth 100000
set_option maxHeartbeats 4000000
namespace WB
open PySem PySem.Spec PyProof.Rows L2 WG
open TL (tl)
abbrev datOf (A : List Addr) (H : Hp) (u1 u2 u3 : V) (bs : List (Str × Str × Str)) : PyData := toldD (tx "Option(" (cut A H) (its H u1)) (tx "Place(" (cut A H) (its H u2)) ((its H u3).map (its H)) bs
section
variable {CO CP CC l x dx lo lp lg lc : Addr} {A : List Addr} {H Hx : Hp} {u0 u1 u2 u3 u4 u5 : V} {bs : List (Str × Str × Str)} {Q : VK} {E : XK} {as : List Addr}
theorem lists_in (ra : RA CO CP CC A H u1 u2 u3 u4 bs) (s : Same H Hx) (el : Hx l = some (.lst [u0, u1, u2, u3, u4, u5])) (q : ∀ H' r, Same Hx H' → DN Hx H' (.ref r) (datOf A H u1 u2 u3 bs) → Q (.ref r) H') : spLists CO CP CC [.ref l] Hx Q E := by
  have sc : Same (cut A H) Hx := (cut_le A H).trans s
  refine ⟨l, u0, u1, u2, u3, u4, u5, _, _, _, _, _, bs, rfl, el, ra.l1.same s, ra.l2.same s, ra.l3.same s, ra.l4.same s, by rw [List.length_map], ra.n3, ra.n4, fun i y e => ?_, fun o ho => (ra.io o ho).same sc, ra.n1, fun o ho => (ra.ip o ho).same sc, ra.n2, ra.gs, ra.bl.same sc, fun H' r s' d => q H' r s' ?_⟩
  · obtain ⟨b, g, h1, h2, h3⟩ := ra.gi i y e
    exact ⟨b, g, h1, s _ _ h2, h3⟩
  · rw [tx_same ra.io sc, tx_same ra.ip sc] at d
    exact d
theorem Cm.len3 {os ps cs : List V} {gss : List (List V)} {v0 v5 : V} (cm : Cm CC Hx x dx lo lp lg lc v0 os ps as gss cs v5) : as.length = gss.length := cm.gl
theorem told_in (ra : RA CO CP CC A H u1 u2 u3 u4 bs) (sc : Same (cut A H) Hx) (cm : Cm CC Hx x dx lo lp lg lc u0 (its H u1) (its H u2) as ((its H u3).map (its H)) (its H u4) u5) (q : ∀ H' r, Same Hx H' → DN Hx H' (.ref r) (datOf A H u1 u2 u3 bs) → Q (.ref r) H') : spTold CO CP CC [.ref x] Hx Q E := by
  have la : as.length ≤ 1000 := by rw [cm.gl, List.length_map]; exact ra.n3
  refine ⟨x, dx, lo, lp, lg, lc, u0, _, _, as, _, _, u5, bs, rfl, cm, la, ra.n4, fun o ho => (ra.io o ho).same sc, ra.n1, fun o ho => (ra.ip o ho).same sc, ra.n2, ra.gs, ra.bl.same sc, fun H' r s' d => q H' r s' ?_⟩
  rw [tx_same ra.io sc, tx_same ra.ip sc] at d
  exact d
theorem stays_in {du : Addr} {Hz : Hp} (ra : RA CO CP CC A H u1 u2 u3 u4 bs) (sc : Same (cut A H) Hx) (cm : Cm CC Hx x dx lo lp lg lc u0 (its H u1) (its H u2) as ((its H u3).map (its H)) (its H u4) u5) (dn : DN Hz Hx (.ref du) (datOf A H u1 u2 u3 bs)) (q : ∀ H', Same Hx H' → Q (.bl true) H') : spStays CO CP CC [.ref x, .ref du] Hx Q E := by
  have la : as.length ≤ 1000 := by rw [cm.gl, List.length_map]; exact ra.n3
  refine ⟨x, du, dx, lo, lp, lg, lc, u0, _, _, as, _, _, u5, bs, Hz, rfl, cm, la, ra.n4, fun o ho => (ra.io o ho).same sc, ra.n1, fun o ho => (ra.ip o ho).same sc, ra.n2, ra.gs, ra.gl, ra.bl.same sc, ?_, q⟩
  rw [tx_same ra.io sc, tx_same ra.ip sc]
  exact dn
end
theorem due_ti {CO CP CC : Addr} {A : List Addr} {G : Hp} {way : Int} {v0 v1 v2 v3 v4 v5 u0 u1 u2 u3 u4 u5 : V} (h0 : Thg G v0) (h1 : TI CO CP CC A G v1) (h2 : TI CO CP CC A G v2) (h3 : TI CO CP CC A G v3) (h4 : TI CO CP CC A G v4) (h5 : Thg G v5) (e : dueC way v0 v1 v2 v3 v4 v5 = [u0, u1, u2, u3, u4, u5]) :
    Thg G u0 ∧ TI CO CP CC A G u1 ∧ TI CO CP CC A G u2 ∧ TI CO CP CC A G u3 ∧ TI CO CP CC A G u4 ∧ Thg G u5 := by
  have non : TI CO CP CC A G .non := TI.plain .non rfl
  unfold dueC at e
  split at e
  · cases e
    exact ⟨h0, h1, h2, non, non, thg_empty⟩
  · split at e
    · cases e
      exact ⟨h0, non, non, h3, h4, thg_empty⟩
    · cases e
      exact ⟨h0, h1, h2, h3, h4, h5⟩
theorem nm_str {v : V} (h : isNm v = true) : ∃ y, v = .str y := by
  cases v with
  | str y => exact ⟨y, rfl⟩
  | _ => cases h
theorem ab_str {v : V} (h : isAb v = true) : ∃ y, v = .str y := by
  cases v with
  | str y => exact ⟨y, rfl⟩
  | _ => cases h
/-- a command that was made stays, whatever is done to the lists of the law -/
theorem Cm.stay {CC x dx lo lp lg lc : Addr} {A as : List Addr} {H Ha Hb : Hp} {v0 v5 : V} {os ps cs : List V} {gss : List (List V)} (cm : Cm CC Ha x dx lo lp lg lc v0 os ps as gss cs v5) (al : ∀ a ∈ A, ∃ xs, H a = some (.lst xs)) (hx : H x = none) (n1 : H lo = none) (n2 : H lp = none) (n3 : H lg = none) (n4 : H lc = none) (n5 : ∀ a ∈ as, H a = none)
    (k : ∀ b o, b ∉ A → Ha b = some o → Hb b = some o) : Cm CC Hb x dx lo lp lg lc v0 os ps as gss cs v5 := by
  have no : ∀ b, H b = none → b ∉ A := fun b n hb => by
    obtain ⟨xs, e⟩ := al b hb
    rw [n] at e
    cases e
  refine cm.keep fun b o hb e => k b o (no b ?_) e
  rcases hb with rfl | rfl | rfl | rfl | rfl | hb
  · exact hx
  · exact n1
  · exact n2
  · exact n3
  · exact n4
  · exact n5 b hb
def spRightC (CO CP CC : Addr) : Sp := fun vs H Q _ => ∃ (H0 : Hp) (p T : Addr) (A : List Addr) (n : Nat) (way : Int) (v0 v1 v2 v3 v4 v5 : V), vs = [.ref T, .int way] ∧ Tl CO CP CC H0 H p T A n [v0, v1, v2, v3, v4, v5] ∧ wrongC CO CP CC H v0 v1 v2 v3 v4 v5 = Str.ofString "" ∧ wrongL CO CP CC H (dueC way v0 v1 v2 v3 v4 v5) = Str.ofString "" ∧
  ∀ H', (∀ b o, b ∉ A → H b = some o → H' b = some o) → Q (.bl true) H'
end WB

set_option Elab.async false
set_option linter.all false
set_option maxRecDepth 100000
set_option maxHeartbeats 4000000
namespace WB
open PySem PySem.Spec PyProof.Rows L2 WG
open TL (tl)
section
variable {P : Program} {w : World} {K : PySem.W.Frag} {mg : Str → Option Value} {base : Heap}
theorem ok_rightC {CO CP CC CN f fDu fLi fMa fTo fSt : Addr} {fd fdDu fdLi fdMa fdTo fdSt : FuncData} {k : Nat} (F : Fun K "_law_right" "_law_right" st_right f fd) (c3 : Cl3 K [CO, CP, CC]) (M : CmdM P w K mg base (k + 2) CO CP CC)
    (D_due : Df K mg "_law_due" st_due ["_law_told_here", "_law_way"] fDu fdDu) (D_lists : Df K mg "_law_lists" st_lists ["_law_told_here"] fLi fdLi) (D_made : Df K mg "_law_made" st_made ["_law_told_here", "_law_way"] fMa fdMa) (D_told : Df K mg "_law_told" st_told ["_law_command"] fTo fdTo) (D_stays : Df K mg "_law_stays" st_stays ["_law_command", "_law_due_here"] fSt fdSt)
    (G_lists : GOk P w K mg base CX0 (k + 6) fLi fdLi ["_law_told_here"] (spLists CO CP CC)) (G_made : FnOk P w K mg base (L2.CX P w) (k + 7) fMa fdMa ["_law_told_here", "_law_way"] (spCMade CO CP CC CN)) (G_told : GOk P w K mg base CX0 (k + 6) fTo fdTo ["_law_command"] (spTold CO CP CC)) (G_stays : GOk P w K mg base CX0 (k + 7) fSt fdSt ["_law_command", "_law_due_here"] (spStays CO CP CC))
    (m_list : mg "list" = none) (m_isinstance : mg "isinstance" = none) :
    GOk P w K mg base CX0 (k + 8) f fd ["_law_told_here", "_law_way"] (spRightC CO CP CC) := by
  have G_due : FnOk P w K mg base CX0 (k + 7) fDu fdDu ["_law_told_here", "_law_way"] spDue := ok_due D_due.F m_list
  obtain ⟨f_name, fd_name, m_name, G_name, b_name⟩ := M.name
  obtain ⟨f_about, fd_about, m_about, G_about, b_about⟩ := M.about
  refine gfun_ok F sc_right (fun vs H Q E h => ?_) (fun cdv A outer s H vs Q E hgd hr h => ?_)
  · obtain ⟨H0, p, T, AA, n, way, v0, v1, v2, v3, v4, v5, rfl, _⟩ := h
    rfl
  · obtain ⟨H0, p, T, AA, n, way, v0, v1, v2, v3, v4, v5, rfl, tl, hwt, hwd, q⟩ := h
    have sl : sizeLine = 16777216 := sizeLine_eq
    refine ⟨_, PSs.nox (pss_cons (ps_set (i := 2) sc_right.nd rfl (.inl rfl) (pe_call G_due hr (by rfl) D_due.g D_due.F.kp D_due.b .nil pass0 (pa_cons (pv 0) (pa_cons (pv 1) pa_nil))))
      (pss_cons (ps_set (i := 3) sc_right.nd rfl (.inl rfl) (pe_callG G_lists hgd (hr.mono (by omega)) (by rfl) D_lists.g D_lists.F.kp D_lists.b pass0 (pa_cons (pv 2) pa_nil)))
      (pss_cons (ps_set (i := 4) sc_right.nd rfl (.inl rfl) (pe_call G_made hr (by rfl) D_made.g D_made.F.kp D_made.b .nil passF (pa_cons (pv 0) (pa_cons (pv 1) pa_nil))))
      (pss_cons (ps_set (i := 5) sc_right.nd rfl (.inl rfl) (pe_call G_made hr (by rfl) D_made.g D_made.F.kp D_made.b .nil passF (pa_cons (pv 0) (pa_cons (pv 1) pa_nil))))
      (pss_cons (ps_if (PW.pt (pw_or (pt_cmpR (op_neD hr.units) (pe_callG G_told hgd (hr.mono (by omega)) (by rfl) D_told.g D_told.F.kp D_told.b pass0 (pa_cons (pv 4) pa_nil)) (pv 3) (nomark _)) (pw_or1 (pt_cmpR (op_neD hr.units) (pe_lst (pa_cons (pe_meth0 (pv 4) M.T.cl m_name G_name (hr.mono (by omega)) b_name .nil pass0) (pa_cons (pe_meth0 (pv 4) M.T.cl m_about G_about (hr.mono (by omega)) b_about .nil pass0) pa_nil))) (pe_lst (pa_cons (pe_ix ix_list (pv 2) pe_int (fun _ _ => rfl)) (pa_cons (pe_ix ix_list (pv 2) pe_int (fun _ _ => rfl)) pa_nil))) (nomark _))))) (pss_one (ps_ret pe_bl)) pss_nil)
      (pss_cons (ps_if (pt_cmpR (op_neD hr.units) (pe_callG G_lists hgd (hr.mono (by omega)) (by rfl) D_lists.g D_lists.F.kp D_lists.b pass0 (pa_cons (pv 2) pa_nil)) (pv 3) (nomark _)) (pss_one (ps_ret pe_bl)) pss_nil)
      (pss_cons (ps_for PassesOwn.never rfl (pi_list (pe_slice sl_list (pv 0) (po_some pe_int) (po_some pe_int))) (pg_name (i := 6) sc_right.nd rfl (Or.inl rfl)) (pss_one (ps_if (pt_cmpR op_notN (pv 6) pe_non (nomark _)) (pss_cons (ps_for PassesOwn.never rfl (pi_list (pv 6)) (pg_name (i := 7) sc_right.nd rfl (Or.inl rfl)) (pss_one (ps_if (pt_val (pe_callB call_isi (by rfl) m_isinstance (by decide +kernel) (pa_cons (pv 7) (pa_cons (pe_bltn (v := .ty "list") (by rfl) m_list (by decide +kernel) rfl) pa_nil)))) (pss_one (ps_expr (pe_bm PySem.F.plainAttrs_list PySem.F.slot_list_append PySem.F.type_list_append mt_append (pv 7) (pa_cons pe_str pa_nil)))) pss_nil)))
      (pss_one (ps_expr (pe_bm PySem.F.plainAttrs_list PySem.F.slot_list_append PySem.F.type_list_append mt_append (pv 6) (pa_cons pe_non pa_nil))))) pss_nil)))
      (pss_one (ps_ret (pe_and (pe_cmpR (op_eqD hr.units) (pe_callG G_told hgd (hr.mono (by omega)) (by rfl) D_told.g D_told.F.kp D_told.b pass0 (pa_cons (pv 4) pa_nil)) (pv 3) (nomark _)) (pe_and (pe_callG G_stays hgd hr (by rfl) D_stays.g D_stays.F.kp D_stays.b pass0 (pa_cons (pv 4) (pa_cons (pv 3) pa_nil))) (pe_one (pe_cmpR (op_eqD hr.units) (pe_callG G_told hgd (hr.mono (by omega)) (by rfl) D_told.g D_told.F.kp D_told.b pass0 (pa_cons (pv 5) pa_nil)) (pv 3) (nomark _)))))))))))))), ?_⟩
    have al : ∀ a ∈ AA, ∃ xs, H a = some (.lst xs) := fun a ha => by
      obtain ⟨xs, e⟩ := (tl.al a ha).2
      exact ⟨xs, cut_le _ _ _ _ e⟩
    have g0 := tl.th 0 v0 rfl (.inl rfl)
    have g1 := (tl.ti 1 v1 rfl (by decide) (by decide)).1
    have g2 := (tl.ti 2 v2 rfl (by decide) (by decide)).1
    have g3 := (tl.ti 3 v3 rfl (by decide) (by decide)).1
    have g4 := (tl.ti 4 v4 rfl (by decide) (by decide)).1
    have g5 := tl.th 5 v5 rfl (.inr rfl)
    obtain ⟨gs, tops⟩ := tops_of g1 g2 g3 g4 hwt
    obtain ⟨u0, u1, u2, u3, u4, u5, eu⟩ := due_six way v0 v1 v2 v3 v4 v5
    rw [eu] at hwd
    obtain ⟨i0, i1, i2, i3, i4, i5⟩ := due_ti g0 g1 g2 g3 g4 g5 eu
    have hwd' : wrongC CO CP CC H u0 u1 u2 u3 u4 u5 = Str.ofString "" := hwd
    obtain ⟨bs, ra⟩ := ra_of i1 i2 i3 i4 hwd'
    have sG : Same (cut [p, T] H) H := cut_le _ _
    have args : Args [CO, CP, CC] H v0 v1 v2 v3 v4 v5 := ⟨g0.same sG, g1.w.same sG, g2.w.same sG, g3.w.same sG, g4.w.same sG, g5.same sG⟩
    have argu : Args [CO, CP, CC] H u0 u1 u2 u3 u4 u5 := ⟨i0.same sG, i1.w.same sG, i2.w.same sG, i3.w.same sG, i4.w.same sG, i5.same sG⟩
    obtain ⟨b0, _, _, _, _, b5⟩ := wrong_ok hwd'
    obtain ⟨y0, rfl⟩ := nm_str b0
    obtain ⟨y5, rfl⟩ := ab_str b5
    have t0 : Tx 300 y0 := argu.1.tx
    have t5 : Tx 300 y5 := argu.2.2.2.2.2.tx
    -- what is due, and what is kept of it
    refine ⟨.ref T, rfl, .int way, rfl, T, way, v0, v1, v2, v3, v4, v5, rfl, tl.eT, fun H1 l s1 nl el => ?_⟩
    rw [eu] at el
    refine ⟨.ref l, rfl, ?_⟩
    delta tNil
    show spLists CO CP CC [.ref l] _ _ _
    refine lists_in ra s1 el (fun H2 r s2 d2 => ?_)
    have S2 := s1.trans s2
    have wr2 := (wrongC_same argu S2).trans hwd'
    refine ⟨.ref T, rfl, .int way, rfl, T, way, v0, v1, v2, v3, v4, v5, rfl, S2 _ _ tl.eT, args.same S2, ?_⟩
    rw [eu]
    refine ⟨fun _ H3 x s3 nx md => ?_, fun hw => absurd wr2 hw⟩
    have S3 := S2.trans s3
    have wr3 := (wrongC_same argu S3).trans hwd'
    refine ⟨.ref T, rfl, .int way, rfl, T, way, v0, v1, v2, v3, v4, v5, rfl, S3 _ _ tl.eT, args.same S3, ?_⟩
    rw [eu]
    refine ⟨fun _ H4 z s4 nz mz => ?_, fun hw => absurd wr3 hw⟩
    have S4 := S3.trans s4
    unfold MadeAt at md mz
    rw [(argu.2.1.at_ S2).2.1, (argu.2.2.1.at_ S2).2.1, its_its argu.2.2.2.1 S2, (argu.2.2.2.2.1.at_ S2).2.1] at md
    rw [(argu.2.1.at_ S3).2.1, (argu.2.2.1.at_ S3).2.1, its_its argu.2.2.2.1 S3, (argu.2.2.2.2.1.at_ S3).2.1] at mz
    obtain ⟨dx, lo, lp, lg, lc, as, cm3, n1, n2, n3, n4, n5⟩ := md.cm
    obtain ⟨dz, mo, mp, mg', mc, bs', cz4, k1, k2, k3, k4, k5⟩ := mz.cm
    have cm4 := cm3.same s4
    -- it tells what is due
    have sc4 : Same (cut AA H) H4 := (cut_le AA H).trans S4
    refine ⟨.ref x, rfl, ?_⟩
    show spTold CO CP CC [.ref x] _ _ _
    refine told_in ra sc4 cm4 (fun H5 r5 s5 d5 => ?_)
    have S5 := S4.trans s5
    have kp : ∀ {Hx : Hp}, Same H2 Hx → DN H1 Hx (.ref r) (datOf AA H u1 u2 u3 bs) := fun {Hx} sx => d2.keep fun b o _ e => sx _ _ e
    have s25 := (s3.trans s4).trans s5
    have kt5 := kp s25
    refine ⟨.ref r, rfl, _, _, d5.dp, kt5.dp, d5.shaped, d5.shaped, false, congrArg V.bl (by rw [d5.eqv]; rfl), ?_⟩
    have ex5 := s5 _ _ cm4.ex
    have el5 := (s2.trans s25) _ _ el
    refine ⟨.ref x, rfl, x, dx, _, rfl, ex5, rfl, x, dx, _, .str y0, rfl, ex5, rfl, .ref x, rfl, x, dx, _, rfl, ex5, rfl, x, dx, _, .str y5, rfl, ex5, rfl, by show 2 ≤ sizeLine; decide, fun q1 m1 => ?_⟩
    have s6 := same_upd (o := .lst [.str y0, .str y5]) m1
    have f6 : (upd H5 q1 (.lst [.str y0, .str y5])) q1 = some (.lst [.str y0, .str y5]) := upd_same
    revert s6 f6
    generalize upd H5 q1 (.lst [.str y0, .str y5]) = H6
    intro s6 f6
    have el6 := s6 _ _ el5
    refine ⟨.ref l, rfl, l, _, 0, .str y0, rfl, rfl, SqL.of el6, rfl, .ref l, rfl, l, _, 5, .str y5, rfl, rfl, SqL.of el6, rfl, by show 2 ≤ sizeLine; decide, fun q2 m2 => ?_⟩
    have s7 := same_upd (o := .lst [.str y0, .str y5]) m2
    have f7 : (upd H6 q2 (.lst [.str y0, .str y5])) q2 = some (.lst [.str y0, .str y5]) := upd_same
    revert s7 f7
    generalize upd H6 q2 (.lst [.str y0, .str y5]) = H7
    intro s7 f7
    have af : AllFl [V.str y0, .str y5] := fun v hv => by
      simp only [List.mem_cons, List.not_mem_nil, or_false] at hv
      rcases hv with rfl | rfl
      · exact .str t0
      · exact .str t5
    refine ⟨_, _, .lst (SqL.of (s7 _ _ f6)) af.dp, .lst (SqL.of f7) af.dp, af.shL, af.shL, false, congrArg V.bl (by rw [eqv_lst af af, decide_eq_true rfl]; rfl), ?_⟩
    -- the same is due again
    have s27 := (s25.trans s6).trans s7
    have S7 := S2.trans s27
    refine ⟨.ref l, rfl, ?_⟩
    show spLists CO CP CC [.ref l] _ _ _
    refine lists_in ra S7 ((s2.trans s27) _ _ el) (fun H8 r8 s8 d8 => ?_)
    have s28 := s27.trans s8
    have kt8 := kp s28
    refine ⟨.ref r, rfl, _, _, d8.dp, kt8.dp, d8.shaped, d8.shaped, false, congrArg V.bl (by rw [d8.eqv]; rfl), ?_⟩
    have S8 := S2.trans s28
    -- what was told is changed
    refine ⟨.ref T, rfl, 1, rfl, 5, rfl, T, _, rfl, SqL.of (S8 _ _ tl.eT), fun sx nsx => ?_⟩
    rw [show cutV [v0, v1, v2, v3, v4, v5] (some 1) (some 5) = [v1, v2, v3, v4] from rfl]
    have s9 := same_upd (o := .lst [v1, v2, v3, v4]) nsx
    have esx : (upd H8 sx (.lst [v1, v2, v3, v4])) sx = some (.lst [v1, v2, v3, v4]) := upd_same
    revert s9 esx
    generalize upd H8 sx (.lst [v1, v2, v3, v4]) = H9
    intro s9 esx
    have S9 := S8.trans s9
    have nsxA : sx ∉ AA := fun h => by
      obtain ⟨xs, e⟩ := al sx h
      rw [S8 _ _ e] at nsx
      cases nsx
    refine ⟨sx, rfl, ⟨_, SqL.of esx⟩, ?_⟩
    refine for_list (K := K) (a := sx) (xs := [v1, v2, v3, v4]) (fun i σ Hc => (∀ b o, b ∉ AA → H9 b = some o → Hc b = some o) ∧ (∀ v ∈ [v1, v2, v3, v4], v = .non ∨ ∃ a m, v = .ref a ∧ Hc a = some (.lst (its H v ++ List.replicate m .non)) ∧ m ≤ i) ∧ (∀ g ∈ gs, ∃ ys, Hc g = some (.lst ys) ∧ ys.length ≤ 6 + 20 * i) ∧ ∃ x6 x7, σ = [some (.ref T), some (.int way), some (.ref l), some (.ref r), some (.ref x), some (.ref z), x6, x7])
      ⟨fun b o _ e => e, fun v hv => ?_, fun g hg => ?_, none, none, rfl⟩ (fun i σ Hc _ h => SqL.of (h.1 _ _ nsxA esx)) ?_ ?_
    · rcases tops.t v hv with h | ⟨a, h1, _, _, h2, _⟩
      · exact .inl h
      · exact .inr ⟨a, 0, h1, by rw [List.replicate_zero, List.append_nil]; exact S9 _ _ h2, Nat.le_refl _⟩
    · obtain ⟨_, ys, h1, h2⟩ := tops.g g hg
      exact ⟨ys, S9 _ _ h1, by omega⟩
    · rintro i v σ Hc hv ⟨c1, c2, c4, x6, x7, rfl⟩
      have hi : i < 4 := (List.getElem?_eq_some_iff.mp hv).1
      have hm := List.mem_of_getElem? hv
      refine ⟨v, rfl, rfl, _, rfl, ite2 (fun e => ?_) (fun e => ?_)⟩
      · have nn : v ≠ .non := fun h => by rw [h] at e; cases e
        rcases c2 v hm with h | ⟨a, m, rfl, ea, hm'⟩
        · exact absurd h nn
        rcases tops.t (.ref a) hm with h | ⟨a', h1, aA, ag, ea0, l12, hK⟩
        · cases h
        cases h1
        have lxs : (its H (.ref a) ++ List.replicate m V.non).length ≤ 16 := by
          rw [List.length_append, List.length_replicate]
          omega
        have memK : ∀ y ∈ its H (.ref a) ++ List.replicate m V.non, Kd CO CP CC AA H gs y ∨ y = .non := fun y hy => by
          rcases List.mem_append.mp hy with h | h
          · exact .inl (hK y h)
          · exact .inr (List.mem_replicate.mp h).2
        have eAdd : (its H (.ref a) ++ List.replicate m V.non) ++ [V.non] = its H (.ref a) ++ List.replicate (m + 1) V.non := by
          rw [List.append_assoc, List.replicate_succ']
        revert ea lxs memK eAdd
        generalize hys : its H (.ref a) ++ List.replicate m V.non = ys
        intro ea lxs memK eAdd
        refine ⟨.ref a, rfl, a, rfl, ⟨_, SqL.of ea⟩, ?_⟩
        refine for_list (K := K) (a := a) (xs := ys) (fun j σ Hd => (∀ b o, b ∉ AA → H9 b = some o → Hd b = some o) ∧ (∀ v ∈ [v1, v2, v3, v4], v = .non ∨ ∃ a m, v = .ref a ∧ Hd a = some (.lst (its H v ++ List.replicate m .non)) ∧ m ≤ i) ∧ (∀ g ∈ gs, ∃ zs, Hd g = some (.lst zs) ∧ zs.length ≤ 6 + 20 * i + j) ∧ Hd a = some (.lst ys) ∧ ∃ x7, σ = [some (.ref T), some (.int way), some (.ref l), some (.ref r), some (.ref x), some (.ref z), some (.ref a), x7])
          ⟨c1, c2, fun g hg => by obtain ⟨zs, h1, h2⟩ := c4 g hg; exact ⟨zs, h1, by omega⟩, ea, x7, rfl⟩ (fun j σ Hd _ h => SqL.of h.2.2.2.1) ?_ ?_
        · rintro j y σ Hd hy ⟨d1, d2', d3, d4, x7', rfl⟩
          have hj : j < ys.length := (List.getElem?_eq_some_iff.mp hy).1
          have next : ∀ {x7 : Option V}, (∀ b o, b ∉ AA → H9 b = some o → Hd b = some o) ∧ (∀ v ∈ [v1, v2, v3, v4], v = .non ∨ ∃ a m, v = .ref a ∧ Hd a = some (.lst (its H v ++ List.replicate m .non)) ∧ m ≤ i) ∧ (∀ g ∈ gs, ∃ zs, Hd g = some (.lst zs) ∧ zs.length ≤ 6 + 20 * i + (j + 1)) ∧ Hd a = some (.lst ys) ∧ ∃ x7', [some (.ref T), some (.int way), some (.ref l), some (.ref r), some (.ref x), some (.ref z), some (V.ref a), x7] = [some (.ref T), some (.int way), some (.ref l), some (.ref r), some (.ref x), some (.ref z), some (.ref a), x7'] := fun {x7} =>
            ⟨d1, d2', fun g hg => by obtain ⟨zs, h1, h2⟩ := d3 g hg; exact ⟨zs, h1, by omega⟩, d4, x7, rfl⟩
          rcases memK y (List.mem_of_getElem? hy) with (⟨b, C, dx', fs, rfl, eb, hC⟩ | ⟨g, hg, rfl⟩) | rfl
          · obtain ⟨nb, eb'⟩ := cut_some eb
            have ebd := d1 _ _ nb (S9 _ _ eb')
            obtain ⟨t, ht, _, hL, _⟩ := (Wf.ins (Cs := [CO, CP, CC]) ebd hC).ty c3
            rw [(isC_ins ebd C).2] at hL
            exact ⟨.ref b, rfl, .ref b, _, t, _, false, rfl, ClsV.ty "list", ht, hL, _, rfl, next⟩
          · obtain ⟨zs, ez, lz⟩ := d3 g hg
            have gA := (tops.g g hg).1
            have nga : g ≠ a := fun h => ag (by rw [← h]; exact hg)
            refine ⟨.ref g, rfl, .ref g, _, _, _, true, rfl, ClsV.ty "list", TyX.base (.lst ez), kit_ty (show kitB "list" "list" = some true from by decide +kernel), _, rfl, ?_⟩
            refine ⟨.ref g, rfl, Or.inl ⟨rfl, _, SqL.of ez⟩, g, zs, _, rfl, rfl, ez, by omega, fun b o nb e => ?_, fun v' hv' => ?_, fun g' hg' => ?_, ?_, _, rfl⟩
            · rw [upd_ne (fun h => nb (by rw [h]; exact gA))]
              exact d1 _ _ nb e
            · rcases d2' v' hv' with h | ⟨a', m', rfl, e', h'⟩
              · exact .inl h
              · rcases tops.t (.ref a') hv' with h | ⟨a'', h1, _, ag', _⟩
                · cases h
                cases h1
                exact .inr ⟨a', m', rfl, by rw [upd_ne (fun h => ag' (by rw [h]; exact hg))]; exact e', h'⟩
            · by_cases h : g' = g
              · rw [h]
                exact ⟨_, upd_same, by rw [List.length_append]; show _ + 1 ≤ _; omega⟩
              · obtain ⟨zs', h1, h2⟩ := d3 g' hg'
                exact ⟨zs', by rw [upd_ne h]; exact h1, by omega⟩
            · rw [upd_ne nga.symm]
              exact d4
          · exact ⟨.non, rfl, .non, _, _, _, false, rfl, ClsV.ty "list", TyX.base .non, kit_ty (show kitB "NoneType" "list" = some false from by decide +kernel), _, rfl, next⟩
        · rintro σ Hd ⟨d1, d2', d3, d4, x7', rfl⟩
          refine ⟨.ref a, rfl, Or.inl ⟨rfl, _, SqL.of d4⟩, a, ys, .non, rfl, rfl, d4, by omega, fun b o nb e => ?_, fun v' hv' => ?_, fun g hg => ?_, _, _, rfl⟩
          · rw [upd_ne (fun h => nb (by rw [h]; exact aA))]
            exact d1 _ _ nb e
          · rcases d2' v' hv' with h | ⟨a', m', rfl, e', h'⟩
            · exact .inl h
            · refine .inr ⟨a', ?_⟩
              by_cases h : a' = a
              · subst h
                rw [d4] at e'
                have e2 : ys = its H (.ref a') ++ List.replicate m' V.non := HO.lst.inj (Option.some.inj e')
                exact ⟨m' + 1, rfl, by rw [upd_same, e2, List.append_assoc, List.replicate_succ'], by omega⟩
              · exact ⟨m', rfl, by rw [upd_ne h]; exact e', by omega⟩
          · obtain ⟨zs, h1, h2⟩ := d3 g hg
            exact ⟨zs, by rw [upd_ne (fun h => ag (by rw [← h]; exact hg))]; exact h1, by omega⟩
      · exact ⟨c1, fun v' hv' => by
          rcases c2 v' hv' with h | ⟨a, m, h1, h2, h3⟩
          · exact .inl h
          · exact .inr ⟨a, m, h1, h2, by omega⟩, fun g hg => by obtain ⟨ys, h1, h2⟩ := c4 g hg; exact ⟨ys, h1, by omega⟩, _, _, rfl⟩
    · rintro σ Ha ⟨c1, _, _, x6, x7, rfl⟩
      have s49 := ((((s5.trans s6).trans s7).trans s8).trans s9)
      have kA : ∀ b o, b ∉ AA → H4 b = some o → Ha b = some o := fun b o nb e => c1 b o nb (s49 _ _ e)
      have al2 : ∀ a ∈ AA, ∃ xs, H2 a = some (.lst xs) := fun a ha => by obtain ⟨xs, e⟩ := al a ha; exact ⟨xs, S2 _ _ e⟩
      have al3 : ∀ a ∈ AA, ∃ xs, H3 a = some (.lst xs) := fun a ha => by obtain ⟨xs, e⟩ := al a ha; exact ⟨xs, S3 _ _ e⟩
      have cma := cm4.stay (Hb := Ha) al2 nx n1 n2 n3 n4 n5 kA
      have cza := cz4.stay (Hb := Ha) al3 nz k1 k2 k3 k4 k5 kA
      have sca : Same (cut AA H) Ha := fun b o e => by
        obtain ⟨nb, e'⟩ := cut_some e
        exact c1 b o nb (S9 _ _ e')
      have kta : DN H1 Ha (.ref r) (datOf AA H u1 u2 u3 bs) := d2.keep fun b o nb e => c1 b o (fun h => by
        obtain ⟨xs, ex⟩ := al b h
        rw [s1 _ _ ex] at nb
        cases nb) ((s28.trans s9) _ _ e)
      refine ⟨.ref x, rfl, ?_⟩
      show spTold CO CP CC [.ref x] _ _ _
      refine told_in ra sca cma (fun Hb rb sb db => ?_)
      have ktb := kta.keep (H' := Hb) fun b o _ e => sb _ _ e
      refine ⟨.ref r, rfl, _, _, db.dp, ktb.dp, db.shaped, db.shaped, _, rfl, ?_⟩
      rw [db.eqv]
      refine ⟨.ref x, rfl, .ref r, rfl, ?_⟩
      show spStays CO CP CC [.ref x, .ref r] _ _ _
      refine stays_in ra (sca.trans sb) (cma.same sb) ktb (fun Hc sc => ⟨_, rfl, ?_⟩)
      have sbc := sb.trans sc
      refine ⟨.ref z, rfl, ?_⟩
      show spTold CO CP CC [.ref z] _ _ _
      refine told_in ra (sca.trans sbc) (cza.same sbc) (fun Hd rd sd dd => ?_)
      have sbd := sbc.trans sd
      have ktd := kta.keep (H' := Hd) fun b o _ e => sbd _ _ e
      refine ⟨.ref r, rfl, _, _, dd.dp, ktd.dp, dd.shaped, dd.shaped, ?_⟩
      rw [dd.eqv]
      exact q _ (fun b o nb e => sbd _ _ (c1 b o nb (S9 _ _ e)))
end
end WB

set_option Elab.async false
set_option linter.all false
set_option maxRecDepth 100000
set_option maxHeartbeats 4000000
namespace WB
open PySem PySem.Spec PyProof.Rows L2 WG
open TL (tl)
abbrev st_law : Stmt := topS 68
theorem sc_law : FnScope ["_law_script", "_law_k", "_law_pot_here", "_law_told_here", "_law_turn", "_law_at", "_law_way", "_law_wrong_here"] ["_law_script"] (defScope st_law) := ⟨rfl, rfl, rfl, by decide +kernel, rfl, by decide +kernel, by decide +kernel⟩
theorem six {us : List V} (h : us.length = 6) : ∃ v0 v1 v2 v3 v4 v5, us = [v0, v1, v2, v3, v4, v5] := by
  match us, h with
  | [v0, v1, v2, v3, v4, v5], _ => exact ⟨_, _, _, _, _, _, rfl⟩
section
variable {P : Program} {w : World} {K : PySem.W.Frag} {mg : Str → Option Value} {base : Heap}
def spLaw (K : PySem.W.Frag) : Sp := fun vs H Q _ => ∃ (a : Addr) (ns : List Int), vs = [.ref a] ∧ SqL K H a (ns.map V.int) ∧ ns.length ≤ 63 ∧ ∀ H', Q (.bl true) H'
theorem ok_law {CO CP CC f fP fT fGo fSp fWr fDu fRe fRi : Addr} {fd fdP fdT fdGo fdSp fdWr fdDu fdRe fdRi : FuncData} {k : Nat} (F : Fun K "law" "law" st_law f fd)
    (D_pot : Df K mg "_law_pot" sPot ["_law_script", "_law_k"] fP fdP) (D_take : Df K mg "_law_take" sTake ["_law_pot_here", "_law_room"] fT fdT) (D_good : Df K mg "_law_good" st_good ["_law_pot_here"] fGo fdGo) (D_spoilt : Df K mg "_law_spoilt" st_spoilt ["_law_pot_here", "_law_told_here", "_law_at"] fSp fdSp)
    (D_wrong : Df K mg "_law_wrong" st_wrong ["_law_told_here"] fWr fdWr) (D_due : Df K mg "_law_due" st_due ["_law_told_here", "_law_way"] fDu fdDu) (D_refused : Df K mg "_law_refused" st_refused ["_law_told_here", "_law_way"] fRe fdRe) (D_right : Df K mg "_law_right" st_right ["_law_told_here", "_law_way"] fRi fdRi)
    (G_pot : FnOk P w K mg base CX0 k fP fdP ["_law_script", "_law_k"] (spPot K)) (G_take : FnOk P w K mg base CX0 k fT fdT ["_law_pot_here", "_law_room"] spTake) (G_good : FnOk P w K mg base CX0 k fGo fdGo ["_law_pot_here"] (spGood CO CP CC)) (G_spoilt : FnOk P w K mg base CX0 k fSp fdSp ["_law_pot_here", "_law_told_here", "_law_at"] (spSpoilt CO CP CC))
    (G_wrong : FnOk P w K mg base CX0 k fWr fdWr ["_law_told_here"] (spWrong CO CP CC)) (G_due : FnOk P w K mg base CX0 k fDu fdDu ["_law_told_here", "_law_way"] spDue) (G_refused : FnOk P w K mg base CX0 k fRe fdRe ["_law_told_here", "_law_way"] (spRefused CO CP CC)) (G_right : GOk P w K mg base CX0 k fRi fdRi ["_law_told_here", "_law_way"] (spRightC CO CP CC))
    (m_len : mg "len" = none) (m_max : mg "max" = none) (m_min : mg "min" = none) (m_range : mg "range" = none) :
    GOk P w K mg base CX0 (k + 1) f fd ["_law_script"] (spLaw K) := by
  refine gfun_ok F sc_law (fun vs H Q E h => ?_) (fun cdv A outer s H vs Q E hgd hr h => ?_)
  · obtain ⟨a, ns, rfl, _⟩ := h
    rfl
  · obtain ⟨a, ns, rfl, hS, hlen, q⟩ := h
    refine ⟨_, PSs.nox (pss_cons (ps_for PassesOwn.never rfl (pi_range1 rfl m_range (pa_cons (pe_callB (call_max2 rfl) (by rfl) m_max (by decide +kernel) (pa_cons pe_int (pa_cons (pe_callB (call_min2 rfl) (by rfl) m_min (by decide +kernel) (pa_cons (pe_callB call_len_seq (by rfl) m_len PySem.boot_len (pa_cons (pv 0) pa_nil)) (pa_cons pe_int pa_nil))) pa_nil))) pa_nil)) (pg_name (i := 1) sc_law.nd rfl (Or.inl rfl)) (pss_cons (ps_set (i := 2) sc_law.nd rfl (.inl rfl) (pe_call G_pot hr (by rfl) D_pot.g D_pot.F.kp D_pot.b .nil pass0 (pa_cons (pv 0) (pa_cons (pv 1) pa_nil))))
      (pss_cons (ps_set (i := 3) sc_law.nd rfl (.inl rfl) (pe_call G_good hr (by rfl) D_good.g D_good.F.kp D_good.b .nil pass0 (pa_cons (pv 2) pa_nil)))
      (pss_cons (ps_for PassesOwn.never rfl (pi_range1 rfl m_range (pa_cons (pe_call G_take hr (by rfl) D_take.g D_take.F.kp D_take.b .nil pass0 (pa_cons (pv 2) (pa_cons pe_int pa_nil))) pa_nil)) (pg_name (i := 4) sc_law.nd rfl (Or.inl rfl)) (pss_cons (ps_set (i := 5) sc_law.nd rfl (.inl rfl) (pe_call G_take hr (by rfl) D_take.g D_take.F.kp D_take.b .nil pass0 (pa_cons (pv 2) (pa_cons pe_int pa_nil))))
      (pss_one (ps_asg (pe_call G_spoilt hr (by rfl) D_spoilt.g D_spoilt.F.kp D_spoilt.b .nil pass0 (pa_cons (pv 2) (pa_cons (pv 3) (pa_cons (pv 5) pa_nil)))) (pg_sub (pv 3) (pv 5) set_list)))))
      (pss_cons (ps_set (i := 6) sc_law.nd rfl (.inl rfl) (pe_call G_take hr (by rfl) D_take.g D_take.F.kp D_take.b .nil pass0 (pa_cons (pv 2) (pa_cons pe_int pa_nil))))
      (pss_cons (ps_set (i := 7) sc_law.nd rfl (.inl rfl) (pe_call G_wrong hr (by rfl) D_wrong.g D_wrong.F.kp D_wrong.b .nil pass0 (pa_cons (pe_call G_due hr (by rfl) D_due.g D_due.F.kp D_due.b .nil pass0 (pa_cons (pv 3) (pa_cons (pv 6) pa_nil))) pa_nil)))
      (pss_one (ps_if (PW.pt (pw_or (pt_cmpR op_ne (pv 7) pe_str (nomark _)) (pw_or1 (pt_cmpR op_ne (pe_call G_wrong hr (by rfl) D_wrong.g D_wrong.F.kp D_wrong.b .nil pass0 (pa_cons (pv 3) pa_nil)) pe_str (nomark _))))) (pss_one (ps_if (pt_cmpR op_ne (pe_call G_refused hr (by rfl) D_refused.g D_refused.F.kp D_refused.b .nil pass0 (pa_cons (pv 3) (pa_cons (pv 6) pa_nil))) (pv 7) (nomark _)) (pss_one (ps_ret pe_bl)) pss_nil)) (pss_one (ps_if (pt_not (pt_val (pe_callG G_right hgd hr (by rfl) D_right.g D_right.F.kp D_right.b pass0 (pa_cons (pv 3) (pa_cons (pv 6) pa_nil))))) (pss_one (ps_ret pe_bl)) pss_nil))))))))))
      (pss_one (ps_ret pe_bl))), ?_⟩
    refine ⟨.ref a, rfl, a, _, rfl, .inl hS, _, 16, rfl, 1, _, rfl, _, rfl, ?_, ?_, for_range (lo := 0) (n := _) (fun i σ H' => Same H H' ∧ ∃ x1 x2 x3 x4 x5 x6 x7, σ = [some (.ref a), x1, x2, x3, x4, x5, x6, x7])
      ⟨Same.refl _, none, none, none, none, none, none, none, rfl⟩ ?_ ?_⟩
    · split <;> split <;> omega
    · split <;> split <;> omega
    · rintro i σ H0 hi ⟨sm, x1, x2, x3, x4, x5, x6, x7, rfl⟩
      have hi63 : i < 63 := by
        revert hi
        split <;> split <;> intro hi <;> omega
      refine ⟨.ref a, rfl, .int (0 + (i : Int)), rfl, a, ns, _, rfl, sm.seq hS, by omega, by omega, fun H1 p s1 np p1 => ?_⟩
      refine ⟨.ref p, rfl, p, rfl, p1, fun H2 T A2 us2 b2 tl2 => ?_⟩
      refine ⟨.ref p, rfl, p, 3, rfl, tl2.pt, by decide, by decide, fun H3 d3 b3 p3 d30 d31 => ?_⟩
      have tl3 := tl2.keep b3 p3
      have B3 := b2.trans b3
      refine ⟨d3, rfl, by omega, by omega, for_range (lo := 0) (n := d3.toNat) (fun j σ Hc => But p H1 Hc ∧ (∃ A n us, Tl CO CP CC H1 Hc p T A n us ∧ (j = 0 → n ≤ 12) ∧ (j ≤ 1 → n ≤ 44)) ∧ ∃ y4 y5, σ = [some (.ref a), some (.int (0 + (i : Int))), some (.ref p), some (.ref T), y4, y5, x6, x7]) ⟨B3, ⟨A2, 12, us2, tl3, fun _ => Nat.le_refl _, fun _ => by decide⟩, x4, x5, rfl⟩ ?_ ?_⟩
      · rintro j σ Hc hj ⟨bc, ⟨Ac, n, us, tl, hn0, hn1⟩, y4, y5, rfl⟩
        refine ⟨.ref p, rfl, p, 6, rfl, tl.pt, by decide, by decide, fun Hd dd bd pd dd0 dd1 => ?_⟩
        obtain ⟨at_, rfl⟩ := Int.eq_ofNat_of_zero_le dd0
        have at6 : at_ < 6 := by omega
        have tld := tl.keep bd pd
        have Bd := bc.trans bd
        obtain ⟨v, hv⟩ : ∃ v, us[at_]? = some v := ⟨_, List.getElem?_eq_getElem (by rw [tl.len]; exact at6)⟩
        have n44 : n ≤ 44 := hn1 (by omega)
        refine ⟨.ref p, rfl, .ref T, rfl, .int at_, rfl, p, T, at_, us, v, Ac, n, rfl, at6, pd, tl.ne, tld.eT, hv, fun b hb => (tld.al b hb).2, fun h0 h5 => tld.ti at_ v hv h0 h5, by omega, fun He r A' be pe u nw al rt ri => ?_⟩
        refine ⟨.ref T, rfl, .int at_, rfl, T, us, _, at_, rfl, rfl, be _ _ tl.ne tld.eT, by rw [tl.len]; unfold ixN; rw [if_pos (by omega), if_pos (by omega)]; congr 1, ?_⟩
        have tl' := tld.put (n' := 2 * n + 20) Bd be pe u nw al (by omega) rt ri
        refine ⟨fun b o nb e => ?_, ⟨A', _, _, tl', fun z => by omega, fun z => ?_⟩, _, _, rfl⟩
        · rw [upd_ne (fun z => by rw [z, tl.nT] at e; cases e)]
          exact (Bd.trans be) _ _ nb e
        · have := hn0 (by omega)
          omega
      · rintro σ H4 ⟨B4, ⟨AA, n, us, tl, _, _⟩, y4, y5, rfl⟩
        refine ⟨.ref p, rfl, p, 4, rfl, tl.pt, by decide, by decide, fun H5 way b5 p5 w0 w1 => ?_⟩
        have tl5 := tl.keep b5 p5
        have B5 := B4.trans b5
        obtain ⟨v0, v1, v2, v3, v4, v5, rfl⟩ := six tl.len
        have sG : Same (cut [p, T] H5) H5 := cut_le _ _
        have args : Args [CO, CP, CC] H5 v0 v1 v2 v3 v4 v5 := ⟨(tl5.th 0 v0 rfl (.inl rfl)).same sG, (tl5.ti 1 v1 rfl (by decide) (by decide)).1.w.same sG, (tl5.ti 2 v2 rfl (by decide) (by decide)).1.w.same sG, (tl5.ti 3 v3 rfl (by decide) (by decide)).1.w.same sG, (tl5.ti 4 v4 rfl (by decide) (by decide)).1.w.same sG, (tl5.th 5 v5 rfl (.inr rfl)).same sG⟩
        obtain ⟨u0, u1, u2, u3, u4, u5, eu⟩ := due_six way v0 v1 v2 v3 v4 v5
        obtain ⟨i0, i1, i2, i3, i4, i5⟩ := due_ti (tl5.th 0 v0 rfl (.inl rfl)) (tl5.ti 1 v1 rfl (by decide) (by decide)).1 (tl5.ti 2 v2 rfl (by decide) (by decide)).1 (tl5.ti 3 v3 rfl (by decide) (by decide)).1 (tl5.ti 4 v4 rfl (by decide) (by decide)).1 (tl5.th 5 v5 rfl (.inr rfl)) eu
        have argu : Args [CO, CP, CC] H5 u0 u1 u2 u3 u4 u5 := ⟨i0.same sG, i1.w.same sG, i2.w.same sG, i3.w.same sG, i4.w.same sG, i5.same sG⟩
        refine ⟨.ref T, rfl, .int way, rfl, T, way, v0, v1, v2, v3, v4, v5, rfl, tl5.eT, fun H6 l s6 nl el => ?_⟩
        rw [eu] at el
        refine ⟨l, u0, u1, u2, u3, u4, u5, rfl, el, argu.same s6, fun H7 s7 => ?_⟩
        rw [wrongC_same argu s6]
        have S7 := s6.trans s7
        -- what follows, where the rest of the heap stays
        have fin : ∀ {Hx : Hp}, (∀ b o, b ∉ AA → H5 b = some o → Hx b = some o) → Same H Hx := fun {Hx} h b o e => by
          have e0 := sm _ _ e
          have e1 := s1 _ _ e0
          have nb : b ≠ p := ne_of_none e0 np
          refine h b o (fun hb => ?_) (B5 _ _ nb e1)
          rw [(tl5.al b hb).1] at e1
          cases e1
        have refd : ∀ {Hx : Hp}, Same H5 Hx → wrongL CO CP CC Hx (dueC way v0 v1 v2 v3 v4 v5) = wrongC CO CP CC H5 u0 u1 u2 u3 u4 u5 := fun {Hx} sx => by
          rw [eu]
          exact wrongC_same argu sx
        refine ⟨_, rfl, rfl, _, rfl, ite2 (fun e => ?_) (fun e => ?_)⟩
        · refine ⟨.ref T, rfl, .int way, rfl, T, way, v0, v1, v2, v3, v4, v5, rfl, S7 _ _ tl5.eT, args.same S7, fun H8 s8 => ?_⟩
          rw [refd S7]
          refine ⟨_, rfl, rfl, false, congrArg V.bl (by rw [decide_eq_true rfl]; rfl), ?_⟩
          exact ⟨fin fun b o _ e => s8 _ _ (S7 _ _ e), _, _, _, _, _, _, _, rfl⟩
        have hW : wrongC CO CP CC H5 u0 u1 u2 u3 u4 u5 = Str.ofString "" := by
          by_cases z : V.str (wrongC CO CP CC H5 u0 u1 u2 u3 u4 u5) = V.str (Str.ofString "")
          · exact V.str.inj z
          · exact absurd (by rw [decide_eq_false z]; rfl) e
        refine ⟨.ref T, rfl, T, v0, v1, v2, v3, v4, v5, rfl, S7 _ _ tl5.eT, args.same S7, fun H8 s8 => ?_⟩
        have S8 := S7.trans s8
        refine ⟨rfl, _, rfl, ite2 (fun e' => ?_) (fun e' => ?_)⟩
        · refine ⟨.ref T, rfl, .int way, rfl, T, way, v0, v1, v2, v3, v4, v5, rfl, S8 _ _ tl5.eT, args.same S8, fun H9 s9 => ?_⟩
          rw [refd S8]
          refine ⟨_, rfl, rfl, false, congrArg V.bl (by rw [decide_eq_true rfl]; rfl), ?_⟩
          exact ⟨fin fun b o _ e => s9 _ _ (S8 _ _ e), _, _, _, _, _, _, _, rfl⟩
        have hT : wrongC CO CP CC H7 v0 v1 v2 v3 v4 v5 = Str.ofString "" := by
          by_cases z : V.str (wrongC CO CP CC H7 v0 v1 v2 v3 v4 v5) = V.str (Str.ofString "")
          · exact V.str.inj z
          · exact absurd (by rw [decide_eq_false z]; rfl) e'
        have tl8 := tl5.keep (But.of_same S8) (p5.same S8)
        refine ⟨.ref T, rfl, .int way, rfl, H1, p, T, AA, n, way, v0, v1, v2, v3, v4, v5, rfl, tl8, (wrongC_same (args.same S7) s8).trans hT, (refd S8).trans hW, fun H9 k9 => ⟨_, rfl, ?_⟩⟩
        exact ⟨fin fun b o nb e => k9 b o nb (S8 _ _ e), _, _, _, _, _, _, _, rfl⟩
    · rintro σ H3 ⟨sm, x1, x2, x3, x4, x5, x6, x7, rfl⟩
      exact q _
end
end WB

set_option Elab.async false
set_option linter.all false
set_option maxRecDepth 100000
set_option maxHeartbeats 4000000
namespace WB
open PySem PySem.Spec PyProof.Rows L2 WG
open TL (tl)
theorem df_mk {K : PySem.W.Frag} {h : Heap} {mg : Str → Option Value} {x : Str} {st : Stmt} {ps : List Str} {f : Addr} {oc : Value} {od an : Option Addr} {osl : Array (Option Value)} {kV doc pm cdv ct : Value} (X : K.In h) (G : h.Ns mainGlobals mg)
    (a : PySem.W.nsIn K mainGlobals x = some (some (.ref f))) (l : K.lookup f = some ⟨oc, od, .func (PySem.W.fnOf x x (defArgs st) (defBody st) (defScope st) .none kV doc pm an cdv ct), osl⟩)
    (c : PySem.W.codeIn K cdv x = true) (k : PySem.W.keepIn K (.ref f) = true)
    (b : ∀ (kV doc pm : Value) (an : Option Addr) (cdv ct : Value) (us : List Value), us.length = ps.length → bindArgs (PySem.W.fnOf x x (defArgs st) (defBody st) (defScope st) .none kV doc pm an cdv ct) ⟨us, []⟩ = pure (ps.zip us)) :
    Df K mg x st ps f (PySem.W.fnOf x x (defArgs st) (defBody st) (defScope st) .none kV doc pm an cdv ct) := by
  have F := fun_mk (st := st) l c k
  exact ⟨F, F.binds b, PySem.W.mg_of X G a⟩
theorem kit_no {K : PySem.W.Frag} {t : Value} {b : Addr} (h1 : PySem.W.hasDictIn K b = true) (h2 : PySem.W.typeIn K (.ref b) = some (.type "type")) (h3 : PySem.W.subIn K t (.ref b) = some false) (h4 : PySem.W.subIn K (.ref b) (.ref b) = some true) : PySem.W.kitOne K t (.ref b) = some false := by
  obtain ⟨cd, hc, _⟩ := PySem.W.any_some h1
  unfold PySem.W.kitOne
  split
  · rename_i e
    rw [beq_iff_eq.mp e, h4] at h3
    cases h3
  · unfold PySem.W.kitCls
    dsimp only
    have e : ((PySem.W.clsIn K b).isSome && PySem.W.typeIn K (.ref b) == some (.type "type")) = true := by rw [hc, h2] <;> rfl
    rw [if_pos e]
    exact h3
theorem kit_sub {K : PySem.W.Frag} {a b : Addr} (h1 : PySem.W.hasDictIn K b = true) (h2 : PySem.W.typeIn K (.ref b) = some (.type "type")) (h3 : PySem.W.subIn K (.ref a) (.ref b) = some true) : PySem.W.kitOne K (.ref a) (.ref b) = some true := by
  obtain ⟨cd, hc, _⟩ := PySem.W.any_some h1
  unfold PySem.W.kitOne
  split
  · rfl
  · unfold PySem.W.kitCls
    dsimp only
    have e : ((PySem.W.clsIn K b).isSome && PySem.W.typeIn K (.ref b) == some (.type "type")) = true := by rw [hc, h2] <;> rfl
    rw [if_pos e]
    exact h3
theorem kit_subT {K : PySem.W.Frag} {a : Addr} {T : String} {b : Bool} (hm : PySem.W.kitMeta T = true) (h : PySem.W.subIn K (.ref a) (.type T) = some b) : PySem.W.kitOne K (.ref a) (.type T) = some b := by
  unfold PySem.W.kitOne
  rw [if_neg (by intro z; cases z)]
  unfold PySem.W.kitCls
  dsimp only
  rw [if_pos hm]
  exact h
theorem kit_self {K : PySem.W.Frag} {a : Addr} : PySem.W.kitOne K (.ref a) (.ref a) = some true := by
  unfold PySem.W.kitOne
  rw [if_pos (beq_self_eq_true _)]
theorem kit_apart {K : PySem.W.Frag} {a b : Addr} (h : PySem.W.kitOne K (.ref a) (.ref b) = some false) : a ≠ b := fun e => by
  rw [e, kit_self] at h
  cases h
theorem kit_dec {K : PySem.W.Frag} {a b : Addr} (h : PySem.W.kitOne K (.ref a) (.ref b) = some false) : PySem.W.kitOne K (.ref a) (.ref b) = some (decide (a = b)) := by
  rw [h, decide_eq_false (kit_apart h)]
theorem kit_dec1 {K : PySem.W.Frag} {a : Addr} : PySem.W.kitOne K (.ref a) (.ref a) = some (decide (a = a)) := by
  rw [kit_self, decide_eq_true rfl]
theorem all_T {Q : String → Prop} (h0 : Q "NoneType") (h1 : Q "bool") (h2 : Q "int") (h3 : Q "str") (h4 : Q "list") (h5 : Q "tuple") (h6 : Q "dict") : ∀ T ∈ allT, Q T := by
  intro T hT
  unfold allT at hT
  simp only [List.mem_cons, List.not_mem_nil, or_false] at hT
  rcases hT with rfl | rfl | rfl | rfl | rfl | rfl | rfl
  · exact h0
  · exact h1
  · exact h2
  · exact h3
  · exact h4
  · exact h5
  · exact h6
theorem all_3 {Q : Addr → Prop} {a b c : Addr} (h0 : Q a) (h1 : Q b) (h2 : Q c) : ∀ x ∈ [a, b, c], Q x := by
  intro x hx
  simp only [List.mem_cons, List.not_mem_nil, or_false] at hx
  rcases hx with rfl | rfl | rfl
  · exact h0
  · exact h1
  · exact h2
def pick {α : Type} (l : List α) (i : Nat) : List α := (l[i]?).toList
theorem pick_vals {vs : List V} {us : List Value} (h : Vals vs us) (i : Nat) : Vals (pick vs i) (pick us i) := by
  unfold pick
  have hl := h.length
  by_cases hi : i < vs.length
  · have hi2 : i < us.length := by omega
    obtain ⟨u, hu, r⟩ := h.get (List.getElem?_eq_getElem hi)
    rw [List.getElem?_eq_getElem hi, hu]
    exact .cons r .nil
  · rw [List.getElem?_eq_none (by omega), List.getElem?_eq_none (by omega)]
    exact .nil
def putO {α : Type} (us its ws : List α) : List α := us ++ (pick its 0 ++ (pick its 1 ++ (pick its 2 ++ (pick its 3 ++ (pick its 4 ++ (pick its 5 ++ pick ws 0))))))
def putP {α : Type} (us its ws : List α) : List α := us ++ (pick ws 0 ++ (pick its 1 ++ (pick its 2 ++ pick its 3)))
def putC {α : Type} (us its ws : List α) : List α := us ++ (pick its 1 ++ (pick its 2 ++ (pick its 3 ++ pick ws 0)))
def putC2 {α : Type} (us its ws : List α) : List α := us ++ (pick its 0 ++ (pick its 1 ++ (pick ws 0 ++ (pick ws 1 ++ pick its 4))))
def putC6 {α : Type} (us its ws : List α) : List α := us ++ (pick ws 5 ++ (pick ws 4 ++ (pick ws 3 ++ (pick ws 2 ++ (pick ws 1 ++ pick ws 0)))))
abbrev optPs : List Str := ["self", "long", "short", "takes", "maker", "default", "needed", "off", "about"]
abbrev plcPs : List Str := ["self", "name", "many", "maker", "default", "about"]
section
variable {K : PySem.W.Frag} {f : Addr} {fd : FuncData}
abbrev InitO (K : PySem.W.Frag) (f : Addr) (fd : FuncData) : Prop := FunD K "__init__" "Option.__init__" (defArgs st_init) (defBody st_init) (defScope st_init) dvO [] f fd
theorem initO_b1 (F : InitO K f fd) : ∃ ds, Vals dvO ds ∧ Binds K fd optPs ds :=
  F.binds1 (ps := optPs) 2 0 (by simp) rfl (fun T kV doc pm an cdv ct us its h1 h2 => match us, its, h1, h2 with | [_, _], [_, _, _, _, _, _, _], _, _ => ⟨_, rfl, rfl⟩)
theorem initO_k (F : InitO K f fd) : ∃ its : List Value, KBn K fd optPs 2 ["about"] (fun us ws => putO us its ws) (fun vs zs => putO vs dvO zs) :=
  F.kbindsD (ps := optPs) 2 ["about"] (fun us its ws => putO us its ws) (by simp) (fun h1 h2 h3 => h1.append ((pick_vals h2 0).append ((pick_vals h2 1).append ((pick_vals h2 2).append ((pick_vals h2 3).append ((pick_vals h2 4).append ((pick_vals h2 5).append (pick_vals h3 0))))))))
    (fun T kV doc pm an cdv ct us its ws h1 h2 h3 => match us, its, ws, h1, h2, h3 with | [_, _], [_, _, _, _, _, _, _], [_], _, _, _ => ⟨_, rfl, rfl⟩)
abbrev InitP (K : PySem.W.Frag) (f : Addr) (fd : FuncData) : Prop := FunD K "__init__" "Place.__init__" (defArgs WP.st_init) (defBody WP.st_init) (defScope WP.st_init) dvP [] f fd
theorem initP_b1 (F : InitP K f fd) : ∃ ds, Vals dvP ds ∧ Binds K fd plcPs ds :=
  F.binds1 (ps := plcPs) 2 0 (by simp) rfl (fun T kV doc pm an cdv ct us its h1 h2 => match us, its, h1, h2 with | [_, _], [_, _, _, _], _, _ => ⟨_, rfl, rfl⟩)
theorem initP_k (F : InitP K f fd) : ∃ its : List Value, KBn K fd plcPs 2 ["many"] (fun us ws => putP us its ws) (fun vs zs => putP vs dvP zs) :=
  F.kbindsD (ps := plcPs) 2 ["many"] (fun us its ws => putP us its ws) (by simp) (fun h1 h2 h3 => h1.append ((pick_vals h3 0).append ((pick_vals h2 1).append ((pick_vals h2 2).append (pick_vals h2 3)))))
    (fun T kV doc pm an cdv ct us its ws h1 h2 h3 => match us, its, ws, h1, h2, h3 with | [_, _], [_, _, _, _], [_], _, _, _ => ⟨_, rfl, rfl⟩)
abbrev InitC (K : PySem.W.Frag) (f : Addr) (fd : FuncData) : Prop := FunD K "__init__" "Command.__init__" (defArgs st_Command_init) (defBody st_Command_init) (defScope st_Command_init) dvC [] f fd
theorem initC_b1 (F : InitC K f fd) : ∃ ds, Vals dvC ds ∧ Binds K fd cmdPs ds :=
  F.binds1 (ps := cmdPs) 2 0 (by simp) rfl (fun T kV doc pm an cdv ct us its h1 h2 => match us, its, h1, h2 with | [_, _], [_, _, _, _, _], _, _ => ⟨_, rfl, rfl⟩)
theorem initC_b4 (F : InitC K f fd) : ∃ ds, Vals [.non, .non, .str (Str.ofString "")] ds ∧ Binds K fd cmdPs ds :=
  F.binds1 (ps := cmdPs) 4 2 (by simp) rfl (fun T kV doc pm an cdv ct us its h1 h2 => match us, its, h1, h2 with | [_, _, _, _], [_, _, _, _, _], _, _ => ⟨_, rfl, rfl⟩)
theorem initC_b7 (F : InitC K f fd) : Binds K fd cmdPs [] := by
  obtain ⟨ds, hv, b⟩ := F.binds1 (ps := cmdPs) 7 5 (by simp) rfl (fun T kV doc pm an cdv ct us its h1 h2 => match us, its, h1, h2 with | [_, _, _, _, _, _, _], [_, _, _, _, _], _, _ => ⟨_, rfl, rfl⟩)
  cases hv
  exact b
theorem initC_k (F : InitC K f fd) : ∃ its : List Value, KBn K fd cmdPs 3 ["about"] (fun us ws => putC us its ws) (fun vs zs => putC vs dvC zs) :=
  F.kbindsD (ps := cmdPs) 3 ["about"] (fun us its ws => putC us its ws) (by simp) (fun h1 h2 h3 => h1.append ((pick_vals h2 1).append ((pick_vals h2 2).append ((pick_vals h2 3).append (pick_vals h3 0)))))
    (fun T kV doc pm an cdv ct us its ws h1 h2 h3 => match us, its, ws, h1, h2, h3 with | [_, _, _], [_, _, _, _, _], [_], _, _, _ => ⟨_, rfl, rfl⟩)
theorem initC_k2 (F : InitC K f fd) : ∃ its : List Value, KBn K fd cmdPs 2 ["groups", "commands"] (fun us ws => putC2 us its ws) (fun vs zs => putC2 vs dvC zs) :=
  F.kbindsD (ps := cmdPs) 2 ["groups", "commands"] (fun us its ws => putC2 us its ws) (by simp) (fun h1 h2 h3 => h1.append ((pick_vals h2 0).append ((pick_vals h2 1).append ((pick_vals h3 0).append ((pick_vals h3 1).append (pick_vals h2 4))))))
    (fun T kV doc pm an cdv ct us its ws h1 h2 h3 => match us, its, ws, h1, h2, h3 with | [_, _], [_, _, _, _, _], [_, _], _, _, _ => ⟨_, rfl, rfl⟩)
theorem initC_k6 (F : InitC K f fd) : ∃ its : List Value, KBn K fd cmdPs 1 ["about", "commands", "groups", "places", "options", "name"] (fun us ws => putC6 us its ws) (fun vs zs => putC6 vs dvC zs) :=
  F.kbindsD (ps := cmdPs) 1 ["about", "commands", "groups", "places", "options", "name"] (fun us its ws => putC6 us its ws) (by simp) (fun h1 h2 h3 => h1.append ((pick_vals h3 5).append ((pick_vals h3 4).append ((pick_vals h3 3).append ((pick_vals h3 2).append ((pick_vals h3 1).append (pick_vals h3 0)))))))
    (fun T kV doc pm an cdv ct us its ws h1 h2 h3 => match us, its, ws, h1, h2, h3 with | [_], [_, _, _, _, _], [_, _, _, _, _, _], _, _, _ => ⟨_, rfl, rfl⟩)
end
theorem all_mk {l : PySem.W.OpenLaw} {w : World} {K : PySem.W.Frag} {h : Heap} {mg : Str → Option Value} {fa : Addr} (X : K.In h) (G : h.Ns mainGlobals mg) (hfa : mg "law" = some (.ref fa))
    {fWithin : Addr} {odWithin anWithin : Option Addr} {slWithin : Array (Option Value)} {ocWithin kVWithin dcWithin pmWithin cdWithin ctWithin : Value} {fIsName : Addr} {odIsName anIsName : Option Addr} {slIsName : Array (Option Value)} {ocIsName kVIsName dcIsName pmIsName cdIsName ctIsName : Value} {fIsAbout : Addr} {odIsAbout anIsAbout : Option Addr} {slIsAbout : Array (Option Value)} {ocIsAbout kVIsAbout dcIsAbout pmIsAbout cdIsAbout ctIsAbout : Value} {fIsAmong : Addr} {odIsAmong anIsAmong : Option Addr} {slIsAmong : Array (Option Value)} {ocIsAmong kVIsAmong dcIsAmong pmIsAmong cdIsAmong ctIsAmong : Value} {fIsDefault : Addr} {odIsDefault anIsDefault : Option Addr} {slIsDefault : Array (Option Value)} {ocIsDefault kVIsDefault dcIsDefault pmIsDefault cdIsDefault ctIsDefault : Value} {fIsShort : Addr} {odIsShort anIsShort : Option Addr} {slIsShort : Array (Option Value)} {ocIsShort kVIsShort dcIsShort pmIsShort cdIsShort ctIsShort : Value} {fIsTruth : Addr} {odIsTruth anIsTruth : Option Addr} {slIsTruth : Array (Option Value)} {ocIsTruth kVIsTruth dcIsTruth pmIsTruth cdIsTruth ctIsTruth : Value} {fComma : Addr} {odComma anComma : Option Addr} {slComma : Array (Option Value)} {ocComma kVComma dcComma pmComma cdComma ctComma : Value} {fLWithin : Addr} {odLWithin anLWithin : Option Addr} {slLWithin : Array (Option Value)} {ocLWithin kVLWithin dcLWithin pmLWithin cdLWithin ctLWithin : Value} {fAreO : Addr} {odAreO anAreO : Option Addr} {slAreO : Array (Option Value)} {ocAreO kVAreO dcAreO pmAreO cdAreO ctAreO : Value} {fAreP : Addr} {odAreP anAreP : Option Addr} {slAreP : Array (Option Value)} {ocAreP kVAreP dcAreP pmAreP cdAreP ctAreP : Value} {fIsG : Addr} {odIsG anIsG : Option Addr} {slIsG : Array (Option Value)} {ocIsG kVIsG dcIsG pmIsG cdIsG ctIsG : Value} {fAreG : Addr} {odAreG anAreG : Option Addr} {slAreG : Array (Option Value)} {ocAreG kVAreG dcAreG pmAreG cdAreG ctAreG : Value} {fAreC : Addr} {odAreC anAreC : Option Addr} {slAreC : Array (Option Value)} {ocAreC kVAreC dcAreC pmAreC cdAreC ctAreC : Value} {fEmpty : Addr} {odEmpty anEmpty : Option Addr} {slEmpty : Array (Option Value)} {ocEmpty kVEmpty dcEmpty pmEmpty cdEmpty ctEmpty : Value} {fCopied : Addr} {odCopied anCopied : Option Addr} {slCopied : Array (Option Value)} {ocCopied kVCopied dcCopied pmCopied cdCopied ctCopied : Value} {fCell : Addr} {odCell anCell : Option Addr} {slCell : Array (Option Value)} {ocCell kVCell dcCell pmCell cdCell ctCell : Value} {fPot : Addr} {odPot anPot : Option Addr} {slPot : Array (Option Value)} {ocPot kVPot dcPot pmPot cdPot ctPot : Value} {fTake : Addr} {odTake anTake : Option Addr} {slTake : Array (Option Value)} {ocTake kVTake dcTake pmTake cdTake ctTake : Value} {fName : Addr} {odName anName : Option Addr} {slName : Array (Option Value)} {ocName kVName dcName pmName cdName ctName : Value} {fSigns : Addr} {odSigns anSigns : Option Addr} {slSigns : Array (Option Value)} {ocSigns kVSigns dcSigns pmSigns cdSigns ctSigns : Value} {fAbout : Addr} {odAbout anAbout : Option Addr} {slAbout : Array (Option Value)} {ocAbout kVAbout dcAbout pmAbout cdAbout ctAbout : Value} {fText : Addr} {odText anText : Option Addr} {slText : Array (Option Value)} {ocText kVText dcText pmText cdText ctText : Value} {fWName : Addr} {odWName anWName : Option Addr} {slWName : Array (Option Value)} {ocWName kVWName dcWName pmWName cdWName ctWName : Value} {fWAbout : Addr} {odWAbout anWAbout : Option Addr} {slWAbout : Array (Option Value)} {ocWAbout kVWAbout dcWAbout pmWAbout cdWAbout ctWAbout : Value} {fMany : Addr} {odMany anMany : Option Addr} {slMany : Array (Option Value)} {ocMany kVMany dcMany pmMany cdMany ctMany : Value} {fGood : Addr} {odGood anGood : Option Addr} {slGood : Array (Option Value)} {ocGood kVGood dcGood pmGood cdGood ctGood : Value} {fOdd : Addr} {odOdd anOdd : Option Addr} {slOdd : Array (Option Value)} {ocOdd kVOdd dcOdd pmOdd cdOdd ctOdd : Value} {fSpoilt : Addr} {odSpoilt anSpoilt : Option Addr} {slSpoilt : Array (Option Value)} {ocSpoilt kVSpoilt dcSpoilt pmSpoilt cdSpoilt ctSpoilt : Value} {fIsGood : Addr} {odIsGood anIsGood : Option Addr} {slIsGood : Array (Option Value)} {ocIsGood kVIsGood dcIsGood pmIsGood cdIsGood ctIsGood : Value} {fWrong : Addr} {odWrong anWrong : Option Addr} {slWrong : Array (Option Value)} {ocWrong kVWrong dcWrong pmWrong cdWrong ctWrong : Value} {fMade : Addr} {odMade anMade : Option Addr} {slMade : Array (Option Value)} {ocMade kVMade dcMade pmMade cdMade ctMade : Value} {fDue : Addr} {odDue anDue : Option Addr} {slDue : Array (Option Value)} {ocDue kVDue dcDue pmDue cdDue ctDue : Value} {fRefused : Addr} {odRefused anRefused : Option Addr} {slRefused : Array (Option Value)} {ocRefused kVRefused dcRefused pmRefused cdRefused ctRefused : Value} {fBelow : Addr} {odBelow anBelow : Option Addr} {slBelow : Array (Option Value)} {ocBelow kVBelow dcBelow pmBelow cdBelow ctBelow : Value} {fLists : Addr} {odLists anLists : Option Addr} {slLists : Array (Option Value)} {ocLists kVLists dcLists pmLists cdLists ctLists : Value} {fAsked : Addr} {odAsked anAsked : Option Addr} {slAsked : Array (Option Value)} {ocAsked kVAsked dcAsked pmAsked cdAsked ctAsked : Value} {fTold : Addr} {odTold anTold : Option Addr} {slTold : Array (Option Value)} {ocTold kVTold dcTold pmTold cdTold ctTold : Value} {fStays : Addr} {odStays anStays : Option Addr} {slStays : Array (Option Value)} {ocStays kVStays dcStays pmStays cdStays ctStays : Value} {fRight : Addr} {odRight anRight : Option Addr} {slRight : Array (Option Value)} {ocRight kVRight dcRight pmRight cdRight ctRight : Value} {BE : Addr} {CNO : Addr} {nmO qO : Str} {NNO : Addr} {bsO : List Value} {snO : List Str} {subO : List Value} {abO : Bool} {colO : Option Bool} {ddO : Option Addr} {m0O m1O m2O m3O m5O : Option Value} {fEO : Addr} {odEO anEO : Option Addr} {slEO : Array (Option Value)} {ocEO kVEO dcEO pmEO cdEO ctEO : Value} {CO TO : Addr} {odTO : Option Addr} {ocTO : Value} {tO1 tO2 tO3 tO4 : Tok} {nTO : Nat} {slTO : Array (Option Value)} {fIO : Addr} {odIO anIO : Option Addr} {slIO : Array (Option Value)} {ocIO kVIO dcIO pmIO cdIO ctIO : Value} {fRO : Addr} {odRO anRO : Option Addr} {slRO : Array (Option Value)} {ocRO kVRO dcRO pmRO cdRO ctRO : Value} {CNP : Addr} {nmP qP : Str} {NNP : Addr} {bsP : List Value} {snP : List Str} {subP : List Value} {abP : Bool} {colP : Option Bool} {ddP : Option Addr} {m0P m1P m2P m3P m5P : Option Value} {fEP : Addr} {odEP anEP : Option Addr} {slEP : Array (Option Value)} {ocEP kVEP dcEP pmEP cdEP ctEP : Value} {CP TP : Addr} {odTP : Option Addr} {ocTP : Value} {tP1 tP2 tP3 : Tok} {nTP : Nat} {slTP : Array (Option Value)} {fIP : Addr} {odIP anIP : Option Addr} {slIP : Array (Option Value)} {ocIP kVIP dcIP pmIP cdIP ctIP : Value} {fRP : Addr} {odRP anRP : Option Addr} {slRP : Array (Option Value)} {ocRP kVRP dcRP pmRP cdRP ctRP : Value} {CNC : Addr} {nmC qC : Str} {NNC : Addr} {bsC : List Value} {snC : List Str} {subC : List Value} {abC : Bool} {colC : Option Bool} {ddC : Option Addr} {m0C m1C m2C m3C m5C : Option Value} {fEC : Addr} {odEC anEC : Option Addr} {slEC : Array (Option Value)} {ocEC kVEC dcEC pmEC cdEC ctEC : Value} {CC TC : Addr} {odTC : Option Addr} {ocTC : Value} {tC1 : Tok} {nTC : Nat} {slTC : Array (Option Value)} {fIC : Addr} {odIC anIC : Option Addr} {slIC : Array (Option Value)} {ocIC kVIC dcIC pmIC cdIC ctIC : Value} {fM0 : Addr} {odM0 anM0 : Option Addr} {slM0 : Array (Option Value)} {ocM0 kVM0 dcM0 pmM0 cdM0 ctM0 : Value} {fM1 : Addr} {odM1 anM1 : Option Addr} {slM1 : Array (Option Value)} {ocM1 kVM1 dcM1 pmM1 cdM1 ctM1 : Value} {fM2 : Addr} {odM2 anM2 : Option Addr} {slM2 : Array (Option Value)} {ocM2 kVM2 dcM2 pmM2 cdM2 ctM2 : Value} {fM3 : Addr} {odM3 anM3 : Option Addr} {slM3 : Array (Option Value)} {ocM3 kVM3 dcM3 pmM3 cdM3 ctM3 : Value} {fM4 : Addr} {odM4 anM4 : Option Addr} {slM4 : Array (Option Value)} {ocM4 kVM4 dcM4 pmM4 cdM4 ctM4 : Value} {fM5 : Addr} {odM5 anM5 : Option Addr} {slM5 : Array (Option Value)} {ocM5 kVM5 dcM5 pmM5 cdM5 ctM5 : Value} {u1 u2 u3 u4 u5 : Tok} {w1 w2 w3 w4 w5 w6 : Tok} {aT aU aW aM : Addr} {odA odB odC odM : Option Addr} {s1 s2 s3 s4 s5 s6 s7 s8 s9 r1 r2 r3 r4 : Tok} {nA nB nC nM : Nat} {slA slB slC slM : Array (Option Value)} {fLaw : Addr} {odLaw anLaw : Option Addr} {slLaw : Array (Option Value)} {ocLaw kVLaw dcLaw pmLaw cdLaw ctLaw : Value}
    (aWithin : PySem.W.nsIn K mainGlobals "is_text_within" = some (some (.ref fWithin)))
    (lWithin : K.lookup fWithin = some ⟨ocWithin, odWithin, .func (PySem.W.fnOf "is_text_within" "is_text_within" (defArgs st_is_text_within) (defBody st_is_text_within) (defScope st_is_text_within) .none kVWithin dcWithin pmWithin anWithin cdWithin ctWithin), slWithin⟩)
    (cWithin : PySem.W.codeIn K cdWithin "is_text_within" = true)
    (kWithin : PySem.W.keepIn K (.ref fWithin) = true)
    (aIsName : PySem.W.nsIn K mainGlobals "is_name" = some (some (.ref fIsName)))
    (lIsName : K.lookup fIsName = some ⟨ocIsName, odIsName, .func (PySem.W.fnOf "is_name" "is_name" (defArgs st_is_name) (defBody st_is_name) (defScope st_is_name) .none kVIsName dcIsName pmIsName anIsName cdIsName ctIsName), slIsName⟩)
    (cIsName : PySem.W.codeIn K cdIsName "is_name" = true)
    (kIsName : PySem.W.keepIn K (.ref fIsName) = true)
    (aIsAbout : PySem.W.nsIn K mainGlobals "is_about" = some (some (.ref fIsAbout)))
    (lIsAbout : K.lookup fIsAbout = some ⟨ocIsAbout, odIsAbout, .func (PySem.W.fnOf "is_about" "is_about" (defArgs st_is_about) (defBody st_is_about) (defScope st_is_about) .none kVIsAbout dcIsAbout pmIsAbout anIsAbout cdIsAbout ctIsAbout), slIsAbout⟩)
    (cIsAbout : PySem.W.codeIn K cdIsAbout "is_about" = true)
    (kIsAbout : PySem.W.keepIn K (.ref fIsAbout) = true)
    (aIsAmong : PySem.W.nsIn K mainGlobals "is_among" = some (some (.ref fIsAmong)))
    (lIsAmong : K.lookup fIsAmong = some ⟨ocIsAmong, odIsAmong, .func (PySem.W.fnOf "is_among" "is_among" (defArgs st_is_among) (defBody st_is_among) (defScope st_is_among) .none kVIsAmong dcIsAmong pmIsAmong anIsAmong cdIsAmong ctIsAmong), slIsAmong⟩)
    (cIsAmong : PySem.W.codeIn K cdIsAmong "is_among" = true)
    (kIsAmong : PySem.W.keepIn K (.ref fIsAmong) = true)
    (aIsDefault : PySem.W.nsIn K mainGlobals "is_default" = some (some (.ref fIsDefault)))
    (lIsDefault : K.lookup fIsDefault = some ⟨ocIsDefault, odIsDefault, .func (PySem.W.fnOf "is_default" "is_default" (defArgs st_is_default) (defBody st_is_default) (defScope st_is_default) .none kVIsDefault dcIsDefault pmIsDefault anIsDefault cdIsDefault ctIsDefault), slIsDefault⟩)
    (cIsDefault : PySem.W.codeIn K cdIsDefault "is_default" = true)
    (kIsDefault : PySem.W.keepIn K (.ref fIsDefault) = true)
    (aIsShort : PySem.W.nsIn K mainGlobals "is_short_or_empty" = some (some (.ref fIsShort)))
    (lIsShort : K.lookup fIsShort = some ⟨ocIsShort, odIsShort, .func (PySem.W.fnOf "is_short_or_empty" "is_short_or_empty" (defArgs st_is_short_or_empty) (defBody st_is_short_or_empty) (defScope st_is_short_or_empty) .none kVIsShort dcIsShort pmIsShort anIsShort cdIsShort ctIsShort), slIsShort⟩)
    (cIsShort : PySem.W.codeIn K cdIsShort "is_short_or_empty" = true)
    (kIsShort : PySem.W.keepIn K (.ref fIsShort) = true)
    (aIsTruth : PySem.W.nsIn K mainGlobals "is_truth" = some (some (.ref fIsTruth)))
    (lIsTruth : K.lookup fIsTruth = some ⟨ocIsTruth, odIsTruth, .func (PySem.W.fnOf "is_truth" "is_truth" (defArgs st_is_truth) (defBody st_is_truth) (defScope st_is_truth) .none kVIsTruth dcIsTruth pmIsTruth anIsTruth cdIsTruth ctIsTruth), slIsTruth⟩)
    (cIsTruth : PySem.W.codeIn K cdIsTruth "is_truth" = true)
    (kIsTruth : PySem.W.keepIn K (.ref fIsTruth) = true)
    (aComma : PySem.W.nsIn K mainGlobals "comma_joined" = some (some (.ref fComma)))
    (lComma : K.lookup fComma = some ⟨ocComma, odComma, .func (PySem.W.fnOf "comma_joined" "comma_joined" (defArgs st_comma_joined) (defBody st_comma_joined) (defScope st_comma_joined) .none kVComma dcComma pmComma anComma cdComma ctComma), slComma⟩)
    (cComma : PySem.W.codeIn K cdComma "comma_joined" = true)
    (kComma : PySem.W.keepIn K (.ref fComma) = true)
    (aLWithin : PySem.W.nsIn K mainGlobals "is_list_within" = some (some (.ref fLWithin)))
    (lLWithin : K.lookup fLWithin = some ⟨ocLWithin, odLWithin, .func (PySem.W.fnOf "is_list_within" "is_list_within" (defArgs st_is_list_within) (defBody st_is_list_within) (defScope st_is_list_within) .none kVLWithin dcLWithin pmLWithin anLWithin cdLWithin ctLWithin), slLWithin⟩)
    (cLWithin : PySem.W.codeIn K cdLWithin "is_list_within" = true)
    (kLWithin : PySem.W.keepIn K (.ref fLWithin) = true)
    (aAreO : PySem.W.nsIn K mainGlobals "are_options" = some (some (.ref fAreO)))
    (lAreO : K.lookup fAreO = some ⟨ocAreO, odAreO, .func (PySem.W.fnOf "are_options" "are_options" (defArgs st_are_options) (defBody st_are_options) (defScope st_are_options) .none kVAreO dcAreO pmAreO anAreO cdAreO ctAreO), slAreO⟩)
    (cAreO : PySem.W.codeIn K cdAreO "are_options" = true)
    (kAreO : PySem.W.keepIn K (.ref fAreO) = true)
    (aAreP : PySem.W.nsIn K mainGlobals "are_places" = some (some (.ref fAreP)))
    (lAreP : K.lookup fAreP = some ⟨ocAreP, odAreP, .func (PySem.W.fnOf "are_places" "are_places" (defArgs st_are_places) (defBody st_are_places) (defScope st_are_places) .none kVAreP dcAreP pmAreP anAreP cdAreP ctAreP), slAreP⟩)
    (cAreP : PySem.W.codeIn K cdAreP "are_places" = true)
    (kAreP : PySem.W.keepIn K (.ref fAreP) = true)
    (aIsG : PySem.W.nsIn K mainGlobals "is_group" = some (some (.ref fIsG)))
    (lIsG : K.lookup fIsG = some ⟨ocIsG, odIsG, .func (PySem.W.fnOf "is_group" "is_group" (defArgs st_is_group) (defBody st_is_group) (defScope st_is_group) .none kVIsG dcIsG pmIsG anIsG cdIsG ctIsG), slIsG⟩)
    (cIsG : PySem.W.codeIn K cdIsG "is_group" = true)
    (kIsG : PySem.W.keepIn K (.ref fIsG) = true)
    (aAreG : PySem.W.nsIn K mainGlobals "are_groups" = some (some (.ref fAreG)))
    (lAreG : K.lookup fAreG = some ⟨ocAreG, odAreG, .func (PySem.W.fnOf "are_groups" "are_groups" (defArgs st_are_groups) (defBody st_are_groups) (defScope st_are_groups) .none kVAreG dcAreG pmAreG anAreG cdAreG ctAreG), slAreG⟩)
    (cAreG : PySem.W.codeIn K cdAreG "are_groups" = true)
    (kAreG : PySem.W.keepIn K (.ref fAreG) = true)
    (aAreC : PySem.W.nsIn K mainGlobals "are_commands" = some (some (.ref fAreC)))
    (lAreC : K.lookup fAreC = some ⟨ocAreC, odAreC, .func (PySem.W.fnOf "are_commands" "are_commands" (defArgs st_are_commands) (defBody st_are_commands) (defScope st_are_commands) .none kVAreC dcAreC pmAreC anAreC cdAreC ctAreC), slAreC⟩)
    (cAreC : PySem.W.codeIn K cdAreC "are_commands" = true)
    (kAreC : PySem.W.keepIn K (.ref fAreC) = true)
    (aEmpty : PySem.W.nsIn K mainGlobals "empty_for_none" = some (some (.ref fEmpty)))
    (lEmpty : K.lookup fEmpty = some ⟨ocEmpty, odEmpty, .func (PySem.W.fnOf "empty_for_none" "empty_for_none" (defArgs st_empty_for_none) (defBody st_empty_for_none) (defScope st_empty_for_none) .none kVEmpty dcEmpty pmEmpty anEmpty cdEmpty ctEmpty), slEmpty⟩)
    (cEmpty : PySem.W.codeIn K cdEmpty "empty_for_none" = true)
    (kEmpty : PySem.W.keepIn K (.ref fEmpty) = true)
    (aCopied : PySem.W.nsIn K mainGlobals "copied_groups" = some (some (.ref fCopied)))
    (lCopied : K.lookup fCopied = some ⟨ocCopied, odCopied, .func (PySem.W.fnOf "copied_groups" "copied_groups" (defArgs st_copied_groups) (defBody st_copied_groups) (defScope st_copied_groups) .none kVCopied dcCopied pmCopied anCopied cdCopied ctCopied), slCopied⟩)
    (cCopied : PySem.W.codeIn K cdCopied "copied_groups" = true)
    (kCopied : PySem.W.keepIn K (.ref fCopied) = true)
    (aCell : PySem.W.nsIn K mainGlobals "_law_cell" = some (some (.ref fCell)))
    (lCell : K.lookup fCell = some ⟨ocCell, odCell, .func (PySem.W.fnOf "_law_cell" "_law_cell" (defArgs sCell) (defBody sCell) (defScope sCell) .none kVCell dcCell pmCell anCell cdCell ctCell), slCell⟩)
    (cCell : PySem.W.codeIn K cdCell "_law_cell" = true)
    (kCell : PySem.W.keepIn K (.ref fCell) = true)
    (aPot : PySem.W.nsIn K mainGlobals "_law_pot" = some (some (.ref fPot)))
    (lPot : K.lookup fPot = some ⟨ocPot, odPot, .func (PySem.W.fnOf "_law_pot" "_law_pot" (defArgs sPot) (defBody sPot) (defScope sPot) .none kVPot dcPot pmPot anPot cdPot ctPot), slPot⟩)
    (cPot : PySem.W.codeIn K cdPot "_law_pot" = true)
    (kPot : PySem.W.keepIn K (.ref fPot) = true)
    (aTake : PySem.W.nsIn K mainGlobals "_law_take" = some (some (.ref fTake)))
    (lTake : K.lookup fTake = some ⟨ocTake, odTake, .func (PySem.W.fnOf "_law_take" "_law_take" (defArgs sTake) (defBody sTake) (defScope sTake) .none kVTake dcTake pmTake anTake cdTake ctTake), slTake⟩)
    (cTake : PySem.W.codeIn K cdTake "_law_take" = true)
    (kTake : PySem.W.keepIn K (.ref fTake) = true)
    (aName : PySem.W.nsIn K mainGlobals "_law_name" = some (some (.ref fName)))
    (lName : K.lookup fName = some ⟨ocName, odName, .func (PySem.W.fnOf "_law_name" "_law_name" (defArgs sName) (defBody sName) (defScope sName) .none kVName dcName pmName anName cdName ctName), slName⟩)
    (cName : PySem.W.codeIn K cdName "_law_name" = true)
    (kName : PySem.W.keepIn K (.ref fName) = true)
    (aSigns : PySem.W.nsIn K mainGlobals "_law_signs" = some (some (.ref fSigns)))
    (lSigns : K.lookup fSigns = some ⟨ocSigns, odSigns, .func (PySem.W.fnOf "_law_signs" "_law_signs" (defArgs sSigns) (defBody sSigns) (defScope sSigns) .none kVSigns dcSigns pmSigns anSigns cdSigns ctSigns), slSigns⟩)
    (cSigns : PySem.W.codeIn K cdSigns "_law_signs" = true)
    (kSigns : PySem.W.keepIn K (.ref fSigns) = true)
    (aAbout : PySem.W.nsIn K mainGlobals "_law_about" = some (some (.ref fAbout)))
    (lAbout : K.lookup fAbout = some ⟨ocAbout, odAbout, .func (PySem.W.fnOf "_law_about" "_law_about" (defArgs sAbout) (defBody sAbout) (defScope sAbout) .none kVAbout dcAbout pmAbout anAbout cdAbout ctAbout), slAbout⟩)
    (cAbout : PySem.W.codeIn K cdAbout "_law_about" = true)
    (kAbout : PySem.W.keepIn K (.ref fAbout) = true)
    (aText : PySem.W.nsIn K mainGlobals "_law_text" = some (some (.ref fText)))
    (lText : K.lookup fText = some ⟨ocText, odText, .func (PySem.W.fnOf "_law_text" "_law_text" (defArgs sText) (defBody sText) (defScope sText) .none kVText dcText pmText anText cdText ctText), slText⟩)
    (cText : PySem.W.codeIn K cdText "_law_text" = true)
    (kText : PySem.W.keepIn K (.ref fText) = true)
    (aWName : PySem.W.nsIn K mainGlobals "_law_is_name" = some (some (.ref fWName)))
    (lWName : K.lookup fWName = some ⟨ocWName, odWName, .func (PySem.W.fnOf "_law_is_name" "_law_is_name" (defArgs st_w_is_name) (defBody st_w_is_name) (defScope st_w_is_name) .none kVWName dcWName pmWName anWName cdWName ctWName), slWName⟩)
    (cWName : PySem.W.codeIn K cdWName "_law_is_name" = true)
    (kWName : PySem.W.keepIn K (.ref fWName) = true)
    (aWAbout : PySem.W.nsIn K mainGlobals "_law_is_about" = some (some (.ref fWAbout)))
    (lWAbout : K.lookup fWAbout = some ⟨ocWAbout, odWAbout, .func (PySem.W.fnOf "_law_is_about" "_law_is_about" (defArgs st_w_is_about) (defBody st_w_is_about) (defScope st_w_is_about) .none kVWAbout dcWAbout pmWAbout anWAbout cdWAbout ctWAbout), slWAbout⟩)
    (cWAbout : PySem.W.codeIn K cdWAbout "_law_is_about" = true)
    (kWAbout : PySem.W.keepIn K (.ref fWAbout) = true)
    (aMany : PySem.W.nsIn K mainGlobals "_law_many" = some (some (.ref fMany)))
    (lMany : K.lookup fMany = some ⟨ocMany, odMany, .func (PySem.W.fnOf "_law_many" "_law_many" (defArgs st_many) (defBody st_many) (defScope st_many) .none kVMany dcMany pmMany anMany cdMany ctMany), slMany⟩)
    (cMany : PySem.W.codeIn K cdMany "_law_many" = true)
    (kMany : PySem.W.keepIn K (.ref fMany) = true)
    (aGood : PySem.W.nsIn K mainGlobals "_law_good" = some (some (.ref fGood)))
    (lGood : K.lookup fGood = some ⟨ocGood, odGood, .func (PySem.W.fnOf "_law_good" "_law_good" (defArgs st_good) (defBody st_good) (defScope st_good) .none kVGood dcGood pmGood anGood cdGood ctGood), slGood⟩)
    (cGood : PySem.W.codeIn K cdGood "_law_good" = true)
    (kGood : PySem.W.keepIn K (.ref fGood) = true)
    (aOdd : PySem.W.nsIn K mainGlobals "_law_odd_thing" = some (some (.ref fOdd)))
    (lOdd : K.lookup fOdd = some ⟨ocOdd, odOdd, .func (PySem.W.fnOf "_law_odd_thing" "_law_odd_thing" (defArgs st_odd_thing) (defBody st_odd_thing) (defScope st_odd_thing) .none kVOdd dcOdd pmOdd anOdd cdOdd ctOdd), slOdd⟩)
    (cOdd : PySem.W.codeIn K cdOdd "_law_odd_thing" = true)
    (kOdd : PySem.W.keepIn K (.ref fOdd) = true)
    (aSpoilt : PySem.W.nsIn K mainGlobals "_law_spoilt" = some (some (.ref fSpoilt)))
    (lSpoilt : K.lookup fSpoilt = some ⟨ocSpoilt, odSpoilt, .func (PySem.W.fnOf "_law_spoilt" "_law_spoilt" (defArgs st_spoilt) (defBody st_spoilt) (defScope st_spoilt) .none kVSpoilt dcSpoilt pmSpoilt anSpoilt cdSpoilt ctSpoilt), slSpoilt⟩)
    (cSpoilt : PySem.W.codeIn K cdSpoilt "_law_spoilt" = true)
    (kSpoilt : PySem.W.keepIn K (.ref fSpoilt) = true)
    (aIsGood : PySem.W.nsIn K mainGlobals "_law_is_good" = some (some (.ref fIsGood)))
    (lIsGood : K.lookup fIsGood = some ⟨ocIsGood, odIsGood, .func (PySem.W.fnOf "_law_is_good" "_law_is_good" (defArgs st_is_good) (defBody st_is_good) (defScope st_is_good) .none kVIsGood dcIsGood pmIsGood anIsGood cdIsGood ctIsGood), slIsGood⟩)
    (cIsGood : PySem.W.codeIn K cdIsGood "_law_is_good" = true)
    (kIsGood : PySem.W.keepIn K (.ref fIsGood) = true)
    (aWrong : PySem.W.nsIn K mainGlobals "_law_wrong" = some (some (.ref fWrong)))
    (lWrong : K.lookup fWrong = some ⟨ocWrong, odWrong, .func (PySem.W.fnOf "_law_wrong" "_law_wrong" (defArgs st_wrong) (defBody st_wrong) (defScope st_wrong) .none kVWrong dcWrong pmWrong anWrong cdWrong ctWrong), slWrong⟩)
    (cWrong : PySem.W.codeIn K cdWrong "_law_wrong" = true)
    (kWrong : PySem.W.keepIn K (.ref fWrong) = true)
    (aMade : PySem.W.nsIn K mainGlobals "_law_made" = some (some (.ref fMade)))
    (lMade : K.lookup fMade = some ⟨ocMade, odMade, .func (PySem.W.fnOf "_law_made" "_law_made" (defArgs st_made) (defBody st_made) (defScope st_made) .none kVMade dcMade pmMade anMade cdMade ctMade), slMade⟩)
    (cMade : PySem.W.codeIn K cdMade "_law_made" = true)
    (kMade : PySem.W.keepIn K (.ref fMade) = true)
    (aDue : PySem.W.nsIn K mainGlobals "_law_due" = some (some (.ref fDue)))
    (lDue : K.lookup fDue = some ⟨ocDue, odDue, .func (PySem.W.fnOf "_law_due" "_law_due" (defArgs st_due) (defBody st_due) (defScope st_due) .none kVDue dcDue pmDue anDue cdDue ctDue), slDue⟩)
    (cDue : PySem.W.codeIn K cdDue "_law_due" = true)
    (kDue : PySem.W.keepIn K (.ref fDue) = true)
    (aRefused : PySem.W.nsIn K mainGlobals "_law_refused" = some (some (.ref fRefused)))
    (lRefused : K.lookup fRefused = some ⟨ocRefused, odRefused, .func (PySem.W.fnOf "_law_refused" "_law_refused" (defArgs st_refused) (defBody st_refused) (defScope st_refused) .none kVRefused dcRefused pmRefused anRefused cdRefused ctRefused), slRefused⟩)
    (cRefused : PySem.W.codeIn K cdRefused "_law_refused" = true)
    (kRefused : PySem.W.keepIn K (.ref fRefused) = true)
    (aBelow : PySem.W.nsIn K mainGlobals "_law_below" = some (some (.ref fBelow)))
    (lBelow : K.lookup fBelow = some ⟨ocBelow, odBelow, .func (PySem.W.fnOf "_law_below" "_law_below" (defArgs st_below) (defBody st_below) (defScope st_below) .none kVBelow dcBelow pmBelow anBelow cdBelow ctBelow), slBelow⟩)
    (cBelow : PySem.W.codeIn K cdBelow "_law_below" = true)
    (kBelow : PySem.W.keepIn K (.ref fBelow) = true)
    (aLists : PySem.W.nsIn K mainGlobals "_law_lists" = some (some (.ref fLists)))
    (lLists : K.lookup fLists = some ⟨ocLists, odLists, .func (PySem.W.fnOf "_law_lists" "_law_lists" (defArgs st_lists) (defBody st_lists) (defScope st_lists) .none kVLists dcLists pmLists anLists cdLists ctLists), slLists⟩)
    (cLists : PySem.W.codeIn K cdLists "_law_lists" = true)
    (kLists : PySem.W.keepIn K (.ref fLists) = true)
    (aAsked : PySem.W.nsIn K mainGlobals "_law_asked" = some (some (.ref fAsked)))
    (lAsked : K.lookup fAsked = some ⟨ocAsked, odAsked, .func (PySem.W.fnOf "_law_asked" "_law_asked" (defArgs st_asked) (defBody st_asked) (defScope st_asked) .none kVAsked dcAsked pmAsked anAsked cdAsked ctAsked), slAsked⟩)
    (cAsked : PySem.W.codeIn K cdAsked "_law_asked" = true)
    (kAsked : PySem.W.keepIn K (.ref fAsked) = true)
    (aTold : PySem.W.nsIn K mainGlobals "_law_told" = some (some (.ref fTold)))
    (lTold : K.lookup fTold = some ⟨ocTold, odTold, .func (PySem.W.fnOf "_law_told" "_law_told" (defArgs st_told) (defBody st_told) (defScope st_told) .none kVTold dcTold pmTold anTold cdTold ctTold), slTold⟩)
    (cTold : PySem.W.codeIn K cdTold "_law_told" = true)
    (kTold : PySem.W.keepIn K (.ref fTold) = true)
    (aStays : PySem.W.nsIn K mainGlobals "_law_stays" = some (some (.ref fStays)))
    (lStays : K.lookup fStays = some ⟨ocStays, odStays, .func (PySem.W.fnOf "_law_stays" "_law_stays" (defArgs st_stays) (defBody st_stays) (defScope st_stays) .none kVStays dcStays pmStays anStays cdStays ctStays), slStays⟩)
    (cStays : PySem.W.codeIn K cdStays "_law_stays" = true)
    (kStays : PySem.W.keepIn K (.ref fStays) = true)
    (aRight : PySem.W.nsIn K mainGlobals "_law_right" = some (some (.ref fRight)))
    (lRight : K.lookup fRight = some ⟨ocRight, odRight, .func (PySem.W.fnOf "_law_right" "_law_right" (defArgs st_right) (defBody st_right) (defScope st_right) .none kVRight dcRight pmRight anRight cdRight ctRight), slRight⟩)
    (cRight : PySem.W.codeIn K cdRight "_law_right" = true)
    (kRight : PySem.W.keepIn K (.ref fRight) = true)
    (aB : PySem.W.nsIn K mainGlobals "BenchError" = some (some (.ref BE)))
    (tB : PySem.W.typeIn K (.ref BE) = some (.type "type"))
    (hdB : PySem.W.hasDictIn K BE = true)
    (spN : PySem.W.specialIn K (.builtin "object.__class__") "__get__" = some (some (.builtin "getset_descriptor.__get__")))
    (tkN : PySem.W.takesIn K (.builtin "object.__class__") = some true)
    (aNO : PySem.W.nsIn K mainGlobals "NoOption" = some (some (.ref CNO)))
    (xNO : K.lookup CNO = some (excClassObj nmO qO CNO NNO bsO [.ref BE, .type "ValueError", .type "Exception", .type "BaseException", .type "object"] true snO subO abO colO ddO m0O m1O m2O m3O m5O "ValueError.__new__"))
    (aEO : PySem.W.findIn K (.ref CNO) "__init__" = some (some (.ref fEO)))
    (lEO : K.lookup fEO = some ⟨ocEO, odEO, .func (PySem.W.fnOf "__init__" "NoOption.__init__" (defArgs st_err) (defBody st_err) (defScope st_err) .none kVEO dcEO pmEO anEO cdEO ctEO), slEO⟩)
    (cEO : PySem.W.codeIn K cdEO "NoOption.__init__" = true)
    (kEO : PySem.W.keepIn K (.ref fEO) = true)
    (tEO : PySem.W.typeIn K (.ref fEO) = some (.type "function"))
    (saNO : PySem.W.findIn K (.ref CNO) "__setattr__" = some (some (.builtin "object.__setattr__")))
    (nfNO : PySem.W.findIn K (.ref CNO) "field" = some none)
    (kNO : PySem.W.keepIn K (.ref CNO) = true)
    (eNO : PySem.W.subIn K (.ref CNO) (.type "BaseException") = some true)
    (tNO : PySem.W.typeIn K (.ref CNO) = some (.type "type"))
    (aCO : PySem.W.nsIn K mainGlobals "Option" = some (some (.ref CO)))
    (aIO : PySem.W.findIn K (.ref CO) "__init__" = some (some (.ref fIO)))
    (lIO : K.lookup fIO = some ⟨ocIO, odIO, .func (PySem.W.fnOf "__init__" "Option.__init__" (defArgs st_init) (defBody st_init) (defScope st_init) (.ref TO) kVIO dcIO pmIO anIO cdIO ctIO), slIO⟩)
    (cIO : PySem.W.codeIn K cdIO "Option.__init__" = true)
    (kIO : PySem.W.keepIn K (.ref fIO) = true)
    (iIO : PySem.W.isFn K (.ref fIO) = true)
    (lTO : K.lookup TO = some ⟨ocTO, odTO, .seq [.str (Str.ofString "") tO1, .str (Str.ofString "flag") tO2, .str (Str.ofString "word") tO3, .none, .bool false, .bool false, .str (Str.ofString "") tO4].toArray nTO, slTO⟩)
    (aRO : PySem.W.findIn K (.ref CO) "__repr__" = some (some (.ref fRO)))
    (lRO : K.lookup fRO = some ⟨ocRO, odRO, .func (PySem.W.fnOf "__repr__" "Option.__repr__" (defArgs st_Option_repr) (defBody st_Option_repr) (defScope st_Option_repr) .none kVRO dcRO pmRO anRO cdRO ctRO), slRO⟩)
    (cRO : PySem.W.codeIn K cdRO "Option.__repr__" = true)
    (kRO : PySem.W.keepIn K (.ref fRO) = true)
    (iRO : PySem.W.isFn K (.ref fRO) = true)
    (nhO : PySem.W.findIn K (.ref CO) "held" = some none)
    (pgO : PySem.W.plainGet K CO Str.empty = true)
    (hdO : PySem.W.hasDictIn K CO = true)
    (poO : PySem.W.plainOver K CO = true)
    (saO : PySem.W.findIn K (.ref CO) "__setattr__" = some (some (.builtin "object.__setattr__")))
    (mkO : PySem.W.makesIn K CO = true)
    (kCO : PySem.W.keepIn K (.ref CO) = true)
    (tyO : PySem.W.typeIn K (.ref CO) = some (.type "type"))
    (ssO : PySem.W.subIn K (.ref CO) (.ref CO) = some true)
    (moO : PySem.W.mroIn K CO (.type "object") = some true)
    (caO : PySem.W.findIn K (.ref CO) "__class__" = some (some (.builtin "object.__class__")))
    (sbOstr : PySem.W.subIn K (.ref CO) (.type "str") = some false)
    (sbOlist : PySem.W.subIn K (.ref CO) (.type "list") = some false)
    (nrONoneType : PySem.W.subIn K (.type "NoneType") (.ref CO) = some false)
    (nrObool : PySem.W.subIn K (.type "bool") (.ref CO) = some false)
    (nrOint : PySem.W.subIn K (.type "int") (.ref CO) = some false)
    (nrOstr : PySem.W.subIn K (.type "str") (.ref CO) = some false)
    (nrOlist : PySem.W.subIn K (.type "list") (.ref CO) = some false)
    (nrOtuple : PySem.W.subIn K (.type "tuple") (.ref CO) = some false)
    (nrOdict : PySem.W.subIn K (.type "dict") (.ref CO) = some false)
    (aNP : PySem.W.nsIn K mainGlobals "NoPlace" = some (some (.ref CNP)))
    (xNP : K.lookup CNP = some (excClassObj nmP qP CNP NNP bsP [.ref BE, .type "ValueError", .type "Exception", .type "BaseException", .type "object"] true snP subP abP colP ddP m0P m1P m2P m3P m5P "ValueError.__new__"))
    (aEP : PySem.W.findIn K (.ref CNP) "__init__" = some (some (.ref fEP)))
    (lEP : K.lookup fEP = some ⟨ocEP, odEP, .func (PySem.W.fnOf "__init__" "NoPlace.__init__" (defArgs WP.st_err) (defBody WP.st_err) (defScope WP.st_err) .none kVEP dcEP pmEP anEP cdEP ctEP), slEP⟩)
    (cEP : PySem.W.codeIn K cdEP "NoPlace.__init__" = true)
    (kEP : PySem.W.keepIn K (.ref fEP) = true)
    (tEP : PySem.W.typeIn K (.ref fEP) = some (.type "function"))
    (saNP : PySem.W.findIn K (.ref CNP) "__setattr__" = some (some (.builtin "object.__setattr__")))
    (nfNP : PySem.W.findIn K (.ref CNP) "field" = some none)
    (kNP : PySem.W.keepIn K (.ref CNP) = true)
    (eNP : PySem.W.subIn K (.ref CNP) (.type "BaseException") = some true)
    (tNP : PySem.W.typeIn K (.ref CNP) = some (.type "type"))
    (aCP : PySem.W.nsIn K mainGlobals "Place" = some (some (.ref CP)))
    (aIP : PySem.W.findIn K (.ref CP) "__init__" = some (some (.ref fIP)))
    (lIP : K.lookup fIP = some ⟨ocIP, odIP, .func (PySem.W.fnOf "__init__" "Place.__init__" (defArgs WP.st_init) (defBody WP.st_init) (defScope WP.st_init) (.ref TP) kVIP dcIP pmIP anIP cdIP ctIP), slIP⟩)
    (cIP : PySem.W.codeIn K cdIP "Place.__init__" = true)
    (kIP : PySem.W.keepIn K (.ref fIP) = true)
    (iIP : PySem.W.isFn K (.ref fIP) = true)
    (lTP : K.lookup TP = some ⟨ocTP, odTP, .seq [.str (Str.ofString "one") tP1, .str (Str.ofString "word") tP2, .none, .str (Str.ofString "") tP3].toArray nTP, slTP⟩)
    (aRP : PySem.W.findIn K (.ref CP) "__repr__" = some (some (.ref fRP)))
    (lRP : K.lookup fRP = some ⟨ocRP, odRP, .func (PySem.W.fnOf "__repr__" "Place.__repr__" (defArgs st_Place_repr) (defBody st_Place_repr) (defScope st_Place_repr) .none kVRP dcRP pmRP anRP cdRP ctRP), slRP⟩)
    (cRP : PySem.W.codeIn K cdRP "Place.__repr__" = true)
    (kRP : PySem.W.keepIn K (.ref fRP) = true)
    (iRP : PySem.W.isFn K (.ref fRP) = true)
    (nhP : PySem.W.findIn K (.ref CP) "held" = some none)
    (pgP : PySem.W.plainGet K CP Str.empty = true)
    (hdP : PySem.W.hasDictIn K CP = true)
    (poP : PySem.W.plainOver K CP = true)
    (saP : PySem.W.findIn K (.ref CP) "__setattr__" = some (some (.builtin "object.__setattr__")))
    (mkP : PySem.W.makesIn K CP = true)
    (kCP : PySem.W.keepIn K (.ref CP) = true)
    (tyP : PySem.W.typeIn K (.ref CP) = some (.type "type"))
    (ssP : PySem.W.subIn K (.ref CP) (.ref CP) = some true)
    (moP : PySem.W.mroIn K CP (.type "object") = some true)
    (caP : PySem.W.findIn K (.ref CP) "__class__" = some (some (.builtin "object.__class__")))
    (sbPstr : PySem.W.subIn K (.ref CP) (.type "str") = some false)
    (sbPlist : PySem.W.subIn K (.ref CP) (.type "list") = some false)
    (nrPNoneType : PySem.W.subIn K (.type "NoneType") (.ref CP) = some false)
    (nrPbool : PySem.W.subIn K (.type "bool") (.ref CP) = some false)
    (nrPint : PySem.W.subIn K (.type "int") (.ref CP) = some false)
    (nrPstr : PySem.W.subIn K (.type "str") (.ref CP) = some false)
    (nrPlist : PySem.W.subIn K (.type "list") (.ref CP) = some false)
    (nrPtuple : PySem.W.subIn K (.type "tuple") (.ref CP) = some false)
    (nrPdict : PySem.W.subIn K (.type "dict") (.ref CP) = some false)
    (aNC : PySem.W.nsIn K mainGlobals "NoCommand" = some (some (.ref CNC)))
    (xNC : K.lookup CNC = some (excClassObj nmC qC CNC NNC bsC [.ref BE, .type "ValueError", .type "Exception", .type "BaseException", .type "object"] true snC subC abC colC ddC m0C m1C m2C m3C m5C "ValueError.__new__"))
    (aEC : PySem.W.findIn K (.ref CNC) "__init__" = some (some (.ref fEC)))
    (lEC : K.lookup fEC = some ⟨ocEC, odEC, .func (PySem.W.fnOf "__init__" "NoCommand.__init__" (defArgs st_errC) (defBody st_errC) (defScope st_errC) .none kVEC dcEC pmEC anEC cdEC ctEC), slEC⟩)
    (cEC : PySem.W.codeIn K cdEC "NoCommand.__init__" = true)
    (kEC : PySem.W.keepIn K (.ref fEC) = true)
    (tEC : PySem.W.typeIn K (.ref fEC) = some (.type "function"))
    (saNC : PySem.W.findIn K (.ref CNC) "__setattr__" = some (some (.builtin "object.__setattr__")))
    (nfNC : PySem.W.findIn K (.ref CNC) "field" = some none)
    (kNC : PySem.W.keepIn K (.ref CNC) = true)
    (eNC : PySem.W.subIn K (.ref CNC) (.type "BaseException") = some true)
    (tNC : PySem.W.typeIn K (.ref CNC) = some (.type "type"))
    (gaN : PySem.W.findIn K (.ref CNC) "__getattribute__" = some (some (.builtin "BaseException.__getattribute__")))
    (ggN : PySem.W.findIn K (.ref CNC) "__getattr__" = some none)
    (hcN : PySem.W.findIn K (.ref CNC) "__class__" = some (some (.builtin "object.__class__")))
    (hdN : PySem.W.hasDictIn K CNC = true)
    (sN : PySem.W.subIn K (.ref CNC) (.ref CNC) = some true)
    (moN : PySem.W.mroIn K CNC (.type "object") = some true)
    (sB : PySem.W.subIn K (.ref CNC) (.ref BE) = some true)
    (aCC : PySem.W.nsIn K mainGlobals "Command" = some (some (.ref CC)))
    (aIC : PySem.W.findIn K (.ref CC) "__init__" = some (some (.ref fIC)))
    (lIC : K.lookup fIC = some ⟨ocIC, odIC, .func (PySem.W.fnOf "__init__" "Command.__init__" (defArgs st_Command_init) (defBody st_Command_init) (defScope st_Command_init) (.ref TC) kVIC dcIC pmIC anIC cdIC ctIC), slIC⟩)
    (cIC : PySem.W.codeIn K cdIC "Command.__init__" = true)
    (kIC : PySem.W.keepIn K (.ref fIC) = true)
    (iIC : PySem.W.isFn K (.ref fIC) = true)
    (lTC : K.lookup TC = some ⟨ocTC, odTC, .seq [.none, .none, .none, .none, .str (Str.ofString "") tC1].toArray nTC, slTC⟩)
    (aM0 : PySem.W.findIn K (.ref CC) "name" = some (some (.ref fM0)))
    (lM0 : K.lookup fM0 = some ⟨ocM0, odM0, .func (PySem.W.fnOf "name" "Command.name" (defArgs st_Command_name) (defBody st_Command_name) (defScope st_Command_name) .none kVM0 dcM0 pmM0 anM0 cdM0 ctM0), slM0⟩)
    (cM0 : PySem.W.codeIn K cdM0 "Command.name" = true)
    (kM0 : PySem.W.keepIn K (.ref fM0) = true)
    (iM0 : PySem.W.isFn K (.ref fM0) = true)
    (no0 : PySem.W.findIn K (.ref CC) "own_name" = some none)
    (aM1 : PySem.W.findIn K (.ref CC) "options" = some (some (.ref fM1)))
    (lM1 : K.lookup fM1 = some ⟨ocM1, odM1, .func (PySem.W.fnOf "options" "Command.options" (defArgs st_Command_options) (defBody st_Command_options) (defScope st_Command_options) .none kVM1 dcM1 pmM1 anM1 cdM1 ctM1), slM1⟩)
    (cM1 : PySem.W.codeIn K cdM1 "Command.options" = true)
    (kM1 : PySem.W.keepIn K (.ref fM1) = true)
    (iM1 : PySem.W.isFn K (.ref fM1) = true)
    (no1 : PySem.W.findIn K (.ref CC) "own_options" = some none)
    (aM2 : PySem.W.findIn K (.ref CC) "places" = some (some (.ref fM2)))
    (lM2 : K.lookup fM2 = some ⟨ocM2, odM2, .func (PySem.W.fnOf "places" "Command.places" (defArgs st_Command_places) (defBody st_Command_places) (defScope st_Command_places) .none kVM2 dcM2 pmM2 anM2 cdM2 ctM2), slM2⟩)
    (cM2 : PySem.W.codeIn K cdM2 "Command.places" = true)
    (kM2 : PySem.W.keepIn K (.ref fM2) = true)
    (iM2 : PySem.W.isFn K (.ref fM2) = true)
    (no2 : PySem.W.findIn K (.ref CC) "own_places" = some none)
    (aM3 : PySem.W.findIn K (.ref CC) "groups" = some (some (.ref fM3)))
    (lM3 : K.lookup fM3 = some ⟨ocM3, odM3, .func (PySem.W.fnOf "groups" "Command.groups" (defArgs st_Command_groups) (defBody st_Command_groups) (defScope st_Command_groups) .none kVM3 dcM3 pmM3 anM3 cdM3 ctM3), slM3⟩)
    (cM3 : PySem.W.codeIn K cdM3 "Command.groups" = true)
    (kM3 : PySem.W.keepIn K (.ref fM3) = true)
    (iM3 : PySem.W.isFn K (.ref fM3) = true)
    (no3 : PySem.W.findIn K (.ref CC) "own_groups" = some none)
    (aM4 : PySem.W.findIn K (.ref CC) "commands" = some (some (.ref fM4)))
    (lM4 : K.lookup fM4 = some ⟨ocM4, odM4, .func (PySem.W.fnOf "commands" "Command.commands" (defArgs st_Command_commands) (defBody st_Command_commands) (defScope st_Command_commands) .none kVM4 dcM4 pmM4 anM4 cdM4 ctM4), slM4⟩)
    (cM4 : PySem.W.codeIn K cdM4 "Command.commands" = true)
    (kM4 : PySem.W.keepIn K (.ref fM4) = true)
    (iM4 : PySem.W.isFn K (.ref fM4) = true)
    (no4 : PySem.W.findIn K (.ref CC) "own_commands" = some none)
    (aM5 : PySem.W.findIn K (.ref CC) "about" = some (some (.ref fM5)))
    (lM5 : K.lookup fM5 = some ⟨ocM5, odM5, .func (PySem.W.fnOf "about" "Command.about" (defArgs st_Command_about) (defBody st_Command_about) (defScope st_Command_about) .none kVM5 dcM5 pmM5 anM5 cdM5 ctM5), slM5⟩)
    (cM5 : PySem.W.codeIn K cdM5 "Command.about" = true)
    (kM5 : PySem.W.keepIn K (.ref fM5) = true)
    (iM5 : PySem.W.isFn K (.ref fM5) = true)
    (no5 : PySem.W.findIn K (.ref CC) "own_about" = some none)
    (pgC : PySem.W.plainGet K CC Str.empty = true)
    (hdC : PySem.W.hasDictIn K CC = true)
    (poC : PySem.W.plainOver K CC = true)
    (saC : PySem.W.findIn K (.ref CC) "__setattr__" = some (some (.builtin "object.__setattr__")))
    (mkC : PySem.W.makesIn K CC = true)
    (kCC : PySem.W.keepIn K (.ref CC) = true)
    (tyC : PySem.W.typeIn K (.ref CC) = some (.type "type"))
    (ssC : PySem.W.subIn K (.ref CC) (.ref CC) = some true)
    (moC : PySem.W.mroIn K CC (.type "object") = some true)
    (caC : PySem.W.findIn K (.ref CC) "__class__" = some (some (.builtin "object.__class__")))
    (sbCstr : PySem.W.subIn K (.ref CC) (.type "str") = some false)
    (sbClist : PySem.W.subIn K (.ref CC) (.type "list") = some false)
    (nrCNoneType : PySem.W.subIn K (.type "NoneType") (.ref CC) = some false)
    (nrCbool : PySem.W.subIn K (.type "bool") (.ref CC) = some false)
    (nrCint : PySem.W.subIn K (.type "int") (.ref CC) = some false)
    (nrCstr : PySem.W.subIn K (.type "str") (.ref CC) = some false)
    (nrClist : PySem.W.subIn K (.type "list") (.ref CC) = some false)
    (nrCtuple : PySem.W.subIn K (.type "tuple") (.ref CC) = some false)
    (nrCdict : PySem.W.subIn K (.type "dict") (.ref CC) = some false)
    (sOP : PySem.W.subIn K (.ref CO) (.ref CP) = some false)
    (sOC : PySem.W.subIn K (.ref CO) (.ref CC) = some false)
    (sPO : PySem.W.subIn K (.ref CP) (.ref CO) = some false)
    (sPC : PySem.W.subIn K (.ref CP) (.ref CC) = some false)
    (sCO : PySem.W.subIn K (.ref CC) (.ref CO) = some false)
    (sCP : PySem.W.subIn K (.ref CC) (.ref CP) = some false)
    (v1 : PySem.W.nsIn K mainGlobals "MOST_NAME_SIGNS" = some (some (.int 10 u1)))
    (v2 : PySem.W.nsIn K mainGlobals "NAME_SIGNS" = some (some (.str nameSet u2)))
    (v3 : PySem.W.nsIn K mainGlobals "MOST_ABOUT_SIGNS" = some (some (.int 200 u3)))
    (v4 : PySem.W.nsIn K mainGlobals "MOST_DEFAULT_SIGNS" = some (some (.int 60 u4)))
    (v5 : PySem.W.nsIn K mainGlobals "LETTERS" = some (some (.str letters u5)))
    (v6 : PySem.W.nsIn K mainGlobals "TAKES" = some (some (.ref aT)))
    (v7 : PySem.W.nsIn K mainGlobals "UNVALUED" = some (some (.ref aU)))
    (v8 : PySem.W.nsIn K mainGlobals "WITH_DEFAULT" = some (some (.ref aW)))
    (v9 : PySem.W.nsIn K mainGlobals "MANIES" = some (some (.ref aM)))
    (x1 : PySem.W.nsIn K mainGlobals "MOST_OPTIONS" = some (some (.int 12 w1)))
    (x2 : PySem.W.nsIn K mainGlobals "MOST_PLACES" = some (some (.int 6 w2)))
    (x3 : PySem.W.nsIn K mainGlobals "MOST_GROUPS" = some (some (.int 4 w3)))
    (x4 : PySem.W.nsIn K mainGlobals "FEWEST_IN_GROUP" = some (some (.int 2 w4)))
    (x5 : PySem.W.nsIn K mainGlobals "MOST_IN_GROUP" = some (some (.int 6 w5)))
    (x6 : PySem.W.nsIn K mainGlobals "MOST_COMMANDS" = some (some (.int 8 w6)))
    (l6 : K.lookup aT = some ⟨.type "tuple", odA, .seq [.str (Str.ofString "flag") s1, .str (Str.ofString "count") s2, .str (Str.ofString "one") s3, .str (Str.ofString "last") s4, .str (Str.ofString "each") s5].toArray nA, slA⟩)
    (l7 : K.lookup aU = some ⟨.type "tuple", odB, .seq [.str (Str.ofString "flag") s6, .str (Str.ofString "count") s7].toArray nB, slB⟩)
    (l8 : K.lookup aW = some ⟨.type "tuple", odC, .seq [.str (Str.ofString "one") s8, .str (Str.ofString "last") s9].toArray nC, slC⟩)
    (l9 : K.lookup aM = some ⟨.type "tuple", odM, .seq [.str (Str.ofString "one") r1, .str (Str.ofString "maybe") r2, .str (Str.ofString "some") r3, .str (Str.ofString "any") r4].toArray nM, slM⟩)
    (z_len : PySem.W.nsIn K mainGlobals "len" = some none)
    (z_max : PySem.W.nsIn K mainGlobals "max" = some none)
    (z_min : PySem.W.nsIn K mainGlobals "min" = some none)
    (z_abs : PySem.W.nsIn K mainGlobals "abs" = some none)
    (z_range : PySem.W.nsIn K mainGlobals "range" = some none)
    (z_list : PySem.W.nsIn K mainGlobals "list" = some none)
    (z_repr : PySem.W.nsIn K mainGlobals "repr" = some none)
    (z_str : PySem.W.nsIn K mainGlobals "str" = some none)
    (z_isinstance : PySem.W.nsIn K mainGlobals "isinstance" = some none)
    (z_all : PySem.W.nsIn K mainGlobals "all" = some none)
    (z_bool : PySem.W.nsIn K mainGlobals "bool" = some none)
    (z_tuple : PySem.W.nsIn K mainGlobals "tuple" = some none)
    (aLaw : PySem.W.nsIn K mainGlobals "law" = some (some (.ref fLaw)))
    (lLaw : K.lookup fLaw = some ⟨ocLaw, odLaw, .func (PySem.W.fnOf "law" "law" (defArgs st_law) (defBody st_law) (defScope st_law) .none kVLaw dcLaw pmLaw anLaw cdLaw ctLaw), slLaw⟩)
    (cLaw : PySem.W.codeIn K cdLaw "law" = true)
    (kLaw : PySem.W.keepIn K (.ref fLaw) = true) :
    ∃ fd : FuncData, (∀ (s : Shared) (v : Value), BindsTo s fd ⟨[v], []⟩ [("_law_script", v)]) ∧ ∀ base : Heap, K.In base → base.Ns mainGlobals mg → GOk l.prog w K mg base CX0 9 fa fd ["_law_script"] (spLaw K) := by
  have e := hfa.symm.trans (PySem.W.mg_of X G aLaw)
  cases e
  have g0 : ∀ {x : Str}, PySem.W.nsIn K mainGlobals x = some none → mg x = none := fun {x} z => PySem.W.mg_none_of X G z
  have DWithin := df_mk (st := st_is_text_within) (ps := ["value", "most"]) X G aWithin lWithin cWithin kWithin fun _ _ _ _ _ _ us hl => match us, hl with | [_, _], _ => rfl
  have DIsName := df_mk (st := st_is_name) (ps := ["value"]) X G aIsName lIsName cIsName kIsName fun _ _ _ _ _ _ us hl => match us, hl with | [_], _ => rfl
  have DIsAbout := df_mk (st := st_is_about) (ps := ["value"]) X G aIsAbout lIsAbout cIsAbout kIsAbout fun _ _ _ _ _ _ us hl => match us, hl with | [_], _ => rfl
  have DIsAmong := df_mk (st := st_is_among) (ps := ["value", "texts"]) X G aIsAmong lIsAmong cIsAmong kIsAmong fun _ _ _ _ _ _ us hl => match us, hl with | [_, _], _ => rfl
  have DIsDefault := df_mk (st := st_is_default) (ps := ["value", "allowed"]) X G aIsDefault lIsDefault cIsDefault kIsDefault fun _ _ _ _ _ _ us hl => match us, hl with | [_, _], _ => rfl
  have DIsShort := df_mk (st := st_is_short_or_empty) (ps := ["value"]) X G aIsShort lIsShort cIsShort kIsShort fun _ _ _ _ _ _ us hl => match us, hl with | [_], _ => rfl
  have DIsTruth := df_mk (st := st_is_truth) (ps := ["value", "allowed"]) X G aIsTruth lIsTruth cIsTruth kIsTruth fun _ _ _ _ _ _ us hl => match us, hl with | [_, _], _ => rfl
  have DComma := df_mk (st := st_comma_joined) (ps := ["values"]) X G aComma lComma cComma kComma fun _ _ _ _ _ _ us hl => match us, hl with | [_], _ => rfl
  have DLWithin := df_mk (st := st_is_list_within) (ps := ["value", "most"]) X G aLWithin lLWithin cLWithin kLWithin fun _ _ _ _ _ _ us hl => match us, hl with | [_, _], _ => rfl
  have DAreO := df_mk (st := st_are_options) (ps := ["value"]) X G aAreO lAreO cAreO kAreO fun _ _ _ _ _ _ us hl => match us, hl with | [_], _ => rfl
  have DAreP := df_mk (st := st_are_places) (ps := ["value"]) X G aAreP lAreP cAreP kAreP fun _ _ _ _ _ _ us hl => match us, hl with | [_], _ => rfl
  have DIsG := df_mk (st := st_is_group) (ps := ["value"]) X G aIsG lIsG cIsG kIsG fun _ _ _ _ _ _ us hl => match us, hl with | [_], _ => rfl
  have DAreG := df_mk (st := st_are_groups) (ps := ["value"]) X G aAreG lAreG cAreG kAreG fun _ _ _ _ _ _ us hl => match us, hl with | [_], _ => rfl
  have DAreC := df_mk (st := st_are_commands) (ps := ["value"]) X G aAreC lAreC cAreC kAreC fun _ _ _ _ _ _ us hl => match us, hl with | [_], _ => rfl
  have DEmpty := df_mk (st := st_empty_for_none) (ps := ["value"]) X G aEmpty lEmpty cEmpty kEmpty fun _ _ _ _ _ _ us hl => match us, hl with | [_], _ => rfl
  have DCopied := df_mk (st := st_copied_groups) (ps := ["groups"]) X G aCopied lCopied cCopied kCopied fun _ _ _ _ _ _ us hl => match us, hl with | [_], _ => rfl
  have DCell := df_mk (st := sCell) (ps := ["_law_script", "_law_k"]) X G aCell lCell cCell kCell fun _ _ _ _ _ _ us hl => match us, hl with | [_, _], _ => rfl
  have DPot := df_mk (st := sPot) (ps := ["_law_script", "_law_k"]) X G aPot lPot cPot kPot fun _ _ _ _ _ _ us hl => match us, hl with | [_, _], _ => rfl
  have DTake := df_mk (st := sTake) (ps := ["_law_pot_here", "_law_room"]) X G aTake lTake cTake kTake fun _ _ _ _ _ _ us hl => match us, hl with | [_, _], _ => rfl
  have DName := df_mk (st := sName) (ps := ["_law_pot_here"]) X G aName lName cName kName fun _ _ _ _ _ _ us hl => match us, hl with | [_], _ => rfl
  have DSigns := df_mk (st := sSigns) (ps := ["_law_pot_here", "_law_most"]) X G aSigns lSigns cSigns kSigns fun _ _ _ _ _ _ us hl => match us, hl with | [_, _], _ => rfl
  have DAbout := df_mk (st := sAbout) (ps := ["_law_pot_here"]) X G aAbout lAbout cAbout kAbout fun _ _ _ _ _ _ us hl => match us, hl with | [_], _ => rfl
  have DText := df_mk (st := sText) (ps := ["_law_pot_here"]) X G aText lText cText kText fun _ _ _ _ _ _ us hl => match us, hl with | [_], _ => rfl
  have DWName := df_mk (st := st_w_is_name) (ps := ["_law_thing"]) X G aWName lWName cWName kWName fun _ _ _ _ _ _ us hl => match us, hl with | [_], _ => rfl
  have DWAbout := df_mk (st := st_w_is_about) (ps := ["_law_thing"]) X G aWAbout lWAbout cWAbout kWAbout fun _ _ _ _ _ _ us hl => match us, hl with | [_], _ => rfl
  have DMany := df_mk (st := st_many) (ps := ["_law_pot_here", "_law_most"]) X G aMany lMany cMany kMany fun _ _ _ _ _ _ us hl => match us, hl with | [_, _], _ => rfl
  have DGood := df_mk (st := st_good) (ps := ["_law_pot_here"]) X G aGood lGood cGood kGood fun _ _ _ _ _ _ us hl => match us, hl with | [_], _ => rfl
  have DOdd := df_mk (st := st_odd_thing) (ps := ["_law_pot_here", "_law_at"]) X G aOdd lOdd cOdd kOdd fun _ _ _ _ _ _ us hl => match us, hl with | [_, _], _ => rfl
  have DSpoilt := df_mk (st := st_spoilt) (ps := ["_law_pot_here", "_law_told_here", "_law_at"]) X G aSpoilt lSpoilt cSpoilt kSpoilt fun _ _ _ _ _ _ us hl => match us, hl with | [_, _, _], _ => rfl
  have DIsGood := df_mk (st := st_is_good) (ps := ["_law_at", "_law_one"]) X G aIsGood lIsGood cIsGood kIsGood fun _ _ _ _ _ _ us hl => match us, hl with | [_, _], _ => rfl
  have DWrong := df_mk (st := st_wrong) (ps := ["_law_told_here"]) X G aWrong lWrong cWrong kWrong fun _ _ _ _ _ _ us hl => match us, hl with | [_], _ => rfl
  have DMade := df_mk (st := st_made) (ps := ["_law_told_here", "_law_way"]) X G aMade lMade cMade kMade fun _ _ _ _ _ _ us hl => match us, hl with | [_, _], _ => rfl
  have DDue := df_mk (st := st_due) (ps := ["_law_told_here", "_law_way"]) X G aDue lDue cDue kDue fun _ _ _ _ _ _ us hl => match us, hl with | [_, _], _ => rfl
  have DRefused := df_mk (st := st_refused) (ps := ["_law_told_here", "_law_way"]) X G aRefused lRefused cRefused kRefused fun _ _ _ _ _ _ us hl => match us, hl with | [_, _], _ => rfl
  have DBelow := df_mk (st := st_below) (ps := ["_law_command"]) X G aBelow lBelow cBelow kBelow fun _ _ _ _ _ _ us hl => match us, hl with | [_], _ => rfl
  have DLists := df_mk (st := st_lists) (ps := ["_law_told_here"]) X G aLists lLists cLists kLists fun _ _ _ _ _ _ us hl => match us, hl with | [_], _ => rfl
  have DAsked := df_mk (st := st_asked) (ps := ["_law_command"]) X G aAsked lAsked cAsked kAsked fun _ _ _ _ _ _ us hl => match us, hl with | [_], _ => rfl
  have DTold := df_mk (st := st_told) (ps := ["_law_command"]) X G aTold lTold cTold kTold fun _ _ _ _ _ _ us hl => match us, hl with | [_], _ => rfl
  have DStays := df_mk (st := st_stays) (ps := ["_law_command", "_law_due_here"]) X G aStays lStays cStays kStays fun _ _ _ _ _ _ us hl => match us, hl with | [_, _], _ => rfl
  have DRight := df_mk (st := st_right) (ps := ["_law_told_here", "_law_way"]) X G aRight lRight cRight kRight fun _ _ _ _ _ _ us hl => match us, hl with | [_, _], _ => rfl
  have FLaw := fun_mk (st := st_law) lLaw cLaw kLaw
  have FEO := fun_mk (st := st_err) lEO cEO kEO
  have bEO := FEO.binds (ps := ["self", "field"]) fun _ _ _ _ _ _ us hl => match us, hl with | [_, _], _ => rfl
  have TEO : ErrT K mg "NoOption" CNO fEO _ := ⟨⟨⟨nmO, qO, NNO, bsO, _, snO, subO, abO, colO, ddO, m0O, m1O, m2O, m3O, m5O, xNO, rfl⟩, saNO, eNO, tNO, kNO⟩, aEO, tEO, nfNO, PySem.W.mg_of X G aNO, bEO⟩
  have FIO : InitO K fIO _ := ⟨⟨_, _, _, _, _, _, _, _, _, _, rfl, lIO, cIO, .inr ⟨by simp, TO, _, _, _, rfl, lTO, rfl, .cons ⟨_, rfl⟩ (.cons ⟨_, rfl⟩ (.cons ⟨_, rfl⟩ (.cons rfl (.cons rfl (.cons rfl (.cons ⟨_, rfl⟩ .nil))))))⟩, .inl rfl⟩, kIO⟩
  have CLO : Cls K CO := ⟨pgO, hdO, poO, saO⟩
  have ICO : IsiC K CO := ⟨caO, spN, tkN, moO⟩
  obtain ⟨d1O, hv1O, b1O⟩ := initO_b1 FIO
  have TTO : ClsT K CO := ⟨CLO, nhO⟩
  have FRO := fun_mk (st := st_Option_repr) lRO cRO kRO
  have bRO := FRO.binds (ps := ["self"]) fun _ _ _ _ _ _ us hl => match us, hl with | [_], _ => rfl
  have nrO : ∀ T ∈ allT, PySem.W.kitOne K (.type T) (.ref CO) = some false := fun T hT => kit_no hdO tyO (all_T (Q := fun T => PySem.W.subIn K (.type T) (.ref CO) = some false) nrONoneType nrObool nrOint nrOstr nrOlist nrOtuple nrOdict T hT) ssO
  have FEP := fun_mk (st := WP.st_err) lEP cEP kEP
  have bEP := FEP.binds (ps := ["self", "field"]) fun _ _ _ _ _ _ us hl => match us, hl with | [_, _], _ => rfl
  have TEP : WP.ErrT K mg "NoPlace" CNP fEP _ := ⟨⟨⟨nmP, qP, NNP, bsP, _, snP, subP, abP, colP, ddP, m0P, m1P, m2P, m3P, m5P, xNP, rfl⟩, saNP, eNP, tNP, kNP⟩, aEP, tEP, nfNP, PySem.W.mg_of X G aNP, bEP⟩
  have FIP : InitP K fIP _ := ⟨⟨_, _, _, _, _, _, _, _, _, _, rfl, lIP, cIP, .inr ⟨by simp, TP, _, _, _, rfl, lTP, rfl, .cons ⟨_, rfl⟩ (.cons ⟨_, rfl⟩ (.cons rfl (.cons ⟨_, rfl⟩ .nil)))⟩, .inl rfl⟩, kIP⟩
  have CLP : Cls K CP := ⟨pgP, hdP, poP, saP⟩
  have ICP : IsiC K CP := ⟨caP, spN, tkN, moP⟩
  obtain ⟨d1P, hv1P, b1P⟩ := initP_b1 FIP
  have TTP : ClsT K CP := ⟨CLP, nhP⟩
  have FRP := fun_mk (st := st_Place_repr) lRP cRP kRP
  have bRP := FRP.binds (ps := ["self"]) fun _ _ _ _ _ _ us hl => match us, hl with | [_], _ => rfl
  have nrP : ∀ T ∈ allT, PySem.W.kitOne K (.type T) (.ref CP) = some false := fun T hT => kit_no hdP tyP (all_T (Q := fun T => PySem.W.subIn K (.type T) (.ref CP) = some false) nrPNoneType nrPbool nrPint nrPstr nrPlist nrPtuple nrPdict T hT) ssP
  have FEC := fun_mk (st := st_errC) lEC cEC kEC
  have bEC := FEC.binds (ps := ["self", "field"]) fun _ _ _ _ _ _ us hl => match us, hl with | [_, _], _ => rfl
  have TEC : ErrT K mg "NoCommand" CNC fEC _ := ⟨⟨⟨nmC, qC, NNC, bsC, _, snC, subC, abC, colC, ddC, m0C, m1C, m2C, m3C, m5C, xNC, rfl⟩, saNC, eNC, tNC, kNC⟩, aEC, tEC, nfNC, PySem.W.mg_of X G aNC, bEC⟩
  have FIC : InitC K fIC _ := ⟨⟨_, _, _, _, _, _, _, _, _, _, rfl, lIC, cIC, .inr ⟨by simp, TC, _, _, _, rfl, lTC, rfl, .cons rfl (.cons rfl (.cons rfl (.cons rfl (.cons ⟨_, rfl⟩ .nil))))⟩, .inl rfl⟩, kIC⟩
  have CLC : Cls K CC := ⟨pgC, hdC, poC, saC⟩
  have ICC : IsiC K CC := ⟨caC, spN, tkN, moC⟩
  obtain ⟨d1C, hv1C, b1C⟩ := initC_b1 FIC
  have nrC : ∀ T ∈ allT, PySem.W.kitOne K (.type T) (.ref CC) = some false := fun T hT => kit_no hdC tyC (all_T (Q := fun T => PySem.W.subIn K (.type T) (.ref CC) = some false) nrCNoneType nrCbool nrCint nrCstr nrClist nrCtuple nrCdict T hT) ssC
  have FM0 := fun_mk (st := st_Command_name) lM0 cM0 kM0
  have bM0 := FM0.binds (ps := ["self"]) fun _ _ _ _ _ _ us hl => match us, hl with | [_], _ => rfl
  have FM1 := fun_mk (st := st_Command_options) lM1 cM1 kM1
  have bM1 := FM1.binds (ps := ["self"]) fun _ _ _ _ _ _ us hl => match us, hl with | [_], _ => rfl
  have FM2 := fun_mk (st := st_Command_places) lM2 cM2 kM2
  have bM2 := FM2.binds (ps := ["self"]) fun _ _ _ _ _ _ us hl => match us, hl with | [_], _ => rfl
  have FM3 := fun_mk (st := st_Command_groups) lM3 cM3 kM3
  have bM3 := FM3.binds (ps := ["self"]) fun _ _ _ _ _ _ us hl => match us, hl with | [_], _ => rfl
  have FM4 := fun_mk (st := st_Command_commands) lM4 cM4 kM4
  have bM4 := FM4.binds (ps := ["self"]) fun _ _ _ _ _ _ us hl => match us, hl with | [_], _ => rfl
  have FM5 := fun_mk (st := st_Command_about) lM5 cM5 kM5
  have bM5 := FM5.binds (ps := ["self"]) fun _ _ _ _ _ _ us hl => match us, hl with | [_], _ => rfl
  have hT : ∀ H : Hp, SqT K H aT (takesL.map V.str) := fun H => .inr ⟨_, _, _, l6, rfl, rfl, by simp [sizeLine_eq], .cons ⟨_, rfl⟩ (.cons ⟨_, rfl⟩ (.cons ⟨_, rfl⟩ (.cons ⟨_, rfl⟩ (.cons ⟨_, rfl⟩ .nil))))⟩
  have hU : ∀ H : Hp, SqT K H aU (plainL.map V.str) := fun H => .inr ⟨_, _, _, l7, rfl, rfl, by simp [sizeLine_eq], .cons ⟨_, rfl⟩ (.cons ⟨_, rfl⟩ .nil)⟩
  have hW : ∀ H : Hp, SqT K H aW (singleL.map V.str) := fun H => .inr ⟨_, _, _, l8, rfl, rfl, by simp [sizeLine_eq], .cons ⟨_, rfl⟩ (.cons ⟨_, rfl⟩ .nil)⟩
  have hM : ∀ H : Hp, SqT K H aM (WP.manies.map V.str) := fun H => .inr ⟨_, _, _, l9, rfl, rfl, by simp [sizeLine_eq], .cons ⟨_, rfl⟩ (.cons ⟨_, rfl⟩ (.cons ⟨_, rfl⟩ (.cons ⟨_, rfl⟩ .nil)))⟩
  have gO := PySem.W.mg_of X G aCO
  have gP := PySem.W.mg_of X G aCP
  have gC := PySem.W.mg_of X G aCC
  have kOP := kit_no hdP tyP sOP ssP
  have kPO := kit_no hdO tyO sPO ssO
  have kOC := kit_no hdC tyC sOC ssC
  have kCO' := kit_no hdO tyO sCO ssO
  have kPC := kit_no hdC tyC sPC ssC
  have kCP' := kit_no hdP tyP sCP ssP
  have c3 : Cl3 K [CO, CP, CC] := ⟨all_3 CLO CLP CLC, all_3 ICO ICP ICC, fun T hT => all_3 (nrO T hT) (nrP T hT) (nrC T hT), all_3 (all_3 kit_dec1 (kit_dec kOP) (kit_dec kOC)) (all_3 (kit_dec kPO) kit_dec1 (kit_dec kPC)) (all_3 (kit_dec kCO') (kit_dec kCP') kit_dec1), all_3 (kit_subT (by decide +kernel) sbOstr) (kit_subT (by decide +kernel) sbPstr) (kit_subT (by decide +kernel) sbCstr), all_3 (kit_subT (by decide +kernel) sbOlist) (kit_subT (by decide +kernel) sbPlist) (kit_subT (by decide +kernel) sbClist)⟩
  have dis : Dis CO CP CC := ⟨kit_apart kOP, kit_apart kOC, kit_apart kPC⟩
  have TC : ClsC K CC := ⟨CLC, no0, no1, no2, no3, no4, no5⟩
  have CT : CaughtC K CNC BE := ⟨⟨gaN, ggN, eNC, hdN⟩, ⟨gaN, ggN, eNC, hdN, hcN, spN, tkN, moN⟩, PySem.W.exm_ref eNC hdN tNC sN, kit_sub hdB tB sB⟩
  obtain ⟨itO, kbO⟩ := initO_k FIO
  obtain ⟨itP, kbP⟩ := initP_k FIP
  obtain ⟨itC, kbC⟩ := initC_k FIC
  obtain ⟨itC2, kbC2⟩ := initC_k2 FIC
  obtain ⟨itC6, kbC6⟩ := initC_k6 FIC
  obtain ⟨ds4, hv4, b4⟩ := initC_b4 FIC
  refine ⟨PySem.W.fnOf "law" "law" (defArgs st_law) (defBody st_law) (defScope st_law) .none kVLaw dcLaw pmLaw anLaw cdLaw ctLaw, fun s v => ?_, fun base _ _ => ?_⟩
  · exact .of_eq rfl
  · have GIO : FnOk l.prog w K mg base (L2.CX l.prog w) 3 fIO _ optPs (spInit CO CNO) := ok_init (k := 0) FIO FEO TEO TTO DWithin DIsName DIsAbout DIsAmong DIsDefault DIsShort DIsTruth (g0 z_len) (g0 z_str) (g0 z_bool) (g0 z_isinstance) (g0 z_all) (PySem.W.mg_of X G v1) (PySem.W.mg_of X G v2) (PySem.W.mg_of X G v3) (PySem.W.mg_of X G v4) (PySem.W.mg_of X G v5) (PySem.W.mg_of X G v6) hT (PySem.W.mg_of X G v7) hU (PySem.W.mg_of X G v8) hW
    have GIP : FnOk l.prog w K mg base (L2.CX l.prog w) 3 fIP _ plcPs (WP.spInit CP CNP) := WP.ok_init (k := 0) FIP FEP TEP ⟨TTP.cl, TTP.nh⟩ DWithin DIsName DIsAbout DIsAmong DIsDefault (g0 z_len) (g0 z_str) (g0 z_isinstance) (g0 z_all) (PySem.W.mg_of X G v1) (PySem.W.mg_of X G v2) (PySem.W.mg_of X G v3) (PySem.W.mg_of X G v4) (PySem.W.mg_of X G v9) hM
    have GIC : FnOk l.prog w K mg base (L2.CX l.prog w) 4 fIC _ cmdPs (spCInit CO CP CC CNC) := ok_cinit (k := 0) FIC c3 FEC TEC TC DWithin DIsName DIsAbout DLWithin DAreO DAreP DIsG DAreG DAreC DEmpty DCopied gO gP gC (g0 z_len) (g0 z_list) (g0 z_str) (g0 z_isinstance) (g0 z_all) (PySem.W.mg_of X G v1) (PySem.W.mg_of X G v2) (PySem.W.mg_of X G v3) (PySem.W.mg_of X G x1) (PySem.W.mg_of X G x2) (PySem.W.mg_of X G x3) (PySem.W.mg_of X G x4) (PySem.W.mg_of X G x5) (PySem.W.mg_of X G x6)
    have MA : MkAll l.prog w K mg base (3 + 1) CO CP CC CNO CNP CNC fIO fIP fIC _ _ _ d1O d1P d1C := ⟨dis, ⟨mkO, aIO, iIO, kCO⟩, GIO.mono (by decide), gO, b1O, hv1O, ⟨mkP, aIP, iIP, kCP⟩, GIP.mono (by decide), gP, b1P, hv1P, ⟨mkC, aIC, iIC, kCC⟩, GIC, gC, b1C, hv1C⟩
    have MK : MkKw K _ _ _ _ _ _ _ _ _ := ⟨kbO, fun _ _ _ => rfl, kbP, fun _ _ _ => rfl, kbC, fun _ _ _ _ => rfl⟩
    have M : CmdM l.prog w K mg base (0 + 2) CO CP CC := ⟨TC, ⟨fM0, _, ⟨aM0, iM0, kM0⟩, ok_cname (k := 1) FM0 TC, bM0⟩, ⟨fM5, _, ⟨aM5, iM5, kM5⟩, ok_cabout (k := 1) FM5 TC, bM5⟩, ⟨fM1, _, ⟨aM1, iM1, kM1⟩, ok_coptions (k := 1) FM1 TC (g0 z_list), bM1⟩, ⟨fM2, _, ⟨aM2, iM2, kM2⟩, ok_cplaces (k := 1) FM2 TC (g0 z_list), bM2⟩, ⟨fM4, _, ⟨aM4, iM4, kM4⟩, ok_ccommands (k := 1) FM4 TC (g0 z_list), bM4⟩, ⟨fM3, _, ⟨aM3, iM3, kM3⟩, ok_cgroups (k := 0) FM3 TC DCopied (g0 z_list), bM3⟩, ⟨fRO, _, ok_reprO (k := 0) FRO TTO DComma (g0 z_repr), bRO, aRO, iRO⟩, ⟨fRP, _, ok_reprP (k := 0) FRP TTP DComma (g0 z_repr), bRP, aRP, iRP⟩⟩
    have GMade : FnOk l.prog w K mg base (L2.CX l.prog w) 6 fMade _ ["_law_told_here", "_law_way"] (spCMade CO CP CC CNC) := ok_cmade (k := 0) DMade.F ⟨mkC, aIC, iIC, kCC⟩ gC GIC (initC_b7 FIC) b4 hv4 kbC2 kbC6 (fun _ _ _ _ => rfl) (fun _ _ _ _ _ _ _ => rfl)
    have GMade7 : FnOk l.prog w K mg base (L2.CX l.prog w) 7 fMade _ ["_law_told_here", "_law_way"] (spCMade CO CP CC CNC) := GMade.mono (by decide)
    have GRefused : FnOk l.prog w K mg base CX0 8 fRefused _ ["_law_told_here", "_law_way"] (spRefused CO CP CC) := ok_refused (k := 7) DRefused.F DMade GMade7 TEC CT (PySem.W.mg_of X G aB) (g0 z_isinstance)
    have GLists := ok_lists (k := 0) DLists.F M DBelow (g0 z_repr) (g0 z_list)
    have GTold := ok_told (k := 0) DTold.F M DAsked DBelow (g0 z_repr) (g0 z_isinstance) (g0 z_list)
    have GStays := ok_stays (k := 0) DStays.F M DAsked DBelow DTold (g0 z_repr) (g0 z_isinstance) (g0 z_list) (g0 z_len)
    have GRight := ok_rightC (k := 0) DRight.F c3 M DDue DLists DMade DTold DStays GLists GMade7 GTold GStays (g0 z_list) (g0 z_isinstance)
    have GGood := ok_good (P := l.prog) (w := w) (mg := mg) (base := base) (k := 3) DGood.F MA MK DTake DMany DName DAbout DText DSigns (g0 z_len) (g0 z_range)
    have GSpoilt := (ok_spoilt (P := l.prog) (w := w) (mg := mg) (base := base) (k := 3) DSpoilt.F c3 MA DTake DOdd (g0 z_len) (g0 z_list) (g0 z_tuple) (g0 z_isinstance)).mono (show 7 ≤ 8 by decide)
    have GWrong := ok_wrongL (P := l.prog) (w := w) (mg := mg) (base := base) (k := 6) DWrong.F c3 DWName DWAbout DIsGood gO gP gC (g0 z_len) (g0 z_range) (g0 z_list) (g0 z_str) (g0 z_isinstance)
    have GDue := ok_due (P := l.prog) (w := w) (mg := mg) (base := base) (k := 7) DDue.F (g0 z_list)
    have GTake := ok_take (P := l.prog) (w := w) (mg := mg) (base := base) (k := 7) DTake.F
    have GPot : FnOk l.prog w K mg base CX0 8 fPot _ ["_law_script", "_law_k"] (spPot K) := ok_pot (k := 6) DPot.F DCell (g0 z_len) (g0 z_max) (g0 z_abs)
    exact ok_law (k := 8) FLaw DPot DTake DGood DSpoilt DWrong DDue DRefused DRight GPot GTake GGood GSpoilt GWrong GDue GRefused GRight (g0 z_len) (g0 z_max) (g0 z_min) (g0 z_range)
end WB

open PySem PySem.W PyProof.Rows
set_option maxRecDepth 100000
set_option Elab.async false
set_option maxHeartbeats 0 in
theorem PySem.Challenge.cw_wordbench_k13_commands_made_holds : PySem.Challenge.rw_wordbench_k13_commands_made.Holds := by
  w_on; o_law; k_head; (case hw => w_witness2)
  k_fill
  refine WG.gwalk_of (l := PySem.Challenge.rw_wordbench_k13_commands_made) (n := 63) (k := 9) (x := "_law_script") (CX := fun _ => L2.CX0) (sp := fun w => WB.spLaw _) rfl (by decide) rfl ⟨rfl, by decide, by decide⟩ (fun w h Y => PySem.W.kIn_of Y) ?F (fun _ _ a ns hl _ hS => ⟨a, ns, rfl, hS, hl, fun _ => rfl⟩) (fun _ _ _ _ _ h => h)
  case F =>
    intro w mg fa h KX G hmg
    refine' WB.all_mk KX G hmg ?aWithin ?lWithin ?cWithin ?kWithin ?aIsName ?lIsName ?cIsName ?kIsName ?aIsAbout ?lIsAbout ?cIsAbout ?kIsAbout ?aIsAmong ?lIsAmong ?cIsAmong ?kIsAmong ?aIsDefault ?lIsDefault ?cIsDefault ?kIsDefault ?aIsShort ?lIsShort ?cIsShort ?kIsShort ?aIsTruth ?lIsTruth ?cIsTruth ?kIsTruth ?aComma ?lComma ?cComma ?kComma ?aLWithin ?lLWithin ?cLWithin ?kLWithin ?aAreO ?lAreO ?cAreO ?kAreO ?aAreP ?lAreP ?cAreP ?kAreP ?aIsG ?lIsG ?cIsG ?kIsG ?aAreG ?lAreG ?cAreG ?kAreG ?aAreC ?lAreC ?cAreC ?kAreC ?aEmpty ?lEmpty ?cEmpty ?kEmpty ?aCopied ?lCopied ?cCopied ?kCopied ?aCell ?lCell ?cCell ?kCell ?aPot ?lPot ?cPot ?kPot ?aTake ?lTake ?cTake ?kTake ?aName ?lName ?cName ?kName ?aSigns ?lSigns ?cSigns ?kSigns ?aAbout ?lAbout ?cAbout ?kAbout ?aText ?lText ?cText ?kText ?aWName ?lWName ?cWName ?kWName ?aWAbout ?lWAbout ?cWAbout ?kWAbout ?aMany ?lMany ?cMany ?kMany ?aGood ?lGood ?cGood ?kGood ?aOdd ?lOdd ?cOdd ?kOdd ?aSpoilt ?lSpoilt ?cSpoilt ?kSpoilt ?aIsGood ?lIsGood ?cIsGood ?kIsGood ?aWrong ?lWrong ?cWrong ?kWrong ?aMade ?lMade ?cMade ?kMade ?aDue ?lDue ?cDue ?kDue ?aRefused ?lRefused ?cRefused ?kRefused ?aBelow ?lBelow ?cBelow ?kBelow ?aLists ?lLists ?cLists ?kLists ?aAsked ?lAsked ?cAsked ?kAsked ?aTold ?lTold ?cTold ?kTold ?aStays ?lStays ?cStays ?kStays ?aRight ?lRight ?cRight ?kRight ?aB ?tB ?hdB ?spN ?tkN ?aNO ?xNO ?aEO ?lEO ?cEO ?kEO ?tEO ?saNO ?nfNO ?kNO ?eNO ?tNO ?aCO ?aIO ?lIO ?cIO ?kIO ?iIO ?lTO ?aRO ?lRO ?cRO ?kRO ?iRO ?nhO ?pgO ?hdO ?poO ?saO ?mkO ?kCO ?tyO ?ssO ?moO ?caO ?sbOstr ?sbOlist ?nrONoneType ?nrObool ?nrOint ?nrOstr ?nrOlist ?nrOtuple ?nrOdict ?aNP ?xNP ?aEP ?lEP ?cEP ?kEP ?tEP ?saNP ?nfNP ?kNP ?eNP ?tNP ?aCP ?aIP ?lIP ?cIP ?kIP ?iIP ?lTP ?aRP ?lRP ?cRP ?kRP ?iRP ?nhP ?pgP ?hdP ?poP ?saP ?mkP ?kCP ?tyP ?ssP ?moP ?caP ?sbPstr ?sbPlist ?nrPNoneType ?nrPbool ?nrPint ?nrPstr ?nrPlist ?nrPtuple ?nrPdict ?aNC ?xNC ?aEC ?lEC ?cEC ?kEC ?tEC ?saNC ?nfNC ?kNC ?eNC ?tNC ?gaN ?ggN ?hcN ?hdN ?sN ?moN ?sB ?aCC ?aIC ?lIC ?cIC ?kIC ?iIC ?lTC ?aM0 ?lM0 ?cM0 ?kM0 ?iM0 ?no0 ?aM1 ?lM1 ?cM1 ?kM1 ?iM1 ?no1 ?aM2 ?lM2 ?cM2 ?kM2 ?iM2 ?no2 ?aM3 ?lM3 ?cM3 ?kM3 ?iM3 ?no3 ?aM4 ?lM4 ?cM4 ?kM4 ?iM4 ?no4 ?aM5 ?lM5 ?cM5 ?kM5 ?iM5 ?no5 ?pgC ?hdC ?poC ?saC ?mkC ?kCC ?tyC ?ssC ?moC ?caC ?sbCstr ?sbClist ?nrCNoneType ?nrCbool ?nrCint ?nrCstr ?nrClist ?nrCtuple ?nrCdict ?sOP ?sOC ?sPO ?sPC ?sCO ?sCP ?v1 ?v2 ?v3 ?v4 ?v5 ?v6 ?v7 ?v8 ?v9 ?x1 ?x2 ?x3 ?x4 ?x5 ?x6 ?l6 ?l7 ?l8 ?l9 ?z_len ?z_max ?z_min ?z_abs ?z_range ?z_list ?z_repr ?z_str ?z_isinstance ?z_all ?z_bool ?z_tuple ?aLaw ?lLaw ?cLaw ?kLaw
    (case aWithin => k_is)
    (case lWithin => k_is)
    (case cWithin => k_is)
    (case kWithin => k_is)
    (case aIsName => k_is)
    (case lIsName => k_is)
    (case cIsName => k_is)
    (case kIsName => k_is)
    (case aIsAbout => k_is)
    (case lIsAbout => k_is)
    (case cIsAbout => k_is)
    (case kIsAbout => k_is)
    (case aIsAmong => k_is)
    (case lIsAmong => k_is)
    (case cIsAmong => k_is)
    (case kIsAmong => k_is)
    (case aIsDefault => k_is)
    (case lIsDefault => k_is)
    (case cIsDefault => k_is)
    (case kIsDefault => k_is)
    (case aIsShort => k_is)
    (case lIsShort => k_is)
    (case cIsShort => k_is)
    (case kIsShort => k_is)
    (case aIsTruth => k_is)
    (case lIsTruth => k_is)
    (case cIsTruth => k_is)
    (case kIsTruth => k_is)
    (case aComma => k_is)
    (case lComma => k_is)
    (case cComma => k_is)
    (case kComma => k_is)
    (case aLWithin => k_is)
    (case lLWithin => k_is)
    (case cLWithin => k_is)
    (case kLWithin => k_is)
    (case aAreO => k_is)
    (case lAreO => k_is)
    (case cAreO => k_is)
    (case kAreO => k_is)
    (case aAreP => k_is)
    (case lAreP => k_is)
    (case cAreP => k_is)
    (case kAreP => k_is)
    (case aIsG => k_is)
    (case lIsG => k_is)
    (case cIsG => k_is)
    (case kIsG => k_is)
    (case aAreG => k_is)
    (case lAreG => k_is)
    (case cAreG => k_is)
    (case kAreG => k_is)
    (case aAreC => k_is)
    (case lAreC => k_is)
    (case cAreC => k_is)
    (case kAreC => k_is)
    (case aEmpty => k_is)
    (case lEmpty => k_is)
    (case cEmpty => k_is)
    (case kEmpty => k_is)
    (case aCopied => k_is)
    (case lCopied => k_is)
    (case cCopied => k_is)
    (case kCopied => k_is)
    (case aCell => k_is)
    (case lCell => k_is)
    (case cCell => k_is)
    (case kCell => k_is)
    (case aPot => k_is)
    (case lPot => k_is)
    (case cPot => k_is)
    (case kPot => k_is)
    (case aTake => k_is)
    (case lTake => k_is)
    (case cTake => k_is)
    (case kTake => k_is)
    (case aName => k_is)
    (case lName => k_is)
    (case cName => k_is)
    (case kName => k_is)
    (case aSigns => k_is)
    (case lSigns => k_is)
    (case cSigns => k_is)
    (case kSigns => k_is)
    (case aAbout => k_is)
    (case lAbout => k_is)
    (case cAbout => k_is)
    (case kAbout => k_is)
    (case aText => k_is)
    (case lText => k_is)
    (case cText => k_is)
    (case kText => k_is)
    (case aWName => k_is)
    (case lWName => k_is)
    (case cWName => k_is)
    (case kWName => k_is)
    (case aWAbout => k_is)
    (case lWAbout => k_is)
    (case cWAbout => k_is)
    (case kWAbout => k_is)
    (case aMany => k_is)
    (case lMany => k_is)
    (case cMany => k_is)
    (case kMany => k_is)
    (case aGood => k_is)
    (case lGood => k_is)
    (case cGood => k_is)
    (case kGood => k_is)
    (case aOdd => k_is)
    (case lOdd => k_is)
    (case cOdd => k_is)
    (case kOdd => k_is)
    (case aSpoilt => k_is)
    (case lSpoilt => k_is)
    (case cSpoilt => k_is)
    (case kSpoilt => k_is)
    (case aIsGood => k_is)
    (case lIsGood => k_is)
    (case cIsGood => k_is)
    (case kIsGood => k_is)
    (case aWrong => k_is)
    (case lWrong => k_is)
    (case cWrong => k_is)
    (case kWrong => k_is)
    (case aMade => k_is)
    (case lMade => k_is)
    (case cMade => k_is)
    (case kMade => k_is)
    (case aDue => k_is)
    (case lDue => k_is)
    (case cDue => k_is)
    (case kDue => k_is)
    (case aRefused => k_is)
    (case lRefused => k_is)
    (case cRefused => k_is)
    (case kRefused => k_is)
    (case aBelow => k_is)
    (case lBelow => k_is)
    (case cBelow => k_is)
    (case kBelow => k_is)
    (case aLists => k_is)
    (case lLists => k_is)
    (case cLists => k_is)
    (case kLists => k_is)
    (case aAsked => k_is)
    (case lAsked => k_is)
    (case cAsked => k_is)
    (case kAsked => k_is)
    (case aTold => k_is)
    (case lTold => k_is)
    (case cTold => k_is)
    (case kTold => k_is)
    (case aStays => k_is)
    (case lStays => k_is)
    (case cStays => k_is)
    (case kStays => k_is)
    (case aRight => k_is)
    (case lRight => k_is)
    (case cRight => k_is)
    (case kRight => k_is)
    (case aB => k_is)
    (case tB => k_is)
    (case hdB => k_is)
    (case spN => k_is)
    (case tkN => k_is)
    (case aNO => k_is)
    (case xNO => k_is)
    (case aEO => k_is)
    (case lEO => k_is)
    (case cEO => k_is)
    (case kEO => k_is)
    (case tEO => k_is)
    (case saNO => k_is)
    (case nfNO => k_is)
    (case kNO => k_is)
    (case eNO => k_is)
    (case tNO => k_is)
    (case aCO => k_is)
    (case aIO => k_is)
    (case lIO => k_is)
    (case cIO => k_is)
    (case kIO => k_is)
    (case iIO => k_is)
    (case lTO => k_is)
    (case aRO => k_is)
    (case lRO => k_is)
    (case cRO => k_is)
    (case kRO => k_is)
    (case iRO => k_is)
    (case nhO => k_is)
    (case pgO => k_is)
    (case hdO => k_is)
    (case poO => k_is)
    (case saO => k_is)
    (case mkO => k_is)
    (case kCO => k_is)
    (case tyO => k_is)
    (case ssO => k_is)
    (case moO => k_is)
    (case caO => k_is)
    (case sbOstr => k_is)
    (case sbOlist => k_is)
    (case nrONoneType => k_is)
    (case nrObool => k_is)
    (case nrOint => k_is)
    (case nrOstr => k_is)
    (case nrOlist => k_is)
    (case nrOtuple => k_is)
    (case nrOdict => k_is)
    (case aNP => k_is)
    (case xNP => k_is)
    (case aEP => k_is)
    (case lEP => k_is)
    (case cEP => k_is)
    (case kEP => k_is)
    (case tEP => k_is)
    (case saNP => k_is)
    (case nfNP => k_is)
    (case kNP => k_is)
    (case eNP => k_is)
    (case tNP => k_is)
    (case aCP => k_is)
    (case aIP => k_is)
    (case lIP => k_is)
    (case cIP => k_is)
    (case kIP => k_is)
    (case iIP => k_is)
    (case lTP => k_is)
    (case aRP => k_is)
    (case lRP => k_is)
    (case cRP => k_is)
    (case kRP => k_is)
    (case iRP => k_is)
    (case nhP => k_is)
    (case pgP => k_is)
    (case hdP => k_is)
    (case poP => k_is)
    (case saP => k_is)
    (case mkP => k_is)
    (case kCP => k_is)
    (case tyP => k_is)
    (case ssP => k_is)
    (case moP => k_is)
    (case caP => k_is)
    (case sbPstr => k_is)
    (case sbPlist => k_is)
    (case nrPNoneType => k_is)
    (case nrPbool => k_is)
    (case nrPint => k_is)
    (case nrPstr => k_is)
    (case nrPlist => k_is)
    (case nrPtuple => k_is)
    (case nrPdict => k_is)
    (case aNC => k_is)
    (case xNC => k_is)
    (case aEC => k_is)
    (case lEC => k_is)
    (case cEC => k_is)
    (case kEC => k_is)
    (case tEC => k_is)
    (case saNC => k_is)
    (case nfNC => k_is)
    (case kNC => k_is)
    (case eNC => k_is)
    (case tNC => k_is)
    (case gaN => k_is)
    (case ggN => k_is)
    (case hcN => k_is)
    (case hdN => k_is)
    (case sN => k_is)
    (case moN => k_is)
    (case sB => k_is)
    (case aCC => k_is)
    (case aIC => k_is)
    (case lIC => k_is)
    (case cIC => k_is)
    (case kIC => k_is)
    (case iIC => k_is)
    (case lTC => k_is)
    (case aM0 => k_is)
    (case lM0 => k_is)
    (case cM0 => k_is)
    (case kM0 => k_is)
    (case iM0 => k_is)
    (case no0 => k_is)
    (case aM1 => k_is)
    (case lM1 => k_is)
    (case cM1 => k_is)
    (case kM1 => k_is)
    (case iM1 => k_is)
    (case no1 => k_is)
    (case aM2 => k_is)
    (case lM2 => k_is)
    (case cM2 => k_is)
    (case kM2 => k_is)
    (case iM2 => k_is)
    (case no2 => k_is)
    (case aM3 => k_is)
    (case lM3 => k_is)
    (case cM3 => k_is)
    (case kM3 => k_is)
    (case iM3 => k_is)
    (case no3 => k_is)
    (case aM4 => k_is)
    (case lM4 => k_is)
    (case cM4 => k_is)
    (case kM4 => k_is)
    (case iM4 => k_is)
    (case no4 => k_is)
    (case aM5 => k_is)
    (case lM5 => k_is)
    (case cM5 => k_is)
    (case kM5 => k_is)
    (case iM5 => k_is)
    (case no5 => k_is)
    (case pgC => k_is)
    (case hdC => k_is)
    (case poC => k_is)
    (case saC => k_is)
    (case mkC => k_is)
    (case kCC => k_is)
    (case tyC => k_is)
    (case ssC => k_is)
    (case moC => k_is)
    (case caC => k_is)
    (case sbCstr => k_is)
    (case sbClist => k_is)
    (case nrCNoneType => k_is)
    (case nrCbool => k_is)
    (case nrCint => k_is)
    (case nrCstr => k_is)
    (case nrClist => k_is)
    (case nrCtuple => k_is)
    (case nrCdict => k_is)
    (case sOP => k_is)
    (case sOC => k_is)
    (case sPO => k_is)
    (case sPC => k_is)
    (case sCO => k_is)
    (case sCP => k_is)
    (case v1 => k_is)
    (case v2 => k_is)
    (case v3 => k_is)
    (case v4 => k_is)
    (case v5 => k_is)
    (case v6 => k_is)
    (case v7 => k_is)
    (case v8 => k_is)
    (case v9 => k_is)
    (case x1 => k_is)
    (case x2 => k_is)
    (case x3 => k_is)
    (case x4 => k_is)
    (case x5 => k_is)
    (case x6 => k_is)
    (case l6 => k_is)
    (case l7 => k_is)
    (case l8 => k_is)
    (case l9 => k_is)
    (case z_len => k_is)
    (case z_max => k_is)
    (case z_min => k_is)
    (case z_abs => k_is)
    (case z_range => k_is)
    (case z_list => k_is)
    (case z_repr => k_is)
    (case z_str => k_is)
    (case z_isinstance => k_is)
    (case z_all => k_is)
    (case z_bool => k_is)
    (case z_tuple => k_is)
    (case aLaw => k_is)
    (case lLaw => k_is)
    (case cLaw => k_is)
    (case kLaw => k_is)
