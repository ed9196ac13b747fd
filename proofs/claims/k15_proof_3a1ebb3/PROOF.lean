import PyProof.Rows.All
import Wide.All
import OpenK.AllK
import Wide.FinOn
import KE.KIsAll
import PyProof.ReprRoads
import PyProof.StrBlock2
import HandS.ForMost
import HandS.IsInst
import HandS.Exc
import HandS.ExcInit
import HandS.ExcField
import HandS.ExcIs
import HandS.TryOnly
import HandS.WordsExc
import HandS.Defaults
import HandS.MakeKw
import HandS.MakeKwOnly
import PySem.Challenge.RW_wordbench_k15_whole_clashes_taken_out
import HandS.Walk
import HandS.OwnEq
import HandS.SlotsOwn
import PyProof.InstNe
import PyProof.EqKinds
import HandS.FStr
import PyProof.ReprNest
import PyProof.StrHeap
import PyProof.ReprHeadsEmpty
import HandS.ExcOwn
import KE.KRevSl
import HandS.Strs
set_option Elab.async false
set_option linter.all false
set_option maxRecDepth 100000
set_option maxHeartbeats 4000000
namespace WG
open PySem PySem.Spec PyProof.Rows L2
/-! ### a def's promise where no repr is under way -/
structure GOk (P : Program) (w : World) (K : PySem.W.Frag) (mg : Str → Option Value) (base : Heap) (CX : CXT) (k : Nat) (f : Addr) (fd : FuncData) (ps : List Str) (sp : Sp) : Prop where
  len : ∀ vs H Q E, sp vs H Q E → vs.length = ps.length
  run : ∀ (A : Around) (outer : List Env) (s : Shared) (H : Hp) (args : Args) (us : List Value) (vs : List V) (Q : VK) (E : XK), A.guards = some [] → Room k A → Env0 P w K mg base A outer s H →
    BindsTo s fd args (ps.zip us) → Vals vs us → sp vs H Q E → codeAny (model P w) A (.call (.ref f) args) (CR CX outer P w H s Q E) s
theorem GOk.of {P : Program} {w : World} {K : PySem.W.Frag} {mg : Str → Option Value} {base : Heap} {CX : CXT} {k : Nat} {f : Addr} {fd : FuncData} {ps : List Str} {sp : Sp} (F : FnOk P w K mg base CX k f fd ps sp) : GOk P w K mg base CX k f fd ps sp :=
  ⟨F.len, fun A o s H args us vs Q E _ => F.run A o s H args us vs Q E⟩
section
variable {CX : CXT} {P : Program} {w : World} {K : PySem.W.Frag} {mg : Str → Option Value} {base : Heap} {k : Nat} {f : Addr} {N ps : List Str} {sp : Sp}
theorem gfn_of {name qual : Str} {params : Arguments} {body : List Stmt} {scope : Scope} {dV kV doc pm cdv ct oc : Value} {an od : Option Addr} {osl : Array (Option Value)}
    (lk : K.lookup f = some ⟨oc, od, .func (PySem.W.fnOf name qual params body scope dV kV doc pm an cdv ct), osl⟩) (hcd : PySem.W.codeIn K cdv qual = true) (S : FnScope N ps scope) (len : ∀ vs H Q E, sp vs H Q E → vs.length = ps.length)
    (hbody : ∀ (A : Around) (outer : List Env) (s : Shared) (H : Hp) (vs : List V) (Q : VK) (E : XK), A.guards = some [] → Room k (A.deeper (envOfC qual scope s.heap.objs.size f cdv)) → sp vs H Q E →
      ∃ t, PSs (cxOf CX P w K mg base N qual scope f cdv A outer s H E) body t ∧ t { nx := fun _ H' => Q .non H', rt := Q } (L2.start N vs) H) :
    GOk P w K mg base CX (k + 1) f (PySem.W.fnOf name qual params body scope dV kV doc pm an cdv ct) ps sp := by
  refine ⟨len, fun A outer s H args us vs Q E hgd room env bnd rel want => ?_⟩
  have hlen := len _ _ _ _ want
  have kin : K.In s.heap := env.mod.kin.keeps fun b o q => (env.bs b o q).1
  have nolim : s.heap.NoLimit := env.mod.nolimit.keeps fun b o q => (env.bs b o q).1
  have kinds : ∀ y ∈ ps.zip us, scope.names.lookup y.1 = some .local ∨ (scope.names.lookup y.1 = some .cell ∧ ((cellsFrom (s.heap.objs.size + 1) scope.names []).lookup y.1).isSome = true) := by
    intro y hy
    obtain ⟨n, v⟩ := y
    cases S.par n (List.of_mem_zip hy).1 with
    | inl z => exact .inl z
    | inr z => exact .inr ⟨z, PySem.W.cellsFrom_some _ _ _ (.inl z)⟩
  refine codeAny_call_function room.depth (kin _ _ lk) rfl S.co S.gen rfl (PySem.W.codeRec_of kin hcd) (bnd _ _ _ _ ?_)
  refine wpAny_newFunctionEnv_cells S.kind kinds fun e2 he2 s1 hx => ?_
  subst he2
  refine ⟨nolim.keeps hx.toInCall.keep, codeAny_func ?_⟩
  obtain ⟨t, tb, tq⟩ := hbody A outer s H vs Q E hgd (room.deeper _) want
  have I : Inv (cxOf CX P w K mg base N qual scope f cdv A outer s H E) [] (L2.start N vs) H s1 := inv_start S room.hd env hlen rel hx
  refine wpAny_mono (tb.run [] s1 (L2.start N vs) H _ I tq) (fun fl s' hs => ?_) fun e s' hs => hs
  cases fl with
  | ret u =>
    obtain ⟨v, _, H', J, rv, q⟩ := hs
    exact ⟨v, H', J.os, J.bare, J.base, J.hok, rv, q⟩
  | next =>
    obtain ⟨_, H', J, q⟩ := hs
    exact ⟨V.non, H', J.os, J.bare, J.base, J.hok, rfl, q⟩
  | brk =>
    obtain ⟨_, _, _, q⟩ := hs
    exact False.elim q
  | cont =>
    obtain ⟨_, _, _, q⟩ := hs
    exact False.elim q
theorem gfun_ok {x qual : Str} {st : Stmt} {fd : FuncData} (F : Fun K x qual st f fd) (S : FnScope N ps (defScope st)) (len : ∀ vs H Q E, sp vs H Q E → vs.length = ps.length)
    (hbody : ∀ (cdv : Value) (A : Around) (outer : List Env) (s : Shared) (H : Hp) (vs : List V) (Q : VK) (E : XK), A.guards = some [] → Room k (A.deeper (envOfC qual (defScope st) s.heap.objs.size f cdv)) → sp vs H Q E →
      ∃ t, PSs (cxOf CX P w K mg base N qual (defScope st) f cdv A outer s H E) (defBody st) t ∧ t { nx := fun _ H' => Q .non H', rt := Q } (L2.start N vs) H) : GOk P w K mg base CX (k + 1) f fd ps sp := by
  obtain ⟨oc, od, kV, doc, pm, an, cdv, ct, osl, rfl, lk, hcd⟩ := F.ex
  exact gfn_of lk hcd S len fun A outer s H vs Q E hg hr hsp => hbody cdv A outer s H vs Q E hg hr hsp
end
section
variable {X : Cx} {CX : CXT} {k : Nat} {f : Addr} {fd : FuncData} {ps : List Str} {sp : Sp} {E : XK} {x : Str} {p pos : Pos} {e : Expr} {es : List Expr} {t : TA}
theorem pe_callG (F : GOk X.prog X.w X.K X.mg X.base CX k f fd ps sp) (hgd : X.A.guards = some []) (hr : Room k X.A) (hg : Gl X x) (hm : X.mg x = some (.ref f)) (hk : PySem.W.keepIn X.K (.ref f) = true) (hb : Binds X.K fd ps []) (hx : Passes CX X E)
    (ha : PA X (e :: es) t) (hdb : (x == ("__debug__" : Str)) = false := by decide) (he : starEach (e :: es) X.env = (false, eval e X.env) :: starEach es X.env := by rfl) (hpl : (backTo pos (starEach es X.env)).any (·.1) = false := by rfl) :
    PE X (.Call (.Name x p) (e :: es) [] pos) (tCall sp [] E t) := by
  constructor
  intro pins s σ H Q I h
  refine wpAny_Call_Name_kw (ld_glob I hg hm ?_ hdb)
  refine PySem.W.callWith_K (h₀ := X.base) I.ok.mod.kin hk (thn (ha.run pos pins s σ H _ I h) fun us s1 ⟨vs, H1, I1, r, q⟩ => ⟨I1.kIn, ?_⟩) he hpl
  have q : sp vs H1 Q E := by
    have z : sp (vs ++ []) H1 Q E := q
    rw [List.append_nil] at z
    exact z
  have hl : (us ++ []).length = ps.length := by
    rw [List.append_nil, ← r.length]
    exact F.len _ _ _ _ q
  have b := hb s1 us I1.kIn hl
  rw [List.append_nil] at b
  refine wpAny_call (codeAny_mono (F.run X.A X.stack s1 H1 ⟨us, []⟩ us vs Q E hgd hr I1.env0 b r q) fun rr s' hq => ?_)
  cases rr with
  | error er => exact hx pins σ H1 s1 er s' I1 hq
  | ok fl =>
    cases fl with
    | ret u => exact I1.after hq
    | next => exact hq.elim
    | brk => exact hq.elim
    | cont => exact hq.elim
end
/-! ### the law's end over such a promise -/
theorem glaw_call {P : Program} {w : World} {K : PySem.W.Frag} {mg mb : Str → Option Value} {CX : CXT} {k : Nat} {fa a : Addr} {fd : FuncData} {x : Str} {sp : Sp} {t : Shared} {vs : List Value} {ns : List Int}
    (kin : K.In t.heap) (nsm : t.heap.Ns mainGlobals mg) (nsb : t.heap.Ns builtinsNs mb) (hbb : ∀ x : Str, x ≠ "__name__" → mb x = bootBuiltins x) (nolim : t.heap.NoLimit) (nogen : t.gens = #[])
    (obj : t.heap.get? a = some { cls := .type "list", data := .seq vs.toArray }) (hints : IntsAre vs ns) (hl : ns.length ≤ sizeLine) (room : Room k callerA)
    (F : ∀ base : Heap, K.In base → base.Ns mainGlobals mg → GOk P w K mg base CX k fa fd [x] sp) (bnd : ∀ (s : Shared) (u : Value), BindsTo s fd ⟨[u], []⟩ [(x, u)])
    (want : ∀ H : Hp, Only H → SqL K H a (ns.map V.int) → sp [.ref a] H (fun v _ => v = .bl true) fun _ _ _ => False)
    (noX : ∀ H e s', CX [] H t (fun _ _ _ => False) e s' → False) :
    codeAny (model P w) callerA (.call (.ref fa) ⟨[.ref a], []⟩) (fun r s' => r = .ok (.ret (.bool true)) ∧ OldK t.heap s'.heap ∧ s'.os = t.os ∧ AllBare s'.gens) t := by
  have rv := vals_ints hints
  have hlv := hints.length
  have main : ∀ H : Hp, Only H → SqL K H a (ns.map V.int) → HOk P w H t.heap → (∀ b, H b ≠ none → b = a) → (H a ≠ none → K.lookup a = none) →
      codeAny (model P w) callerA (.call (.ref fa) ⟨[.ref a], []⟩) (fun r s' => r = .ok (.ret (.bool true)) ∧ OldK t.heap s'.heap ∧ s'.os = t.os ∧ AllBare s'.gens) t := by
    intro H only hS ok onlyA hK
    have noD : ∀ {b : Addr} {o : Obj} {es : Array DictEntry} {ep : Nat}, t.heap.get? b = some o → o.data = .dict es ep → H b = none := by
      intro b o es ep e d
      cases q : H b with
      | none => rfl
      | some u =>
        have z := onlyA b (by rw [q]; exact Option.some_ne_none u)
        subst z
        rw [obj] at e
        cases e
        cases d
    have nsH : ∀ {b : Addr} {m : Str → Option Value}, t.heap.Ns b m → (hidT t.heap H).Ns b m := by
      rintro b m ⟨o, es, ep, e, d, r⟩
      exact ⟨o, es, ep, hidT_get e (noD e d), d, r⟩
    have kinH : K.In (hidT t.heap H) := by
      intro b o e
      refine hidT_get (kin b o e) ?_
      cases q : H b with
      | none => rfl
      | some u =>
        have z := onlyA b (by rw [q]; exact Option.some_ne_none u)
        subst z
        rw [hK (by rw [q]; exact Option.some_ne_none u)] at e
        cases e
    have md : Mod K mg (hidT t.heap H) := by
      refine ⟨kinH, nsH nsm, ⟨mb, nsH nsb, hbb⟩, ?_⟩
      obtain ⟨mc, h1, h2⟩ := nolim
      exact ⟨mc, nsH h1, h2⟩
    have env : Env0 P w K mg (hidT t.heap H) callerA [] t H :=
      ⟨rfl, md, fun b o e => of_hidT e, Nat.le_of_eq (hidT_size _ _), trivial, fun b hb => (List.not_mem_nil (show b ∈ ([] : List Addr) from hb)).elim, ok, .of_eq nogen⟩
    refine codeAny_mono ((F _ kinH (nsH nsm)).run callerA [] t H ⟨[.ref a], []⟩ [.ref a] [.ref a] _ _ rfl room env (bnd t (.ref a)) (.cons rfl .nil) (want H only hS)) fun r s' h => ?_
    cases r with
    | error e => exact (noX H e s' h).elim
    | ok fl =>
      cases fl with
      | next => exact h.elim
      | brk => exact h.elim
      | cont => exact h.elim
      | ret u =>
        obtain ⟨v, H', os, bare, un, ok', r', q⟩ := h
        have q' : v = .bl true := q
        subst q'
        cases r'
        refine ⟨rfl, OldK.of_keep fun b o e => ?_, os, bare⟩
        cases q : H b with
        | none => exact un.keep b o e q (fun z => (List.not_mem_nil (show b ∈ ([] : List Addr) from z)).elim) List.not_mem_nil
        | some u =>
          rcases only b with z | ⟨ob, xs, z⟩
          · rw [q] at z
            cases z
          · obtain ⟨e1, _⟩ := ok b _ z
            obtain ⟨e2, _⟩ := ok' b _ (un.frzs b ob _ z)
            rw [e] at e1
            cases e1
            exact e2
  cases hk : K.lookup a with
  | some o =>
    have e := kin a o hk
    rw [obj] at e
    cases e
    refine main (fun _ => none) (fun _ => .inl rfl) (.inr ⟨_, vs.toArray, _, hk, rfl, rfl, rfl, ?_, by simpa using rv⟩) (fun b u z => by cases (show (none : Option HO) = some u from z)) (fun b z => absurd rfl z) fun z => absurd rfl z
    rw [List.size_toArray, hlv]
    exact hl
  | none =>
    refine main (fun b => if b = a then some (.frz { cls := .type "list", data := .seq vs.toArray } (.lst (ns.map V.int))) else none) (fun b => ?_) (.inl (.inr ⟨_, if_pos rfl⟩)) (fun b u z => ?_) (fun b z => ?_) fun _ => hk
    · by_cases hb : b = a
      · exact .inr ⟨_, _, if_pos hb⟩
      · exact .inl (if_neg hb)
    · by_cases hb : b = a
      · have z' := (if_pos hb).symm.trans z
        cases z'
        subst hb
        exact ⟨obj, by rw [List.length_map]; exact hl, vs, _, rv, obj⟩
      · have z' := (if_neg hb).symm.trans z
        cases z'
    · by_cases hb : b = a
      · exact hb
      · exact absurd (if_neg hb) z
theorem gwalk_of {l : PySem.W.OpenLaw} {n k : Nat} {q : Program} {loose : List Str} {XP : (Str → Option Value) → Heap → Prop} {YP : World → Heap → Prop} {d : DefRec} {K : Params → PySem.W.Frag} {CX : World → CXT} {sp : World → Sp} {x : Str}
    (hn : l.most = some n) (hn2 : n ≤ sizeLine) (hdf : d.params.defaults = []) (hr : Room k callerA) (hY : ∀ (w : World) (h : Heap), YP w h → (K w.params).In h)
    (F : ∀ (w : World) (mg : Str → Option Value) (fa : Addr) (h : Heap), (K w.params).In h → h.Ns mainGlobals mg → mg d.name = some (.ref fa) →
      ∃ fd : FuncData, (∀ (s : Shared) (u : Value), BindsTo s fd ⟨[u], []⟩ [(x, u)]) ∧ ∀ base : Heap, (K w.params).In base → base.Ns mainGlobals mg → GOk l.prog w (K w.params) mg base (CX w) k fa fd [x] (sp w))
    (hsp : ∀ (w : World) (H : Hp) (a : Addr) (ns : List Int), ns.length ≤ n → Only H → SqL (K w.params) H a (ns.map V.int) → sp w [.ref a] H (fun v _ => v = .bl true) fun _ _ _ => False)
    (hCX : ∀ (w : World) (H : Hp) (s : Shared) (e : Value) (s' : Shared), CX w [] H s (fun _ _ _ => False) e s' → False) : PySem.W.WalkO q loose XP YP l.row.toRowW d [] (fun f vs => PySem.call f vs) := by
  refine Att.attach_call hn hdf fun w s0 s1 mg mb fa o pm cd doc a vs ns G Y ho hd hcd hmg hobj hints hlen hg => ?_
  obtain ⟨fd, hb, hF⟩ := F w mg fa _ (hY w _ Y) G.T.g hmg
  exact glaw_call (hY w _ Y) G.T.g G.T.b G.T.builtins G.T.nolimit hg hobj hints (Nat.le_trans hlen hn2) hr hF hb (fun H hO hS => hsp w H a ns hlen hO hS) fun H e s' => hCX w H s1 e s'
/-! ### text * int -/
theorem fold_toList : ∀ (l : List (Array Nat)) (acc : Array Nat), (l.foldl (· ++ ·) acc).toList = acc.toList ++ (l.map Array.toList).flatten
  | [], acc => by simp
  | x :: l, acc => by
    rw [List.foldl_cons, fold_toList l]
    simp
theorem mul_tl (z : Str) (n : Nat) : (Txt.mul z (n : Int)).cps.toList = (List.replicate n z.cps.toList).flatten := by
  unfold Txt.mul
  by_cases h1 : (n : Int) < 1
  · have e : n = 0 := by omega
    subst e
    rw [if_pos h1]
    rfl
  · rw [if_neg h1]
    by_cases h2 : ((n : Int) == 1 || z.length == 0) = true
    · rw [if_pos h2]
      rcases Bool.or_eq_true_iff.mp h2 with e | e
      · have e1 : n = 1 := by
          have := eq_of_beq e
          omega
        subst e1
        simp
      · have e1 : z.cps.toList = [] := List.length_eq_zero_iff.mp (by
          have := eq_of_beq e
          simpa [Str.length] using this)
        rw [e1]
        simp
    · rw [if_neg h2]
      show ((List.replicate (n : Int).toNat z.cps).foldl (· ++ ·) #[]).toList = _
      rw [fold_toList, Int.toNat_natCast, List.map_replicate]
      rfl
theorem op_mul_str {X : Cx} : OpR X (binaryOp .Mult) (fun x y H Q => ∃ (z : Str) (n : Nat), x = .str z ∧ y = .int (n : Int) ∧ n ≤ 1000 ∧ z.length ≤ 1000 ∧ ∀ y : Str, y.length = z.length * n → (∀ c ∈ y.cps.toList, c ∈ z.cps.toList) → Q (.str y) H) := by
  intro pins s σ H x y v u Q I rx ry h
  obtain ⟨z, n, rfl, rfl, hn, hz, q⟩ := h
  obtain ⟨tx, rfl⟩ := rx
  obtain ⟨ty, rfl⟩ := ry
  have pw : z.length * n ≤ 1000000 := Nat.le_trans (Nat.mul_le_mul hz hn) (by decide)
  refine PySem.SB.mul ⟨?_, fun h1 h2 => ?_, fun h1 h2 => ?_⟩ fun t' k => ⟨.str _, H, I.tok k, ⟨t', rfl⟩, q _ ?_ ?_⟩
  · rw [decide_eq_false (by omega), decide_eq_false (by omega)]
    rfl
  · have e : (1000 : Int) ≤ (2 ^ 63 - 1) / (n : Int) := by
      have h3 : (0 : Int) < n := by omega
      exact (Int.le_ediv_iff_mul_le h3).mpr (by omega)
    omega
  · rw [Int.toNat_natCast]
    exact decide_eq_false (by show ¬ sizeLine < _; have : sizeLine = 16777216 := sizeLine_eq; omega)
  · rw [TL.len_tl, TL.len_tl z]
    show (Txt.mul z (n : Int)).cps.toList.length = _
    rw [mul_tl]
    simp [Nat.mul_comm]
  · intro c hc
    rw [mul_tl] at hc
    obtain ⟨l, hl, hcl⟩ := List.mem_flatten.mp hc
    rw [(List.mem_replicate.mp hl).2] at hcl
    exact hcl
/-! ### repr of a list -/
/-- a value and the data that it is: as in Dp, and dicts of none or one text with an int -/
inductive Itm (K : PySem.W.Frag) (H : Hp) : V → PyData → Prop
  | dp {v : V} {d : PyData} (h : Dp K H v d) (nd : d.hasDict = false) : Itm K H v d
  | d0 {a : Addr} (h : H a = some (.dK [])) : Itm K H (.ref a) (.dict [])
  | d1 {a : Addr} {x : Str} {i : Int} (h : H a = some (.dK [(Sum.inr x, .int i)])) : Itm K H (.ref a) (.dict [(.str x, .int i)])
inductive ItmAll (K : PySem.W.Frag) (H : Hp) : List V → List PyData → Prop
  | nil : ItmAll K H [] []
  | cons {v : V} {vs : List V} {d : PyData} {ds : List PyData} : Itm K H v d → ItmAll K H vs ds → ItmAll K H (v :: vs) (d :: ds)
section
variable {X : Cx} {pins : List (Addr × Obj)} {σ : L2.St} {H : Hp} {s : Shared}
theorem Itm.reads (I : Inv X pins σ H s) {v : V} {u : Value} {d : PyData} (h : Itm X.K H v d) (r : RelV v u) : ∃ as, Reads s.heap u d as ∧ (d.hasDict = true → sysModules ∉ as) := by
  cases h with
  | dp h nd =>
    obtain ⟨as, q⟩ := Dp.reads I d v u h r
    exact ⟨as, q, fun z => by rw [nd] at z; cases z⟩
  | @d0 a h =>
    cases r
    obtain ⟨_, ns, vs, kv, o, es, ep, ho, hx, hd, hk, hp, _⟩ := I.hok _ _ h
    cases kv
    generalize hl : es.toList = l at hp
    cases hp
    refine ⟨_, Reads.dict (kvs := []) (as := []) (bs := []) ho hx.1 hd (by rw [hl]; exact .nil) (by rw [hl]; exact .nil), fun _ => ?_⟩
    intro hm
    rcases List.mem_cons.mp hm with e | e
    · rw [← e] at ns
      exact absurd ns (by decide)
    · cases e
  | @d1 a x i h =>
    cases r
    obtain ⟨_, ns, vs, kv, o, es, ep, ho, hx, hd, hk, hp, _⟩ := I.hok _ _ h
    cases kv with
    | cons h1 h2 =>
      cases h2
      obtain ⟨e1, t, e2⟩ := h1
      rename_i b nd2
      obtain ⟨b1, b2⟩ := b
      dsimp only at e1 e2
      subst e1 e2
      generalize hl : es.toList = l at hp
      cases hp with
      | cons k1 k2 k3 =>
        cases k3
        rename_i en
        obtain ⟨hh, ky, vl⟩ := en
        dsimp only at k1 k2
        subst k2
        have k1' : keyIs (Sum.inr x) ky = true := k1
        rcases keyIs_shape k1' with ⟨j, t', z, _⟩ | ⟨y, t', z, rfl⟩
        · cases z
        · cases z
          refine ⟨_, Reads.dict (kvs := [(.str x, .int i)]) ho hx.1 hd (by rw [hl]; exact .cons (.str x t') .nil) (by rw [hl]; exact .cons (.int i t) .nil), fun _ => ?_⟩
          intro hm
          rcases List.mem_cons.mp hm with e | e
          · rw [← e] at ns
            exact absurd ns (by decide)
          · cases e
theorem ItmAll.all (I : Inv X pins σ H s) : ∀ {vs : List V} {ds : List PyData} {us : List Value}, ItmAll X.K H vs ds → Vals vs us → PyData.showableAll ds = true → (∀ t ∈ PyData.shownAll ds, t.length ≤ sizeLine) →
    (∃ as, ReadsAll s.heap us ds as) ∧ ∃ bs, ReadAtMost s.heap (PyData.depthAll ds) bs ∧ ReprAllK X.prog X.w bs s.heap (PyData.depthAll ds) us (PyData.shownAll ds)
  | _, _, _, .nil, .nil, _, _ => ⟨⟨_, .nil⟩, [], (fun _ h => nomatch h), by simp only [PyData.shownAll]; exact .nil⟩
  | _, _, _, .cons (d := d) (ds := ds) h1 h2, .cons r1 r2, hs, hz => by
    have hs' : d.showable = true ∧ PyData.showableAll ds = true := by simpa [PyData.showableAll] using hs
    obtain ⟨as, q, nq⟩ := h1.reads I r1
    obtain ⟨⟨as2, q2⟩, bs2, b2, k2⟩ := ItmAll.all I h2 r2 hs'.2 (fun t ht => hz t (by simp only [PyData.shownAll]; exact List.mem_cons_of_mem _ ht))
    obtain ⟨bs1, b1, k1⟩ := ReprK.of_reads (prog := X.prog) (w := X.w) q hs'.1 nq (hz _ (by simp only [PyData.shownAll]; exact List.mem_cons_self ..))
    refine ⟨⟨_, .cons q q2⟩, bs1 ++ bs2, ?_, ?_⟩
    · have e1 : d.depth ≤ PyData.depthAll (d :: ds) := by simp only [PyData.depthAll]; omega
      have e2 : PyData.depthAll ds ≤ PyData.depthAll (d :: ds) := by simp only [PyData.depthAll]; omega
      exact (b1.mono e1).append (b2.mono e2)
    · have e1 : d.depth ≤ PyData.depthAll (d :: ds) := by simp only [PyData.depthAll]; omega
      have e2 : PyData.depthAll ds ≤ PyData.depthAll (d :: ds) := by simp only [PyData.depthAll]; omega
      simp only [PyData.shownAll]
      exact .cons ((k1.more fun b hb => List.mem_append_left _ hb).level_le e1) (k2.more_le (fun b hb => List.mem_append_right _ hb) e2)
/-- repr(l) -/
def rRepr (K : PySem.W.Frag) : List V → Hp → VK → Prop := fun xs H Q => ∃ (a : Addr) (vs : List V) (ds : List PyData), xs = [.ref a] ∧ SqL K H a vs ∧ vs ≠ [] ∧ ItmAll K H vs ds ∧ PyData.showableAll ds = true ∧ PyData.depthAll ds ≤ 8 ∧
  (listText (PyData.shownAll ds)).length ≤ sizeLine ∧ Q (.str (listText (PyData.shownAll ds))) H
end
theorem call_repr_l {X : Cx} (hg : X.A.guards = some []) (hu : X.A.units + 16 < cLine) : CallR X (.builtin "repr") (rRepr X.K) := by
  intro pins s σ H xs us Q I r h
  obtain ⟨a, vs, ds, rfl, hS, hne, hI, hs, hdp, hz, q⟩ := h
  cases r with
  | cons ra rr =>
    cases rr
    cases ra
    obtain ⟨its, rv, ⟨o, n, ho, hc, hdx, hd⟩, _⟩ := I.list hS
    obtain ⟨⟨as, hr⟩, bs, hb, hk⟩ := ItmAll.all I hI rv hs (fun t ht => Nat.le_trans (listText_mem_le ht) hz)
    cases its with
    | nil =>
      cases rv
      exact absurd rfl hne
    | cons x l =>
      have rd : Reads s.heap (.ref a) (.list ds) _ := Reads.list ho hc hd hr
      have hna : a ∉ bs := not_mem_of_deeper rd (by simp only [PyData.depth]; omega) hb
      refine call_repr_slot (T := "list") (idr := "list.__repr__") (by omega) ⟨o, ho, hc⟩ F.slot_list_repr.toG ?_
      exact call_list_reprK (h₀ := s.heap) (as := bs) ho hc hd hna (by simpa using hk.length_eq) (fun i y e => hk.item i y (by simpa using e)) (g := []) hg (fun b _ => Clear.nil b) (by show X.A.units + 1 + (_ + 1) < cLine; omega) (fun _ _ e => e)
        (fun h' u tk hkp => ⟨_, _, rfl, .str _, H, I.kept (t' := tk) hkp, ⟨u, rfl⟩, q⟩) hz
end WG

set_option Elab.async false
set_option linter.all false
set_option maxRecDepth 100000
set_option maxHeartbeats 4000000
namespace WG
open PySem PySem.Spec PySem.Calls PyProof.Rows PySem.W
section
variable {prog : Program} {w : World} {A : Around} {E : Value → Shared → Prop} {s : Shared} {K : Frag} {x D : Addr} {ox : Obj} {od : Option Obj}
theorem find_dat {C : Addr} {name : Str} {a g : Value} (hc : (clsIn K C).isSome = true) (ha : findIn K (.ref C) name = some (some a)) (hg : specialIn K a "__get__" = some (some g)) (ht : takesIn K a = some true) :
    findObj K C od name = some (.bind g a) := by
  obtain ⟨cd, hcd⟩ := Option.isSome_iff_exists.mp hc
  unfold findObj
  rw [hcd, Option.bind_some, ha, Option.bind_some]
  simp [hg, ht]
theorem exc_class {Q : Option Value → Shared → Prop} (c : L2.ExcC K D) (kin : K.In s.heap) (at0 : InstAt s.heap x ox D od) (h : Q (some (.ref D)) { s with toks := s.toks + 1 }) : wpAny (model prog w) A (getAttr? (.ref x) "__class__") Q E s := by
  have hf : findObj K D od "__class__" = some (.bind (.builtin "getset_descriptor.__get__") (.builtin "object.__class__")) := by
    refine find_dat ?_ c.ha c.hn c.ht
    obtain ⟨cd, hcd, _⟩ := any_some c.hd
    rw [hcd] <;> rfl
  obtain ⟨hh, gs, dr, tk, os⟩ := s
  have t0 := at0.type (M := model prog w)
  have t1 := looks_findIn (M := model prog w) kin c.hg
  have t2 := looks_findIn (M := model prog w) kin c.hk
  have t3 := looks_find (M := model prog w) kin at0 hf
  have isb : Looks (model prog w) hh (isInstance (.ref x) (.type "BaseException")) true := t0.andThen (looks_subIn kin c.hs)
  have z0 : (false && onTheHeap (Value.builtin "BaseException.__getattribute__")) = false := rfl
  have z2 : (Value.builtin "BaseException.__getattribute__" == Value.builtin "object.__getattribute__") = false := by decide +kernel
  have z1 : (onTheHeap (Value.ref D) && Value.builtin "BaseException.__getattribute__" == Value.builtin "object.__getattribute__") = false := by
    rw [z2]
    rfl
  unfold getAttr? getAttrBy? getAttrBy
  refine wpAny_bind (wpAny_mkText (wpAny_bind (wpAny_attempt (wpAny_holding (wpAny_bind (t0.at (wpAny_bind (t1.at ?_))))))))
  show wpAny _ _ (if (onTheHeap (Value.ref D) && Value.builtin "BaseException.__getattribute__" == Value.builtin "object.__getattribute__") = true then _ else _) _ _ _
  rw [z1, if_neg Bool.false_ne_true]
  unfold getAttrByItsOwn hookBefore
  refine wpAny_bind ?_
  rw [if_pos (show onTheHeap (Value.ref D) = true from rfl)]
  refine t2.at (wpAny_bind (wpAny_attempt (wpAny_holding ?_)))
  unfold callGetattribute
  rw [z0, if_neg Bool.false_ne_true]
  unfold boundAndCalled
  rw [PySem.F.excAttr_ValueError.ga.bind (.ref x)]
  refine wpAny_bind (wpAny_pure ?_)
  show wpAny _ _ (call (.builtin "BaseException.__getattribute__") [.ref x, .str "__class__" tk]) _ _ _
  refine wpAny_call (codeAny_call_builtin PySem.F.excAttr_ValueError.ga.plain PySem.F.entry_bexc_ga ?_)
  refine @check_slot (model prog w) _ _ ⟨hh, gs, dr, tk + 1, os⟩ "BaseException.__getattribute__" "BaseException" "__getattribute__" (.ref x) [.str "__class__" tk] [] _ (by decide +kernel) (by decide +kernel) isb (PySem.F.args_bexc_ga (.ref x) (.str "__class__" tk)) ?_
  unfold Builtin.«object.__getattribute__»
  refine wpAny_bind (wpAny_of_eq (a := ((Value.ref x : Value), [Value.str "__class__" tk])) (by first | rfl | (simp only [slotArgs]; rfl)) ?_)
  refine wpAny_bind (wpAny_pure (wpAny_bind (t0.at (wpAny_bind (t3.at ?_)))))
  show wpAny _ _ (holding [Value.builtin "object.__class__"] (call (.builtin "getset_descriptor.__get__") [.builtin "object.__class__", .ref x, .ref D]) >>= ret) _ _ _
  refine wpAny_bind (wpAny_holding (wpAny_call (class_get (s := ⟨hh, gs, dr, tk + 1, os⟩) (ox := ox) (od := od) kin at0 c.hm ?_)))
  refine wpAny_pure ?_
  show wpAny _ _ (handedOut (.ref D)) _ _ _
  rw [handedOut_of (v := .ref D) rfl]
  first
    | exact wpAny_pure (wpAny_pure h)
    | exact wpAny_pure h
    | exact wpAny_pure (wpAny_bind (wpAny_pure (wpAny_pure h)))
theorem kit_exc (c : L2.ExcC K D) : KitX K (.ref x) (.ref D) (fun h => InstAt h x ox D od) := by
  obtain ⟨cd, hcd, _⟩ := any_some c.hd
  obtain ⟨o, ho, hdo⟩ : ∃ o, K.lookup D = some o ∧ o.data = .cls cd := by
    unfold clsIn at hcd
    split at hcd
    · rename_i c' d' cd' sl' hk
      cases hcd
      exact ⟨_, hk, rfl⟩
    · cases hcd
  obtain ⟨oc, odd, oda, osl⟩ := o
  dsimp only at hdo
  subst hdo
  refine { ty := fun _ _ _ J => J.type, it := fun _ _ kin _ => ?_, ne := fun h tp dd its n sl kin htp => ?_, ca := fun kin J k => exc_class c kin J k }
  · intro A' Q' E' s' kp q
    unfold isType loadHead
    exact wpAny_bind (wpAny_loadPart (kp _ _ (kin _ _ ho)) (wpAny_pure q))
  · refine Bool.eq_false_iff.mpr fun q => ?_
    have e : D = tp := Value.ref.inj (beq_iff_eq.mp q)
    subst e
    have z := (kin _ _ ho).symm.trans htp
    cases z
end
end WG
namespace WG
open PySem PySem.Spec PyProof.Rows L2
/-- isinstance(e, c), e the caught exception at a with its own dict -/
def rIsD (K : PySem.W.Frag) (a : Addr) (cls : Value) (d : Option Addr) : List V → Hp → VK → Prop := fun xs H Q => ∃ (D dd : Addr) (fs : List (Str × V)) (c : V) (cv : Value) (b : Bool), cls = .ref D ∧ d = some dd ∧ H dd = some (.xd fs) ∧ ExcC K D ∧
  xs = [.ref a, c] ∧ (∀ u, RelV c u → u = cv) ∧ PySem.W.kitOne K (.ref D) cv = some b ∧ Q (.bl b) H
theorem call_isD {X : Cx} {a : Addr} {oe : Obj} {cls : Value} {d : Option Addr} {pn : List (Addr × Obj)} (hz : Zc cls d oe) (hf : ∃ vs, oe.data = .fields vs) : CallR (X.suite a ((a, oe) :: pn)) (.builtin "isinstance") (rIsD X.K a cls d) := by
  intro pins s σ H xs us Q I r h
  obtain ⟨D, dd, fs, cl, cv, b, rfl, rfl, hx, c, rfl, hcv, e, q⟩ := h
  cases r with
  | cons rx rr =>
    cases rr with
    | cons rt rr =>
      cases rr
      cases rx
      have ec := hcv _ rt
      subst ec
      obtain ⟨hget, _⟩ := I.pin (a, oe) (List.mem_append.mpr (.inl List.mem_cons_self))
      obtain ⟨vs, hv⟩ := hf
      obtain ⟨mA, hns, _⟩ := I.hok dd _ hx
      obtain ⟨od, ho, _⟩ := lookIn_ns hns
      have J : PySem.W.InstAt s.heap a oe D (some od) := ⟨hget, hz.1, by unfold PySem.W.notCls; rw [hv] <;> rfl, by rw [hz.2]; exact ho⟩
      exact PySem.W.kia_one (kit_exc c) I.kIn J e (fun z => nomatch z) fun tk => ⟨.bl b, H, I.kept (t' := tk) fun _ _ z => z, rfl, q⟩
end WG

set_option Elab.async false
set_option linter.all false
set_option maxRecDepth 100000
set_option maxHeartbeats 4000000
namespace WB
open PySem PySem.Spec PyProof.Rows L2 WG
open TL (tl)
def topS (i : Nat) : Stmt := PySem.Challenge.pw_wordbench_k15_whole_clashes_taken_out.main.body.getD i (.Pass ⟨0, 0, 0, 0⟩)
abbrev sCell : Stmt := topS 60
abbrev sPot : Stmt := topS 61
abbrev sTake : Stmt := topS 62
abbrev sName : Stmt := topS 63
/-- a def of the top: its object, how it binds, its name -/
structure Df (K : PySem.W.Frag) (mg : Str → Option Value) (x : Str) (st : Stmt) (ps : List Str) (f : Addr) (fd : FuncData) : Prop where
  F : Fun K x x st f fd
  b : Binds K fd ps []
  g : mg x = some (.ref f)
theorem scCell : FnScope ["_law_script", "_law_k"] ["_law_script", "_law_k"] (defScope sCell) := ⟨rfl, rfl, rfl, by decide +kernel, rfl, by decide +kernel, by decide +kernel⟩
theorem scPot : FnScope ["_law_script", "_law_k", "_law_cell_here"] ["_law_script", "_law_k"] (defScope sPot) := ⟨rfl, rfl, rfl, by decide +kernel, rfl, by decide +kernel, by decide +kernel⟩
theorem scTake : FnScope ["_law_pot_here", "_law_room", "_law_digit"] ["_law_pot_here", "_law_room"] (defScope sTake) := ⟨rfl, rfl, rfl, by decide +kernel, rfl, by decide +kernel, by decide +kernel⟩
theorem scName : FnScope ["_law_pot_here", "_law_signs", "_law_size", "_law_text", "_law_k", "_law_sign"] ["_law_pot_here"] (defScope sName) := ⟨rfl, rfl, rfl, by decide +kernel, rfl, by decide +kernel, by decide +kernel⟩
/-! ### heaps -/
theorem same_upd {H : Hp} {p : Addr} {o : HO} (h : H p = none) : Same H (upd H p o) := fun b x e => by
  rw [upd_ne (ne_of_none e h)]
  exact e
/-- all that was tracked but at p is as it was -/
def But (p : Addr) (H H' : Hp) : Prop := ∀ b o, b ≠ p → H b = some o → H' b = some o
theorem But.refl (p : Addr) (H : Hp) : But p H H := fun _ _ _ h => h
theorem But.trans {p : Addr} {H H1 H2 : Hp} (a : But p H H1) (b : But p H1 H2) : But p H H2 := fun c o n h => b c o n (a c o n h)
theorem But.of_same {p : Addr} {H H' : Hp} (a : Same H H') : But p H H' := fun c o _ h => a c o h
theorem But.upd (p : Addr) (H : Hp) (o : HO) : But p H (upd H p o) := fun c u n h => by
  rw [upd_ne n]
  exact h
theorem But.new {p : Addr} {H : Hp} {q : Addr} {o : HO} (h : H q = none) : But p H (L2.upd H q o) := But.of_same (same_upd h)
/-- at p a pot stands -/
def Pot (H : Hp) (p : Addr) : Prop := ∃ a b : Int, H p = some (.lst [.int a, .int b]) ∧ 0 ≤ b ∧ b < 2147483648
theorem Pot.ne {H : Hp} {p q : Addr} (h : Pot H p) (n : H q = none) : p ≠ q := by
  obtain ⟨a, b, e, _⟩ := h
  exact ne_of_none e n
theorem Pot.same {H H' : Hp} {p : Addr} (h : Pot H p) (s : Same H H') : Pot H' p := by
  obtain ⟨a, b, e, h1, h2⟩ := h
  exact ⟨a, b, s _ _ e, h1, h2⟩
theorem Pot.new {H : Hp} {p q : Addr} {o : HO} (h : Pot H p) (n : H q = none) : Pot (L2.upd H q o) p := h.same (same_upd n)
section
variable {P : Program} {w : World} {K : PySem.W.Frag} {mg : Str → Option Value} {base : Heap}
/-! ### _law_cell -/
def spCell (K : PySem.W.Frag) : Sp := fun vs H Q _ => ∃ (a : Addr) (ns : List Int) (k : Int), vs = [.ref a, .int k] ∧ SqL K H a (ns.map V.int) ∧ 0 ≤ k ∧ ∀ z : Int, Q (.int z) H
theorem ok_cell {f : Addr} {fd : FuncData} {k : Nat} (F : Fun K "_law_cell" "_law_cell" sCell f fd) (mL : mg "len" = none) : FnOk P w K mg base CX0 (k + 1) f fd ["_law_script", "_law_k"] (spCell K) := by
  refine F.ok scCell (fun vs H Q E h => ?_) (fun cdv A outer s H vs Q E hr h => ?_)
  · obtain ⟨a, ns, k, rfl, _⟩ := h
    rfl
  · obtain ⟨a, ns, k, rfl, hS, hk, q⟩ := h
    refine ⟨_, pss_one (ps_ret (pe_ifExp (pt_cmpR op_lt (pv 1) (pe_callB call_len_seq (by rfl) mL PySem.boot_len (pa_cons (pv 0) pa_nil)) (nomark _)) (pe_ix ix_list (pv 0) (pv 1) (fun _ _ => rfl)) pe_int)), ?_⟩
    refine ⟨.int k, rfl, .ref a, rfl, a, _, rfl, .inl hS, k, _, rfl, rfl, _, rfl, ite2 (fun e => ?_) (fun e => q 0)⟩
    have e1 := of_decide_eq_true e
    obtain ⟨n, rfl⟩ := Int.eq_ofNat_of_zero_le hk
    rw [List.length_map] at e1
    have hn : n < ns.length := by omega
    exact ⟨.ref a, rfl, .int n, rfl, a, _, _, .int ns[n], rfl, rfl, hS, atI_nat (j := n) (by rw [List.getElem?_map, List.getElem?_eq_getElem hn]; rfl), q _⟩
/-! ### _law_pot -/
def spPot (K : PySem.W.Frag) : Sp := fun vs H Q _ => ∃ (a : Addr) (ns : List Int) (k : Int), vs = [.ref a, .int k] ∧ SqL K H a (ns.map V.int) ∧ 0 ≤ k ∧ k ≤ 1000 ∧
  ∀ H' p, Same H H' → H p = none → Pot H' p → Q (.ref p) H'
theorem ok_pot {f fC : Addr} {fd fdC : FuncData} {k : Nat} (F : Fun K "_law_pot" "_law_pot" sPot f fd) (C : Df K mg "_law_cell" sCell ["_law_script", "_law_k"] fC fdC) (mL : mg "len" = none) (mM : mg "max" = none) (mA : mg "abs" = none) :
    FnOk P w K mg base CX0 (k + 2) f fd ["_law_script", "_law_k"] (spPot K) := by
  have GC : FnOk P w K mg base CX0 (k + 1) fC fdC ["_law_script", "_law_k"] (spCell K) := ok_cell C.F mL
  refine F.ok scPot (fun vs H Q E h => ?_) (fun cdv A outer s H vs Q E hr h => ?_)
  · obtain ⟨a, ns, k, rfl, _⟩ := h
    rfl
  · obtain ⟨a, ns, k, rfl, hS, hk, hk1, q⟩ := h
    refine ⟨_, pss_cons (ps_set (i := 2) scPot.nd rfl (.inl rfl) (pe_call GC hr (by rfl) C.g C.F.kp C.b .nil pass0 (pa_cons (pv 0) (pa_cons (pv 1) pa_nil))))
      (pss_one (ps_ret (pe_lst (pa_cons (pe_callB (call_max2 rfl) (by rfl) mM (by decide +kernel) (pa_cons pe_int (pa_cons (pe_op op_sub (pv 2) (pe_op op_pow pe_int pe_int)) pa_nil)))
        (pa_cons (pe_op op_mod (pe_op op_add (pe_op op_add (pe_op op_add (pe_op op_mul (pe_op op_mod (pe_callB call_abs (by rfl) mA (by decide +kernel) (pa_cons (pv 2) pa_nil)) pe_int) pe_int)
          (pe_op op_mul (pe_op op_mul pe_int (pv 1)) (pv 1))) (pe_op op_mul pe_int (pv 1))) pe_int) pe_int) pa_nil))))), ?_⟩
    refine ⟨.ref a, rfl, .int k, rfl, a, ns, k, rfl, hS, hk, fun z => ?_⟩
    refine ⟨.int z, rfl, 10, 18, rfl, rfl, ⟨by decide, by decide, by decide⟩, z, _, rfl, rfl, 0, _, rfl, ?_⟩
    refine ⟨.int z, rfl, z, rfl, _, 2147483629, rfl, rfl, (by show (0 : Int) < 2147483629; decide), _, 48271, rfl, rfl, .inr ⟨by decide, by decide⟩, .int k, rfl, 7919, k, rfl, rfl, .inl ⟨by decide, by decide⟩, .int k, rfl, _, k, rfl, rfl, .inr ⟨by omega, by omega⟩, _, _, rfl, rfl,
      .int k, rfl, 613, k, rfl, rfl, .inl ⟨by decide, by decide⟩, _, _, rfl, rfl, _, 29, rfl, rfl, _, 2147483629, rfl, rfl, (by show (0 : Int) < 2147483629; decide), ?_⟩
    refine ⟨by show 2 ≤ sizeLine; decide, fun p hp => q _ p (same_upd hp) hp ⟨_, _, upd_same, Int.emod_nonneg _ (by decide), ?_⟩⟩
    exact Int.lt_trans (Int.emod_lt_of_pos _ (by decide)) (by decide)
/-! ### _law_take -/
def spTake : Sp := fun vs H Q _ => ∃ (p : Addr) (m : Int), vs = [.ref p, .int m] ∧ Pot H p ∧ 0 < m ∧ m ≤ 100000 ∧ ∀ H' (d : Int), But p H H' → Pot H' p → 0 ≤ d → d < m → Q (.int d) H'
theorem ok_take {f : Addr} {fd : FuncData} {k : Nat} (F : Fun K "_law_take" "_law_take" sTake f fd) : FnOk P w K mg base CX0 (k + 1) f fd ["_law_pot_here", "_law_room"] spTake := by
  refine F.ok scTake (fun vs H Q E h => ?_) (fun cdv A outer s H vs Q E hr h => ?_)
  · obtain ⟨p, m, rfl, _⟩ := h
    rfl
  · obtain ⟨p, m, rfl, ⟨a, b, hp, hb0, hb1⟩, hm0, hm1, q⟩ := h
    refine ⟨_, pss_cons (ps_if (pt_cmpR op_gt (pe_ix ix_list (pv 0) pe_int (fun _ _ => rfl)) pe_int (nomark _))
        (pss_cons (ps_set (i := 2) scTake.nd rfl (.inl rfl) (pe_op op_mod (pe_ix ix_list (pv 0) pe_int (fun _ _ => rfl)) (pv 1)))
          (pss_cons (ps_asg (pe_op op_fdiv (pe_ix ix_list (pv 0) pe_int (fun _ _ => rfl)) (pv 1)) (pg_sub (pv 0) pe_int set_list))
          (pss_one (ps_ret (pv 2))))) pss_nil)
      (pss_cons (ps_asg (pe_op op_mod (pe_op op_add (pe_op op_mul (pe_ix ix_list (pv 0) pe_int (fun _ _ => rfl)) pe_int) pe_int) pe_int) (pg_sub (pv 0) pe_int set_list))
      (pss_one (ps_ret (pe_op op_mod (pe_op op_fdiv (pe_op op_mod (pe_op op_mul (pe_ix ix_list (pv 0) pe_int (fun _ _ => rfl)) (pe_ix ix_list (pv 0) pe_int (fun _ _ => rfl))) pe_int) pe_int) (pv 1))))), ?_⟩
    refine ⟨.ref p, rfl, p, _, 0, .int a, rfl, rfl, SqL.of hp, atI_nat (j := 0) rfl, a, 0, rfl, rfl, _, rfl, ite2 (fun e => ?_) (fun e => ?_)⟩
    · refine ⟨.ref p, rfl, p, _, 0, .int a, rfl, rfl, SqL.of hp, atI_nat (j := 0) rfl, .int m, rfl, a, m, rfl, rfl, hm0, ?_⟩
      refine ⟨.ref p, rfl, p, _, 0, .int a, rfl, rfl, SqL.of hp, atI_nat (j := 0) rfl, .int m, rfl, a, m, rfl, rfl, ⟨hm0, by omega⟩, ?_⟩
      refine ⟨.ref p, rfl, p, _, 0, 0, rfl, rfl, hp, rfl, ?_⟩
      exact ⟨.int (a % m), rfl, q _ _ (But.upd _ _ _) ⟨a / m, b, upd_same, hb0, hb1⟩ (Int.emod_nonneg _ (by omega)) (Int.emod_lt_of_pos _ hm0)⟩
    · refine ⟨.ref p, rfl, p, _, 1, .int b, rfl, rfl, SqL.of hp, atI_nat (j := 1) rfl, b, 39373, rfl, rfl, .inr ⟨by decide, by decide⟩, _, 8191, rfl, rfl, _, 2147483587, rfl, rfl, (by show (0 : Int) < 2147483587; decide), ?_⟩
      refine ⟨.ref p, rfl, p, _, 1, 1, rfl, rfl, hp, rfl, ?_⟩
      have c0 : 0 ≤ (b * 39373 + 8191) % 2147483587 := Int.emod_nonneg _ (by decide)
      have c1 : (b * 39373 + 8191) % 2147483587 < 2147483587 := Int.emod_lt_of_pos _ (by decide)
      refine ⟨.ref p, rfl, p, _, 1, .int ((b * 39373 + 8191) % 2147483587), rfl, rfl, SqL.of upd_same, atI_nat (j := 1) rfl, .ref p, rfl, p, _, 1, .int ((b * 39373 + 8191) % 2147483587), rfl, rfl, SqL.of upd_same, atI_nat (j := 1) rfl,
        (b * 39373 + 8191) % 2147483587, (b * 39373 + 8191) % 2147483587, rfl, rfl, .inl ⟨by omega, by omega⟩, _, 2147483543, rfl, rfl, (by show (0 : Int) < 2147483543; decide), _, 13, rfl, rfl, ⟨by decide, by decide⟩, .int m, rfl, _, m, rfl, rfl, hm0, ?_⟩
      exact q _ _ (But.upd _ _ _) ⟨a, _, upd_same, c0, by omega⟩ (Int.emod_nonneg _ (by omega)) (Int.emod_lt_of_pos _ hm0)
end
theorem at_strs (ys : List Str) (d : Int) (h0 : 0 ≤ d) (h1 : d < (ys.length : Int)) : ∃ y ∈ ys, atI (ys.map V.str) d = some (.str y) := by
  obtain ⟨n, rfl⟩ := Int.eq_ofNat_of_zero_le h0
  have hn : n < ys.length := by omega
  exact ⟨ys[n], List.getElem_mem hn, atI_nat (by rw [List.getElem?_map, List.getElem?_eq_getElem hn]; rfl)⟩
theorem at_ints (ys : List Int) (d : Int) (h0 : 0 ≤ d) (h1 : d < (ys.length : Int)) : ∃ y ∈ ys, atI (ys.map V.int) d = some (.int y) := by
  obtain ⟨n, rfl⟩ := Int.eq_ofNat_of_zero_le h0
  have hn : n < ys.length := by omega
  exact ⟨ys[n], List.getElem_mem hn, atI_nat (by rw [List.getElem?_map, List.getElem?_eq_getElem hn]; rfl)⟩
theorem at_any (ys : List V) (d : Int) (h0 : 0 ≤ d) (h1 : d < (ys.length : Int)) : ∃ y ∈ ys, atI ys d = some y := by
  obtain ⟨n, rfl⟩ := Int.eq_ofNat_of_zero_le h0
  have hn : n < ys.length := by omega
  exact ⟨ys[n], List.getElem_mem hn, atI_nat (List.getElem?_eq_getElem hn)⟩
end WB

set_option Elab.async false
set_option linter.all false
set_option maxRecDepth 100000
set_option maxHeartbeats 4000000
namespace WB
open PySem PySem.Spec PyProof.Rows L2 WG
open TL (tl)
/-! ### plain texts of at most n signs -/
structure Tx (n : Nat) (y : Str) : Prop where
  le : y.length ≤ n
  pl : ∀ c ∈ tl y, c < 256
theorem Tx.mono {n m : Nat} {y : Str} (h : Tx n y) (e : n ≤ m) : Tx m y := ⟨Nat.le_trans h.le e, h.pl⟩
theorem Tx.app {n m : Nat} {x y : Str} (h : Tx n x) (k : Tx m y) : Tx (n + m) (x ++ y) := by
  refine ⟨?_, fun c hc => ?_⟩
  · rw [Str.length_append]
    exact Nat.add_le_add h.le k.le
  · rw [TL.tl_append] at hc
    exact (List.mem_append.mp hc).elim (h.pl c) (k.pl c)
theorem Tx.cut {n : Nat} {x : Str} (h : Tx n x) (lo hi : Option Int) : Tx n (cutS x lo hi) := by
  refine ⟨Nat.le_trans (cutS_length x lo hi) h.le, fun c hc => h.pl c ?_⟩
  have e : c ∈ (x.cps.toList.drop _).take _ := hc
  exact List.mem_of_mem_drop (List.mem_of_mem_take e)
theorem Tx.sign {c : Nat} (h : c < 256) : Tx 1 ⟨#[c]⟩ := by
  refine ⟨Nat.le_refl 1, fun d hd => ?_⟩
  have e : d ∈ [c] := hd
  rw [List.mem_singleton.mp e]
  exact h
theorem Tx.lit (s : String) (n : Nat) (h : (Str.ofString s).length ≤ n) (k : ∀ c ∈ tl (Str.ofString s), c < 256) : Tx n (Str.ofString s) := ⟨h, k⟩
theorem mem_joinL (S : List Nat) : ∀ (ps : List (List Nat)) (c : Nat), c ∈ TL.joinL S ps → c ∈ S ∨ ∃ p ∈ ps, c ∈ p
  | [], c, h => by cases h
  | [p], c, h => .inr ⟨p, List.mem_singleton.mpr rfl, h⟩
  | p :: q :: r, c, h => by
    rcases List.mem_append.mp (show c ∈ p ++ (S ++ TL.joinL S (q :: r)) from h) with h | h
    · exact .inr ⟨p, List.mem_cons_self, h⟩
    · rcases List.mem_append.mp h with h | h
      · exact .inl h
      · rcases mem_joinL S (q :: r) c h with h | ⟨p', hp, hc⟩
        · exact .inl h
        · exact .inr ⟨p', List.mem_cons_of_mem _ hp, hc⟩
theorem sum_most (m : Nat) : ∀ ys : List Str, (∀ y ∈ ys, Tx m y) → (ys.map (·.length)).sum ≤ ys.length * m
  | [], _ => Nat.zero_le _
  | y :: r, h => by
    have h1 := sum_most m r fun z hz => h z (List.mem_cons_of_mem _ hz)
    have h2 := (h y List.mem_cons_self).le
    rw [List.map_cons, List.sum_cons, List.length_cons, Nat.succ_mul]
    omega
theorem Tx.join {sep : Str} {k m n : Nat} {ys : List Str} (hs : Tx k sep) (h : ∀ y ∈ ys, Tx m y) (hn : ys.length * m + ys.length * k ≤ n) : Tx n (Txt.join sep ys) := by
  refine ⟨?_, fun c hc => ?_⟩
  · rw [TL.join_eq]
    have e := StrLaws.join_length_le sep ys
    have e2 := sum_most m ys h
    have e3 : ys.length * sep.length ≤ ys.length * k := Nat.mul_le_mul_left _ hs.le
    omega
  · rw [TL.join_eq, TL.tl_join] at hc
    rcases mem_joinL _ _ c hc with h1 | ⟨p, hp, h1⟩
    · exact hs.pl c h1
    · obtain ⟨y, hy, rfl⟩ := List.mem_map.mp hp
      exact (h y hy).pl c h1
section
variable {P : Program} {w : World} {K : PySem.W.Frag} {mg : Str → Option Value} {base : Heap}
/-! ### _law_name -/
def spDrawn (n : Nat) : Sp := fun vs H Q _ => ∃ p : Addr, vs = [.ref p] ∧ Pot H p ∧ ∀ H' (y : Str), But p H H' → Pot H' p → Tx n y → Q (.str y) H'
def nameSigns : List Str := [Str.ofString "abcdefghijklmnopqrstuvwxyz0123456789-", Str.ofString "abno-", Str.ofString "no-"]
theorem nameSigns_len : ∀ y ∈ nameSigns, 0 < y.length ∧ y.length ≤ 100 ∧ ∀ c ∈ tl y, c < 256 := by decide +kernel
theorem ok_name {f fT : Addr} {fd fdT : FuncData} {k : Nat} (F : Fun K "_law_name" "_law_name" sName f fd) (T : Df K mg "_law_take" sTake ["_law_pot_here", "_law_room"] fT fdT) (mL : mg "len" = none) (mR : mg "range" = none) :
    FnOk P w K mg base CX0 (k + 2) f fd ["_law_pot_here"] (spDrawn 20) := by
  have GT : FnOk P w K mg base CX0 (k + 1) fT fdT ["_law_pot_here", "_law_room"] spTake := ok_take T.F
  refine F.ok scName (fun vs H Q E h => ?_) (fun cdv A outer s H vs Q E hr h => ?_)
  · obtain ⟨p, rfl, _⟩ := h
    rfl
  · obtain ⟨p, rfl, hp, q⟩ := h
    refine ⟨_, pss_cons (ps_set (i := 1) scName.nd rfl (.inl rfl) (pe_ix ix_list (pe_lst (pa_cons pe_str (pa_cons pe_str (pa_cons pe_str pa_nil)))) (pe_call GT hr (by rfl) T.g T.F.kp T.b .nil pass0 (pa_cons (pv 0) (pa_cons pe_int pa_nil))) (fun _ _ => rfl)))
      (pss_cons (ps_set (i := 2) scName.nd rfl (.inl rfl) (pe_op op_add pe_int (pe_call GT hr (by rfl) T.g T.F.kp T.b .nil pass0 (pa_cons (pv 0) (pa_cons (pe_ix ix_list (pe_lst (pa_cons pe_int (pa_cons pe_int pa_nil)))
        (pe_call GT hr (by rfl) T.g T.F.kp T.b .nil pass0 (pa_cons (pv 0) (pa_cons pe_int pa_nil))) (fun _ _ => rfl)) pa_nil)))))
      (pss_cons (ps_set (i := 3) scName.nd rfl (.inl rfl) pe_str)
      (pss_cons (ps_for PassesOwn.never rfl (pi_range1 rfl mR (pa_cons (pv 2) pa_nil)) (pg_name (i := 4) scName.nd rfl (Or.inl rfl))
        (pss_cons (ps_set (i := 5) scName.nd rfl (.inl rfl) (pe_ix ix_str (pv 1) (pe_call GT hr (by rfl) T.g T.F.kp T.b .nil pass0 (pa_cons (pv 0) (pa_cons (pe_callB call_len_str (by rfl) mL PySem.boot_len (pa_cons (pv 1) pa_nil)) pa_nil))) (fun _ _ => rfl)))
        (pss_cons (ps_if (PW.pt (pw_and (pt_cmpR op_eq (pv 5) pe_str (nomark _)) (pw_and1 (pt_cmpR op_in_seq (pv 4) (pe_tup (pa_cons pe_int (pa_cons (pe_op op_sub (pv 2) pe_int) pa_nil))) (by rfl)))))
          (pss_one (ps_set (i := 5) scName.nd rfl (.inl rfl) pe_str)) pss_nil)
        (pss_one (ps_set (i := 3) scName.nd rfl (.inl rfl) (pe_op op_add_str (pv 3) (pv 5)))))))
      (pss_cons (ps_if (pt_cmpR op_eq (pe_slice sl_str (pv 3) po_none (po_some pe_int)) pe_str (nomark _))
        (pss_one (ps_set (i := 3) scName.nd rfl (.inl rfl) (pe_op op_add_str pe_str (pe_slice sl_str (pv 3) (po_some pe_int) po_none)))) pss_nil)
      (pss_one (ps_ret (pv 3))))))), ?_⟩
    refine ⟨by decide +kernel, fun l1 n1 => ?_⟩
    have p1 := hp.new (o := .lst (nameSigns.map V.str)) n1
    have nl1 := hp.ne n1
    refine ⟨.ref p, rfl, p, 3, rfl, p1, by decide, by decide, fun H2 d2 b2 p2 d20 d21 => ?_⟩
    obtain ⟨z, hzm, hze⟩ := at_strs nameSigns d2 d20 (by show d2 < 3; exact d21)
    obtain ⟨hz0, hz1, hz2⟩ := nameSigns_len z hzm
    refine ⟨l1, _, d2, .str z, rfl, rfl, SqL.of (b2 _ _ nl1.symm upd_same), hze, .ref p, rfl, by decide +kernel, fun l2 n2 => ?_⟩
    have p3 := p2.new (o := .lst ([(3 : Int), 10].map V.int)) n2
    have nl2 := p2.ne n2
    refine ⟨.ref p, rfl, p, 2, rfl, p3, by decide, by decide, fun H4 d4 b4 p4 d40 d41 => ?_⟩
    obtain ⟨mo, mom, moe⟩ := at_ints [(3 : Int), 10] d4 d40 (by show d4 < 2; exact d41)
    have hmo : 0 < mo ∧ mo ≤ 10 := (by decide : ∀ y ∈ [(3 : Int), 10], 0 < y ∧ y ≤ 10) mo mom
    refine ⟨l2, _, d4, .int mo, rfl, rfl, SqL.of (b4 _ _ nl2.symm upd_same), moe, p, mo, rfl, p4, hmo.1, by omega, fun H5 d5 b5 p5 d50 d51 => ?_⟩
    refine ⟨1, d5, rfl, rfl, ?_⟩
    have bb : But p H H5 := ((((But.new n1).trans b2).trans (But.new n2)).trans b4).trans b5
    refine ⟨.int (1 + d5), rfl, _, rfl, by omega, by omega, for_range (lo := 0) (n := (1 + d5).toNat) (fun i σ H' => But p H5 H' ∧ Pot H' p ∧ ∃ (x : Str) (x4 x5 : Option V), σ = [some (.ref p), some (.str z), some (.int (1 + d5)), some (.str x), x4, x5] ∧ Tx i x)
      ⟨But.refl _ _, p5, Str.ofString "", none, none, rfl, Tx.lit "" 0 (by decide +kernel) (by decide +kernel)⟩ ?_ ?_⟩
    · rintro i σ H6 hi ⟨b6, p6, x, x4, x5, rfl, hx⟩
      have hzl : z.length ≤ sizeLine := Nat.le_trans hz1 (by decide)
      refine ⟨.str z, rfl, .ref p, rfl, .str z, rfl, z, rfl, hzl, p, z.length, rfl, p6, by omega, by omega, fun H7 j b7 p7 j0 j1 => ?_⟩
      obtain ⟨n, rfl⟩ := Int.eq_ofNat_of_zero_le j0
      have hn : n < z.cps.toList.length := by
        have e : z.cps.toList.length = z.length := by simp [Str.length]
        omega
      refine ⟨z, n, z.cps.toList[n], rfl, rfl, hzl, atI_nat (List.getElem?_eq_getElem hn), ?_⟩
      have fin : ∀ (H8 : Hp) (c : Str), But p H7 H8 → Pot H8 p → Tx 1 c → (tAsg (tOp (fun x y H Q => ∃ i j, x = .str i ∧ y = .str j ∧ i.length + j.length ≤ sizeLine ∧ Q (.str (i ++ j)) H) (tVar 3) (tVar 5)) (gName 3)) { nx := fun σ H' => But p H5 H' ∧ Pot H' p ∧ ∃ (x : Str) (x4 x5 : Option V), σ = [some (.ref p), some (.str z), some (.int (1 + d5)), some (.str x), x4, x5] ∧ Tx (i + 1) x, rt := Q }
          [some (.ref p), some (.str z), some (.int (1 + d5)), some (.str x), some (.int (0 + (i : Int))), some (.str c)] H8 := by
        intro H8 c b8 p8 hc
        refine ⟨_, rfl, _, rfl, x, c, rfl, rfl, ?_, (b6.trans b7).trans b8, p8, x ++ c, _, _, rfl, hx.app hc⟩
        have h1 := hx.le
        have h2 := hc.le
        exact Nat.le_of_lt (small1000 (by omega))
      refine ⟨_, rfl, rfl, _, rfl, ite2 (fun e => ?_) (fun e => ?_)⟩
      · refine ⟨_, rfl, .int (1 + d5), rfl, _, _, rfl, rfl, by show 2 ≤ sizeLine; decide, fun t nt => ?_⟩
        refine ⟨t, _, rfl, .inr (SqT.of upd_same), rfl, rfl, _, rfl, ite2 (fun e2 => ?_) (fun e2 => ?_)⟩
        · exact fin _ _ (But.new nt) (p7.new nt) (Tx.lit "e" 1 (by decide +kernel) (by decide +kernel))
        · exact fin _ _ (But.new nt) (p7.new nt) (Tx.sign (hz2 _ (List.getElem_mem hn)))
      · exact fin _ _ (But.refl _ _) p7 (Tx.sign (hz2 _ (List.getElem_mem hn)))
    · rintro σ H6 ⟨b6, p6, x, x4, x5, rfl, hx⟩
      have hxl : x.length ≤ 11 := by
        have := hx.le
        omega
      have hx11 : Tx 11 x := ⟨hxl, hx.pl⟩
      refine ⟨_, rfl, 3, rfl, x, rfl, Nat.le_trans hxl (by decide), rfl, _, rfl, ite2 (fun e => ?_) (fun e => ?_)⟩
      · refine ⟨_, rfl, 1, rfl, x, rfl, Nat.le_trans hxl (by decide), _, _, rfl, rfl, ?_, _, rfl, q _ _ (bb.trans b6) p6 (((Tx.lit "m" 1 (by decide +kernel) (by decide +kernel)).app (hx11.cut (some 1) none)).mono (by decide))⟩
        have := cutS_length x (some 1) none
        exact Nat.le_of_lt (small1000 (by rw [show (Str.ofString "m").length = 1 from by decide +kernel]; omega))
      · exact ⟨_, rfl, q _ _ (bb.trans b6) p6 (hx11.mono (by decide))⟩
end
end WB

set_option Elab.async false
set_option linter.all false
set_option maxRecDepth 100000
set_option maxHeartbeats 4000000
namespace WB
open PySem PySem.Spec PyProof.Rows L2 WG
open TL (tl)
/-! ### things that may be handed in -/
def isS : V → Bool
  | .str _ => true
  | _ => false
inductive Odd : HO → Prop
  | l0 : Odd (.lst [])
  | l1 {z : Str} (h : Tx 20 z) : Odd (.lst [.str z])
  | t0 : Odd (.tup [])
  | t1 {z : Str} (h : Tx 20 z) : Odd (.tup [.str z])
  | d0 : Odd (.dK [])
  | d1 {x : Str} {i : Int} (h : Tx 20 x) (h0 : 0 ≤ i) (h1 : i ≤ 1000) : Odd (.dK [(Sum.inr x, .int i)])
inductive Thg (H : Hp) : V → Prop
  | non : Thg H .non
  | bl (b : Bool) : Thg H (.bl b)
  | int {i : Int} (h0 : 0 ≤ i) (h1 : i ≤ 1000) : Thg H (.int i)
  | str {z : Str} (h : Tx 300 z) : Thg H (.str z)
  | odd {a : Addr} {o : HO} (e : H a = some o) (h : Odd o) : Thg H (.ref a)
theorem Thg.same {H H' : Hp} {v : V} (h : Thg H v) (s : Same H H') : Thg H' v := by
  cases h with
  | non => exact .non
  | bl b => exact .bl b
  | int h0 h1 => exact .int h0 h1
  | str h => exact .str h
  | odd e h => exact .odd (s _ _ e) h
theorem Odd.ne {xs : List V} (h : Odd (.lst xs)) : xs.length ≤ 1 := by
  cases h with
  | l0 => exact Nat.zero_le _
  | l1 _ => exact Nat.le_refl _
/-- isinstance(v, str) -/
theorem Thg.isi {K : PySem.W.Frag} {H : Hp} {v : V} (h : Thg H v) : ∃ t : Value, TyX K H v t ∧ PySem.W.kitOne K t (.type "str") = some (isS v) := by
  cases h with
  | non => exact ⟨_, .base .non, kit_ty (show kitB "NoneType" "str" = some false from by decide +kernel)⟩
  | bl b => exact ⟨_, .base (.bl b), kit_ty (show kitB "bool" "str" = some false from by decide +kernel)⟩
  | int _ _ => exact ⟨_, .base (.int _), kit_ty (show kitB "int" "str" = some false from by decide +kernel)⟩
  | str _ => exact ⟨_, .base (.str _), kit_ty (show kitB "str" "str" = some true from by decide +kernel)⟩
  | odd e h =>
    cases h with
    | l0 => exact ⟨_, .base (.lst e), kit_ty (show kitB "list" "str" = some false from by decide +kernel)⟩
    | l1 _ => exact ⟨_, .base (.lst e), kit_ty (show kitB "list" "str" = some false from by decide +kernel)⟩
    | t0 => exact ⟨_, .base (.tup e), kit_ty (show kitB "tuple" "str" = some false from by decide +kernel)⟩
    | t1 _ => exact ⟨_, .base (.tup e), kit_ty (show kitB "tuple" "str" = some false from by decide +kernel)⟩
    | d0 => exact ⟨_, .base (.dK e), kit_ty (show kitB "dict" "str" = some false from by decide +kernel)⟩
    | d1 _ _ _ => exact ⟨_, .base (.dK e), kit_ty (show kitB "dict" "str" = some false from by decide +kernel)⟩
theorem Thg.tx {H : Hp} {z : Str} (h : Thg H (.str z)) : Tx 300 z := by
  cases h with
  | str h => exact h
/-- its data -/
theorem repr_tx {n : Nat} {z : Str} (h : Tx n z) : (reprText z).length ≤ 10 * n + 2 := by
  have e := StrLaws.reprText_len z (fun c hc => Nat.lt_trans (h.pl c hc) (by decide))
  have := h.le
  omega
/-! ### the mathematics of names and abouts -/
def nameSet : Str := Str.ofString "abcdefghijklmnopqrstuvwxyz0123456789-"
def nm (cs : List Nat) : Bool := decide (cs ≠ []) && decide (cs.length ≤ 10) && !decide (cs.take 1 = [45]) && !decide (cs.getLast? = some 45) && !decide (cs.take 3 = [110, 111, 45]) && cs.all fun c => decide (c ∈ tl nameSet)
def isNm : V → Bool
  | .str z => nm (tl z)
  | _ => false
def ab (z : Str) : Bool := decide (z.length ≤ 200) && (decide (z = Str.ofString "") || !inV (.str (Str.ofString "")) ((Txt.split z (Str.ofString " ")).map V.str))
def isAb : V → Bool
  | .str z => ab z
  | _ => false
theorem starts (x y : Str) : Txt.startswith x y = ((tl x).take (tl y).length == tl y) := by
  unfold Txt.startswith
  rw [StrLaws.subAt_eq, List.drop_zero, TL.len_tl y]
  by_cases h : (tl y).length ≤ (tl x).length
  · have e : decide (0 + (tl y).length ≤ x.length) = true := decide_eq_true (by rw [TL.len_tl x]; omega)
    rw [e, Bool.true_and]
  · have e : decide (0 + (tl y).length ≤ x.length) = false := decide_eq_false (by rw [TL.len_tl x]; omega)
    rw [e, Bool.false_and]
    cases q : ((tl x).take (tl y).length == tl y) with
    | false => rfl
    | true =>
      have z := congrArg List.length (eq_of_beq q)
      rw [List.length_take] at z
      omega
theorem starts_lit (x : Str) (s : String) {l : List Nat} (hl : tl (Str.ofString s) = l) : Txt.startswith x (Str.ofString s) = decide ((tl x).take l.length = l) := by
  rw [starts, hl]
  cases q : ((tl x).take l.length == l) with
  | true => exact (decide_eq_true (eq_of_beq q)).symm
  | false => exact (decide_eq_false (fun e => by rw [e] at q; simp at q)).symm
theorem drop_last {l : List Nat} (h : l ≠ []) : l.drop (l.length - 1) = [l.getLast h] := by
  have e := List.dropLast_concat_getLast h
  have hl : l.length - 1 = l.dropLast.length := by rw [List.length_dropLast]
  rw [hl]
  conv => lhs; rw [← e]
  rw [List.dropLast_concat, List.drop_left]
theorem ends_dash (x : Str) : Txt.endswith x (Str.ofString "-") = decide ((tl x).getLast? = some 45) := by
  unfold Txt.endswith
  have e1 : (Str.ofString "-").length = 1 := by decide +kernel
  have e2 : (Str.ofString "-").cps.toList = [45] := by decide +kernel
  rw [StrLaws.subAt_eq, e1, e2, TL.len_tl x]
  cases hx : tl x with
  | nil => rfl
  | cons c r =>
    have hx' : x.cps.toList = c :: r := hx
    rw [hx']
    have e3 : decide (0 + 1 ≤ (c :: r).length) = true := decide_eq_true (by rw [List.length_cons]; omega)
    rw [e3, Bool.true_and]
    have e4 : ((c :: r).drop ((c :: r).length - 1)).take 1 = [(c :: r).getLast (List.cons_ne_nil c r)] := by
      rw [drop_last (List.cons_ne_nil c r)]
      rfl
    rw [e4, List.getLast?_eq_getLast (List.cons_ne_nil c r)]
    cases q : ([(c :: r).getLast (List.cons_ne_nil c r)] == [45]) with
    | true =>
      have := eq_of_beq q
      injection this with a b
      rw [a]
      rfl
    | false =>
      refine (decide_eq_false fun e => ?_).symm
      rw [Option.some.inj e] at q
      cases q
theorem eq_lit (x : Str) (s : String) : (V.str x = V.str (Str.ofString s)) ↔ tl x = tl (Str.ofString s) := by
  constructor
  · intro h
    rw [V.str.inj h]
  · intro h
    rw [TL.ext_tl h]
theorem dec_lit (x : Str) (s : String) {l : List Nat} (hl : tl (Str.ofString s) = l) : decide (V.str x = V.str (Str.ofString s)) = decide (tl x = l) := by
  rw [← hl]
  exact decide_eq_decide.mpr (eq_lit x s)
theorem cut3 (z : Str) : tl (cutS z none (some 3)) = (tl z).take 3 := by
  show ((z.cps.toList.drop (HT.sIx z.length 0 none)).take (HT.sIx z.length z.length (some 3) - HT.sIx z.length 0 none)) = _
  rw [HT.sIx_none, show HT.sIx z.length z.length (some 3) = min 3 z.length from HT.sIx_nat z.length z.length 3, List.drop_zero, Nat.sub_zero]
  rw [TL.len_tl z]
  rw [← List.take_take, List.take_length]
end WB

set_option Elab.async false
set_option linter.all false
set_option maxRecDepth 100000
set_option maxHeartbeats 4000000
namespace WB
open PySem PySem.Spec PyProof.Rows L2 WG
open TL (tl)
abbrev st_is_text_within : Stmt := topS 23
theorem sc_is_text_within : FnScope ["value", "most"] ["value", "most"] (defScope st_is_text_within) := ⟨rfl, rfl, rfl, by decide +kernel, rfl, by decide +kernel, by decide +kernel⟩
abbrev st_is_name : Stmt := topS 24
theorem sc_is_name : FnScope ["value", "sign"] ["value"] (defScope st_is_name) := ⟨rfl, rfl, rfl, by decide +kernel, rfl, by decide +kernel, by decide +kernel⟩
abbrev st_is_about : Stmt := topS 26
theorem sc_is_about : FnScope ["value"] ["value"] (defScope st_is_about) := ⟨rfl, rfl, rfl, by decide +kernel, rfl, by decide +kernel, by decide +kernel⟩
abbrev st_is_among : Stmt := topS 27
theorem sc_is_among : FnScope ["value", "texts"] ["value", "texts"] (defScope st_is_among) := ⟨rfl, rfl, rfl, by decide +kernel, rfl, by decide +kernel, by decide +kernel⟩
abbrev st_is_default : Stmt := topS 28
theorem sc_is_default : FnScope ["value", "allowed"] ["value", "allowed"] (defScope st_is_default) := ⟨rfl, rfl, rfl, by decide +kernel, rfl, by decide +kernel, by decide +kernel⟩
abbrev st_is_short_or_empty : Stmt := topS 25
theorem sc_is_short_or_empty : FnScope ["value"] ["value"] (defScope st_is_short_or_empty) := ⟨rfl, rfl, rfl, by decide +kernel, rfl, by decide +kernel, by decide +kernel⟩
abbrev st_is_truth : Stmt := topS 29
theorem sc_is_truth : FnScope ["value", "allowed"] ["value", "allowed"] (defScope st_is_truth) := ⟨rfl, rfl, rfl, by decide +kernel, rfl, by decide +kernel, by decide +kernel⟩
section
variable {P : Program} {w : World} {K : PySem.W.Frag} {mg : Str → Option Value} {base : Heap}
/-! ### is_text_within -/
def within (v : V) (m : Int) : Bool := match v with
  | .str z => decide ((z.length : Int) ≤ m)
  | _ => false
def spWithin : Sp := fun vs H Q _ => ∃ (v : V) (m : Int), vs = [v, .int m] ∧ Thg H v ∧ Q (.bl (within v m)) H
theorem ok_within {f : Addr} {fd : FuncData} {k : Nat} (F : Fun K "is_text_within" "is_text_within" st_is_text_within f fd) (m_len : mg "len" = none) (m_str : mg "str" = none) (m_isinstance : mg "isinstance" = none) :
    FnOk P w K mg base CX0 (k + 1) f fd ["value", "most"] spWithin := by
  refine F.ok sc_is_text_within (fun vs H Q E h => ?_) (fun cdv A outer s H vs Q E hr h => ?_)
  · obtain ⟨v, m, rfl, _⟩ := h
    rfl
  · obtain ⟨v, m, rfl, hv, q⟩ := h
    refine ⟨_, pss_one (ps_ret (pe_and (pe_callB call_isi (by rfl) m_isinstance (by decide +kernel) (pa_cons (pv 0) (pa_cons (pe_bltn (v := .ty "str") (by rfl) m_str (by decide +kernel) rfl) pa_nil))) (pe_one (pe_cmpR op_le (pe_callB call_len_str (by rfl) m_len PySem.boot_len (pa_cons (pv 0) pa_nil)) (pv 1) (nomark _))))), ?_⟩
    obtain ⟨t, ht, hk⟩ := hv.isi (K := K)
    refine ⟨v, rfl, v, _, t, _, isS v, rfl, ClsV.ty "str", ht, hk, _, rfl, ?_⟩
    cases v with
    | str z =>
      exact ⟨_, rfl, z, rfl, Nat.le_trans hv.tx.le (by decide), _, rfl, _, _, rfl, rfl, q⟩
    | _ => exact q
/-! ### is_name -/
def spOf (g : V → Bool) : Sp := fun vs H Q _ => ∃ v : V, vs = [v] ∧ Thg H v ∧ ∀ H', Same H H' → Q (.bl (g v)) H'
theorem ok_isName {f fW : Addr} {fd fdW : FuncData} {k : Nat} {u1 u2 : Tok} (F : Fun K "is_name" "is_name" st_is_name f fd) (D_is_text_within : Df K mg "is_text_within" st_is_text_within ["value", "most"] fW fdW)
    (m_len : mg "len" = none) (m_str : mg "str" = none) (m_isinstance : mg "isinstance" = none) (m_all : mg "all" = none) (c_MOST_NAME_SIGNS : mg "MOST_NAME_SIGNS" = some (.int 10 u1)) (c_NAME_SIGNS : mg "NAME_SIGNS" = some (.str nameSet u2)) :
    FnOk P w K mg base CX0 (k + 2) f fd ["value"] (spOf isNm) := by
  have G_is_text_within : FnOk P w K mg base CX0 (k + 1) fW fdW ["value", "most"] spWithin := ok_within D_is_text_within.F m_len m_str m_isinstance
  refine F.ok sc_is_name (fun vs H Q E h => ?_) (fun cdv A outer s H vs Q E hr h => ?_)
  · obtain ⟨v, rfl, _⟩ := h
    rfl
  · obtain ⟨v, rfl, hv, q⟩ := h
    refine ⟨_, pss_cons (ps_if (PW.pt (pw_or (pt_not (pt_val (pe_call G_is_text_within hr (by rfl) D_is_text_within.g D_is_text_within.F.kp D_is_text_within.b .nil pass0 (pa_cons (pv 0) (pa_cons (pe_glob (v := .int 10) rfl c_MOST_NAME_SIGNS ⟨_, rfl⟩) pa_nil))))) (pw_or1 (pt_cmpR op_eq (pv 0) pe_str (nomark _))))) (pss_one (ps_ret pe_bl)) pss_nil)
      (pss_cons (ps_if (PW.pt (pw_or (pt_val (pe_m1 PySem.F.slot_str_startswith PySem.F.type_str_startswith mt_startswith (pv 0) pe_str)) (pw_or (pt_val (pe_m1 PySem.F.slot_str_endswith PySem.F.type_str_endswith mt_endswith (pv 0) pe_str)) (pw_or1 (pt_val (pe_m1 PySem.F.slot_str_startswith PySem.F.type_str_startswith mt_startswith (pv 0) pe_str)))))) (pss_one (ps_ret pe_bl)) pss_nil)
      (pss_one (ps_ret (pe_callB (cr_all rfl) (by rfl) m_all (by decide +kernel) (pa_cons (pe_lc (own := [("sign", 1)]) (g := gName 1) (tt := tYes) rfl sc_is_name.nd (pi_str (pv 0)) (blkOk_by (N := ["value", "sign"]) (sc := defScope st_is_name) (by decide +kernel)) (fun _ _ _ _ _ => (pg_name (i := 1) sc_is_name.nd rfl (Or.inl rfl))) (fun _ _ _ _ _ => pts_nil) (fun _ _ _ _ _ => (pe_cmpR op_in_sign (pv 1) (pe_glob (v := .str nameSet) rfl c_NAME_SIGNS ⟨_, rfl⟩) (by rfl)))) pa_nil))))), ?_⟩
    refine ⟨v, rfl, v, 10, rfl, hv, _, rfl, ite2 (fun e => ?_) (fun e => ?_)⟩
    · cases v with
      | str z =>
        have e1 : ¬ ((z.length : Int) ≤ 10) := fun c => by
          have : within (.str z) 10 = true := decide_eq_true c
          rw [this] at e
          cases e
        have e2 : isNm (.str z) = false := by
          show nm (tl z) = false
          unfold nm
          rw [decide_eq_false (p := (tl z).length ≤ 10) (by rw [← TL.len_tl]; omega)]
          simp
        rw [e2] at q
        exact q _ (Same.refl _)
      | _ => exact q _ (Same.refl _)
    · cases v with
      | str z =>
        have e1 : (z.length : Int) ≤ 10 := by
          have : within (.str z) 10 = true := by
            cases c : within (.str z) 10 with
            | true => rfl
            | false => rw [c] at e; exact absurd rfl e
          exact of_decide_eq_true this
        refine ⟨.str z, rfl, rfl, _, rfl, ite2 (fun e => ?_) (fun e => ?_)⟩
        · have e2 : tl z = [] := (eq_lit z "").mp (of_decide_eq_true e)
          have e3 : isNm (.str z) = false := by
            show nm (tl z) = false
            rw [e2]
            rfl
          rw [e3] at q
          exact q _ (Same.refl _)
        · have e2 : tl z ≠ [] := fun c => e (decide_eq_true ((eq_lit z "").mpr c))
          have hlen : (tl z).length ≤ 10 := by rw [← TL.len_tl]; omega
          have neg : ∀ b : Bool, b = true → (b = true → nm (tl z) = false) → nm (tl z) = false := fun b h k => k h
          refine ⟨.str z, rfl, ⟨_, rfl⟩, _, _, rfl, rfl, _, rfl, ite2 (fun e => ?_) (fun e => ?_)⟩
          · rw [starts_lit z "-" (l := [45]) (by decide +kernel)] at e
            have e3 : isNm (.str z) = false := by
              show nm (tl z) = false
              unfold nm
              rw [show decide ((tl z).take 1 = [45]) = true from e]
              simp
            rw [e3] at q
            exact q _ (Same.refl _)
          · rw [starts_lit z "-" (l := [45]) (by decide +kernel)] at e
            have n1 : decide ((tl z).take 1 = [45]) = false := Bool.eq_false_iff.mpr e
            refine ⟨.str z, rfl, ⟨_, rfl⟩, _, _, rfl, rfl, _, rfl, ite2 (fun e => ?_) (fun e => ?_)⟩
            · rw [ends_dash z] at e
              have e3 : isNm (.str z) = false := by
                show nm (tl z) = false
                unfold nm
                rw [e]
                simp
              rw [e3] at q
              exact q _ (Same.refl _)
            · rw [ends_dash z] at e
              have n2 : decide ((tl z).getLast? = some 45) = false := Bool.eq_false_iff.mpr e
              refine ⟨.str z, rfl, ⟨_, rfl⟩, _, _, rfl, rfl, _, rfl, ite2 (fun e => ?_) (fun e => ?_)⟩
              · rw [starts_lit z "no-" (l := [110, 111, 45]) (by decide +kernel)] at e
                have e3 : isNm (.str z) = false := by
                  show nm (tl z) = false
                  unfold nm
                  rw [show decide ((tl z).take 3 = [110, 111, 45]) = true from e]
                  simp
                rw [e3] at q
                exact q _ (Same.refl _)
              · rw [starts_lit z "no-" (l := [110, 111, 45]) (by decide +kernel)] at e
                have n3 : decide ((tl z).take 3 = [110, 111, 45]) = false := Bool.eq_false_iff.mpr e
                have e3 : isNm (.str z) = (tl z).all fun c => decide (c ∈ tl nameSet) := by
                  show nm (tl z) = _
                  unfold nm
                  rw [n1, n2, n3, decide_eq_true e2, decide_eq_true hlen]
                  simp
                refine ⟨.str z, rfl, z, rfl, fun D nD => ?_⟩
                refine lc_it walk_str (fun i Hc => Same H Hc ∧ Hc D = some (.lst ((((tl z).take i).map fun c => decide (c ∈ tl nameSet)).map V.bl))) ⟨same_upd nD, upd_same⟩ (fun _ _ _ _ => True.intro) (fun i x Hc H' hi ⟨sc, eD⟩ ⟨eH, c, ec, ex⟩ => ?_) (fun Hc ⟨sc, eD⟩ => ?_)
                · subst eH ex
                  have ec' : (tl z)[i]? = some c := by
                    rw [Array.getElem?_toList]
                    exact ec
                  refine ⟨rfl, ?_⟩
                  refine ⟨_, rfl, c, nameSet, rfl, rfl, _, eD, ?_, ?_, ?_⟩
                  · rw [List.length_map, List.length_map, List.length_take]
                    exact small1000 (by omega)
                  · intro b o e
                    rw [upd_ne (ne_of_none e nD)]
                    exact sc b o e
                  · rw [upd_same, List.take_add_one, ec', List.map_append, List.map_append]
                    rfl
                · refine ⟨D, _, rfl, SqL.of eD, ?_⟩
                  have el : z.cps.size = (tl z).length := by simp
                  rw [el, List.take_length, List.all_map]
                  rw [e3] at q
                  exact q _ sc
      | _ => exact absurd rfl e
/-! ### is_about -/
theorem strs_flat (ys : List Str) : (ys.map V.str).all flatV = true := by
  rw [List.all_map]
  exact List.all_eq_true.mpr fun _ _ => rfl
theorem ok_isAbout {f fW : Addr} {fd fdW : FuncData} {k : Nat} {u1 : Tok} (F : Fun K "is_about" "is_about" st_is_about f fd) (D_is_text_within : Df K mg "is_text_within" st_is_text_within ["value", "most"] fW fdW)
    (m_len : mg "len" = none) (m_str : mg "str" = none) (m_isinstance : mg "isinstance" = none) (c_MOST_ABOUT_SIGNS : mg "MOST_ABOUT_SIGNS" = some (.int 200 u1)) :
    FnOk P w K mg base CX0 (k + 2) f fd ["value"] (spOf isAb) := by
  have G_is_text_within : FnOk P w K mg base CX0 (k + 1) fW fdW ["value", "most"] spWithin := ok_within D_is_text_within.F m_len m_str m_isinstance
  refine F.ok sc_is_about (fun vs H Q E h => ?_) (fun cdv A outer s H vs Q E hr h => ?_)
  · obtain ⟨v, rfl, _⟩ := h
    rfl
  · obtain ⟨v, rfl, hv, q⟩ := h
    refine ⟨_, pss_cons (ps_if (pt_not (pt_val (pe_call G_is_text_within hr (by rfl) D_is_text_within.g D_is_text_within.F.kp D_is_text_within.b .nil pass0 (pa_cons (pv 0) (pa_cons (pe_glob (v := .int 200) rfl c_MOST_ABOUT_SIGNS ⟨_, rfl⟩) pa_nil))))) (pss_one (ps_ret pe_bl)) pss_nil)
      (pss_one (ps_ret (pe_or (pe_cmpR op_eq (pv 0) pe_str (nomark _)) (pe_one (pe_cmpR op_notIn_seq pe_str (pe_split (pv 0) pe_str) (by rfl)))))), ?_⟩
    refine ⟨v, rfl, v, 200, rfl, hv, _, rfl, ite2 (fun e => ?_) (fun e => ?_)⟩
    · cases v with
      | str z =>
        have e1 : ¬ ((z.length : Int) ≤ 200) := fun c => by
          have : within (.str z) 200 = true := decide_eq_true c
          rw [this] at e
          cases e
        have e2 : isAb (.str z) = false := by
          show ab z = false
          unfold ab
          rw [decide_eq_false (p := z.length ≤ 200) (by omega)]
          rfl
        rw [e2] at q
        exact q _ (Same.refl _)
      | _ => exact q _ (Same.refl _)
    · cases v with
      | str z =>
        have e1 : (z.length : Int) ≤ 200 := by
          have : within (.str z) 200 = true := by
            cases c : within (.str z) 200 with
            | true => rfl
            | false => rw [c] at e; exact absurd rfl e
          exact of_decide_eq_true this
        have e2 : isAb (.str z) = (decide (z = Str.ofString "") || !inV (.str (Str.ofString "")) ((Txt.split z (Str.ofString " ")).map V.str)) := by
          show ab z = _
          unfold ab
          rw [decide_eq_true (p := z.length ≤ 200) (by omega), Bool.true_and]
        have e3 : decide (V.str z = V.str (Str.ofString "")) = decide (z = Str.ofString "") := decide_eq_decide.mpr ⟨fun h => V.str.inj h, fun h => by rw [h]⟩
        refine ⟨.str z, rfl, rfl, _, rfl, ite2 (fun e => ?_) (fun e => ?_)⟩
        · rw [e2, ← e3, e] at q
          exact q _ (Same.refl _)
        · have e4 : decide (V.str z = V.str (Str.ofString "")) = false := Bool.eq_false_iff.mpr e
          rw [e2, ← e3, e4, Bool.false_or] at q
          refine ⟨.str z, rfl, ⟨_, rfl⟩, _, _, rfl, rfl, by decide +kernel, ?_, fun p np => ?_⟩
          · have : sizeLine = 16777216 := sizeLine_eq
            omega
          · exact ⟨p, _, rfl, .inl (SqL.of upd_same), rfl, strs_flat _, q _ (same_upd np)⟩
      | _ => exact absurd rfl e
/-! ### is_among -/
def among (v : V) (ys : List Str) : Bool := match v with
  | .str z => inV (.str z) (ys.map V.str)
  | _ => false
def spAmong (K : PySem.W.Frag) : Sp := fun vs H Q _ => ∃ (v : V) (a : Addr) (ys : List Str), vs = [v, .ref a] ∧ Thg H v ∧ SqT K H a (ys.map V.str) ∧ Q (.bl (among v ys)) H
theorem ok_isAmong {f : Addr} {fd : FuncData} {k : Nat} (F : Fun K "is_among" "is_among" st_is_among f fd) (m_str : mg "str" = none) (m_isinstance : mg "isinstance" = none) :
    FnOk P w K mg base CX0 (k + 1) f fd ["value", "texts"] (spAmong K) := by
  refine F.ok sc_is_among (fun vs H Q E h => ?_) (fun cdv A outer s H vs Q E hr h => ?_)
  · obtain ⟨v, a, ys, rfl, _⟩ := h
    rfl
  · obtain ⟨v, a, ys, rfl, hv, hS, q⟩ := h
    refine ⟨_, pss_one (ps_ret (pe_and (pe_callB call_isi (by rfl) m_isinstance (by decide +kernel) (pa_cons (pv 0) (pa_cons (pe_bltn (v := .ty "str") (by rfl) m_str (by decide +kernel) rfl) pa_nil))) (pe_one (pe_cmpR op_in_seq (pv 0) (pv 1) (by rfl))))), ?_⟩
    obtain ⟨t, ht, hk⟩ := hv.isi (K := K)
    refine ⟨v, rfl, v, _, t, _, isS v, rfl, ClsV.ty "str", ht, hk, _, rfl, ?_⟩
    cases v with
    | str z => exact ⟨_, rfl, _, rfl, a, _, rfl, .inr hS, rfl, strs_flat _, q⟩
    | _ => exact q
/-! ### is_default -/
def dflt (v : V) (allowed : Bool) : Bool := decide (v = .non) || (allowed && within v 60)
def spDefault : Sp := fun vs H Q _ => ∃ (v : V) (b : Bool), vs = [v, .bl b] ∧ Thg H v ∧ Q (.bl (dflt v b)) H
theorem ok_isDefault {f fW : Addr} {fd fdW : FuncData} {k : Nat} {u1 : Tok} (F : Fun K "is_default" "is_default" st_is_default f fd) (D_is_text_within : Df K mg "is_text_within" st_is_text_within ["value", "most"] fW fdW)
    (m_len : mg "len" = none) (m_str : mg "str" = none) (m_isinstance : mg "isinstance" = none) (c_MOST_DEFAULT_SIGNS : mg "MOST_DEFAULT_SIGNS" = some (.int 60 u1)) :
    FnOk P w K mg base CX0 (k + 2) f fd ["value", "allowed"] spDefault := by
  have G_is_text_within : FnOk P w K mg base CX0 (k + 1) fW fdW ["value", "most"] spWithin := ok_within D_is_text_within.F m_len m_str m_isinstance
  refine F.ok sc_is_default (fun vs H Q E h => ?_) (fun cdv A outer s H vs Q E hr h => ?_)
  · obtain ⟨v, b, rfl, _⟩ := h
    rfl
  · obtain ⟨v, b, rfl, hv, q⟩ := h
    refine ⟨_, pss_cons (ps_if (pt_cmpR op_isN (pv 0) pe_non (nomark _)) (pss_one (ps_ret pe_bl)) pss_nil)
      (pss_one (ps_ret (pe_and (pv 1) (pe_one (pe_call G_is_text_within hr (by rfl) D_is_text_within.g D_is_text_within.F.kp D_is_text_within.b .nil pass0 (pa_cons (pv 0) (pa_cons (pe_glob (v := .int 60) rfl c_MOST_DEFAULT_SIGNS ⟨_, rfl⟩) pa_nil))))))), ?_⟩
    refine ⟨v, rfl, rfl, _, rfl, ite2 (fun e => ?_) (fun e => ?_)⟩
    · unfold dflt at q
      rw [e] at q
      exact q
    · unfold dflt at q
      rw [Bool.eq_false_iff.mpr e, Bool.false_or] at q
      refine ⟨.bl b, rfl, b, rfl, ?_⟩
      cases b with
      | true => exact ⟨v, rfl, v, 60, rfl, hv, q⟩
      | false => exact q
theorem dp_strs {K : PySem.W.Frag} {H : Hp} : ∀ ys : List Str, DpAll K H (ys.map V.str) (ys.map PyData.str)
  | [] => .nil
  | y :: r => .cons (.str y) (dp_strs r)
theorem strOk_of {z : Str} (h : ∀ c ∈ tl z, c < 256) : PyData.strOk z = true := by
  unfold PyData.strOk
  rw [← Array.all_toList]
  exact List.all_eq_true.mpr fun c hc => decide_eq_true (Nat.lt_trans (h c hc) (by decide))
theorem lay_strs : ∀ ys : List Str, (∀ y ∈ ys, PyData.strOk y = true) → PyData.canLayAll0 (ys.map PyData.str) = true ∧ PyData.depthAll (ys.map PyData.str) = 0
  | [], _ => ⟨by simp [PyData.canLayAll0], by simp [PyData.depthAll]⟩
  | y :: r, h => by
    obtain ⟨h1, h2⟩ := lay_strs r fun z hz => h z (List.mem_cons_of_mem _ hz)
    rw [List.map_cons]
    exact ⟨by simp [PyData.canLayAll0, PyData.canLay0, h1, h y List.mem_cons_self], by simp [PyData.depthAll, PyData.depth, h2]⟩
theorem shaped_strs (ys : List Str) (h : ∀ y ∈ ys, PyData.strOk y = true) : SeqAt.shaped (.list (ys.map PyData.str)) = true := by
  obtain ⟨h1, h2⟩ := lay_strs ys h
  unfold SeqAt.shaped
  simp [PyData.canLay0, PyData.depth, h1, h2]
theorem eqv_nil (ds : List PyData) : PyData.eqv (.list ds) (.list []) = ds.isEmpty := by
  cases ds with
  | nil => simp [PyData.eqv, PyData.eqvAll]
  | cons d r => simp [PyData.eqv, PyData.eqvAll]
theorem filter_all (p : Nat → Bool) : ∀ l : List Nat, (l.filter fun c => !p c).isEmpty = l.all p
  | [] => rfl
  | c :: r => by
    cases h : p c with
    | true =>
      rw [List.filter_cons_of_neg (by rw [h]; decide), filter_all p r, List.all_cons, h, Bool.true_and]
    | false =>
      rw [List.filter_cons_of_pos (by rw [h]; rfl), List.all_cons, h]
      rfl
/-! ### the law's own looks -/
/-! ### shorts -/
def letters : Str := Str.ofString "abcdefghijklmnopqrstuvwxyzABCDEFGHIJKLMNOPQRSTUVWXYZ"
def inLet (z : Str) : Bool := !(Builtin.Str.occurrences letters z 0 letters.length 1).isEmpty
def isSh : V → Bool
  | .str z => decide ((z.length : Int) ≤ 1) && inLet z
  | _ => false
theorem ok_isShort {f fW : Addr} {fd fdW : FuncData} {k : Nat} {u1 : Tok} (F : Fun K "is_short_or_empty" "is_short_or_empty" st_is_short_or_empty f fd) (D_is_text_within : Df K mg "is_text_within" st_is_text_within ["value", "most"] fW fdW)
    (m_len : mg "len" = none) (m_str : mg "str" = none) (m_isinstance : mg "isinstance" = none) (c_LETTERS : mg "LETTERS" = some (.str letters u1)) :
    FnOk P w K mg base CX0 (k + 2) f fd ["value"] (spOf isSh) := by
  have G_is_text_within : FnOk P w K mg base CX0 (k + 1) fW fdW ["value", "most"] spWithin := ok_within D_is_text_within.F m_len m_str m_isinstance
  refine F.ok sc_is_short_or_empty (fun vs H Q E h => ?_) (fun cdv A outer s H vs Q E hr h => ?_)
  · obtain ⟨v, rfl, _⟩ := h
    rfl
  · obtain ⟨v, rfl, hv, q⟩ := h
    refine ⟨_, pss_one (ps_ret (pe_and (pe_call G_is_text_within hr (by rfl) D_is_text_within.g D_is_text_within.F.kp D_is_text_within.b .nil pass0 (pa_cons (pv 0) (pa_cons pe_int pa_nil))) (pe_one (pe_cmpR op_in_str (pv 0) (pe_glob (v := .str letters) rfl c_LETTERS ⟨_, rfl⟩) (by rfl))))), ?_⟩
    refine ⟨v, rfl, v, 1, rfl, hv, _, rfl, ?_⟩
    have q' := q H (Same.refl H)
    cases v with
    | str z =>
      cases e : decide ((z.length : Int) ≤ 1) with
      | true =>
        have e2 : within (.str z) 1 = true := e
        rw [e2]
        have e3 : isSh (.str z) = inLet z := by show (decide ((z.length : Int) ≤ 1) && inLet z) = inLet z; rw [e, Bool.true_and]
        rw [e3] at q'
        exact ⟨_, rfl, _, _, rfl, rfl, q'⟩
      | false =>
        have e2 : within (.str z) 1 = false := e
        rw [e2]
        have e3 : isSh (.str z) = false := by show (decide ((z.length : Int) ≤ 1) && inLet z) = false; rw [e, Bool.false_and]
        rw [e3] at q'
        exact q'
    | _ => exact q'
/-! ### truths -/
def isB : V → Bool
  | .bl _ => true
  | _ => false
theorem Thg.isb {K : PySem.W.Frag} {H : Hp} {v : V} (h : Thg H v) : ∃ t : Value, TyX K H v t ∧ PySem.W.kitOne K t (.type "bool") = some (isB v) := by
  cases h with
  | non => exact ⟨_, .base .non, kit_ty (show kitB "NoneType" "bool" = some false from by decide +kernel)⟩
  | bl b => exact ⟨_, .base (.bl b), kit_ty (show kitB "bool" "bool" = some true from by decide +kernel)⟩
  | int _ _ => exact ⟨_, .base (.int _), kit_ty (show kitB "int" "bool" = some false from by decide +kernel)⟩
  | str _ => exact ⟨_, .base (.str _), kit_ty (show kitB "str" "bool" = some false from by decide +kernel)⟩
  | odd e h =>
    cases h with
    | l0 => exact ⟨_, .base (.lst e), kit_ty (show kitB "list" "bool" = some false from by decide +kernel)⟩
    | l1 _ => exact ⟨_, .base (.lst e), kit_ty (show kitB "list" "bool" = some false from by decide +kernel)⟩
    | t0 => exact ⟨_, .base (.tup e), kit_ty (show kitB "tuple" "bool" = some false from by decide +kernel)⟩
    | t1 _ => exact ⟨_, .base (.tup e), kit_ty (show kitB "tuple" "bool" = some false from by decide +kernel)⟩
    | d0 => exact ⟨_, .base (.dK e), kit_ty (show kitB "dict" "bool" = some false from by decide +kernel)⟩
    | d1 _ _ _ => exact ⟨_, .base (.dK e), kit_ty (show kitB "dict" "bool" = some false from by decide +kernel)⟩
def trth (v : V) (allowed : Bool) : Bool := match v with
  | .bl b => allowed || !b
  | _ => false
def spTruth : Sp := fun vs H Q _ => ∃ (v : V) (b : Bool), vs = [v, .bl b] ∧ Thg H v ∧ Q (.bl (trth v b)) H
theorem ok_isTruth {f : Addr} {fd : FuncData} {k : Nat} (F : Fun K "is_truth" "is_truth" st_is_truth f fd) (m_bool : mg "bool" = none) (m_isinstance : mg "isinstance" = none) : FnOk P w K mg base CX0 (k + 1) f fd ["value", "allowed"] spTruth := by
  refine F.ok sc_is_truth (fun vs H Q E h => ?_) (fun cdv A outer s H vs Q E hr h => ?_)
  · obtain ⟨v, b, rfl, _⟩ := h
    rfl
  · obtain ⟨v, b, rfl, hv, q⟩ := h
    refine ⟨_, pss_one (ps_ret (pe_and (pe_callB call_isi (by rfl) m_isinstance (by decide +kernel) (pa_cons (pv 0) (pa_cons (pe_bltn (v := .ty "bool") (by rfl) m_bool (by decide +kernel) rfl) pa_nil))) (pe_one (pe_or (pv 1) (pe_one (pe_not (pv 0))))))), ?_⟩
    obtain ⟨t, ht, hk⟩ := hv.isb (K := K)
    refine ⟨v, rfl, v, _, t, _, isB v, rfl, ClsV.ty "bool", ht, hk, _, rfl, ?_⟩
    cases v with
    | bl c =>
      refine ⟨.bl b, rfl, b, rfl, ?_⟩
      cases b with
      | true => exact q
      | false => exact ⟨.bl c, rfl, c, rfl, q⟩
    | _ => exact q
/-- x is True, x is False -/
theorem op_isBA {X : Cx} : OpR X (compareOp .Is) (fun x y H Q => ∃ b : Bool, y = .bl b ∧ Q (.bl (decide (x = .bl b))) H) := by
  intro pins s σ H x y v u Q I rx ry h
  obtain ⟨b, rfl, q⟩ := h
  cases (show u = Value.bool b from ry)
  cases x with
  | bl a =>
    cases (show v = Value.bool a from rx)
    by_cases e : a = b
    · subst e
      exact wpAny_is_self rfl ⟨.bl true, H, I, rfl, by simpa using q⟩
    · exact wpAny_is_other rfl (fun z => e (Value.bool.inj z)) ⟨.bl false, H, I, rfl, by simpa [e] using q⟩
  | non =>
    cases (show v = Value.none from rx)
    exact wpAny_is_other rfl (fun z => by cases z) ⟨.bl false, H, I, rfl, by simpa using q⟩
  | int i =>
    obtain ⟨t, rfl⟩ := rx
    exact wpAny_is_other rfl (fun z => by cases z) ⟨.bl false, H, I, rfl, by simpa using q⟩
  | str z =>
    obtain ⟨t, rfl⟩ := rx
    exact wpAny_is_other rfl (fun z => by cases z) ⟨.bl false, H, I, rfl, by simpa using q⟩
  | byt z =>
    obtain ⟨t, rfl⟩ := rx
    exact wpAny_is_other rfl (fun z => by cases z) ⟨.bl false, H, I, rfl, by simpa using q⟩
  | flt z =>
    obtain ⟨t, rfl⟩ := rx
    exact wpAny_is_other rfl (fun z => by cases z) ⟨.bl false, H, I, rfl, by simpa using q⟩
  | ref a =>
    cases (show v = Value.ref a from rx)
    exact wpAny_is_other rfl (fun z => by cases z) ⟨.bl false, H, I, rfl, by simpa using q⟩
  | ty n =>
    cases (show v = Value.type n from rx)
    exact wpAny_is_other rfl (fun z => by cases z) ⟨.bl false, H, I, rfl, by simpa using q⟩
end
end WB

set_option Elab.async false
set_option linter.all false
set_option maxRecDepth 100000
set_option maxHeartbeats 4000000
namespace WB
open PySem PySem.Spec PyProof.Rows L2 WG
open TL (tl)
abbrev st_err : Stmt := inClass (topS 34) 0
abbrev st_init : Stmt := inClass (topS 42) 0
theorem sc_err : FnScope ["self", "field"] ["self", "field"] (defScope st_err) := ⟨rfl, rfl, rfl, by decide +kernel, rfl, by decide +kernel, by decide +kernel⟩
abbrev st_Option_init : Stmt := inClass (topS 42) 0
theorem sc_Option_init : FnScope ["self", "long", "short", "takes", "maker", "default", "needed", "off", "about"] ["self", "long", "short", "takes", "maker", "default", "needed", "off", "about"] (defScope st_Option_init) := ⟨rfl, rfl, rfl, by decide +kernel, rfl, by decide +kernel, by decide +kernel⟩
abbrev sc_init := sc_Option_init
/-! ### what is wrong first -/
def takesL : List Str := [Str.ofString "flag", Str.ofString "count", Str.ofString "one", Str.ofString "last", Str.ofString "each"]
def plainL : List Str := [Str.ofString "flag", Str.ofString "count"]
def singleL : List Str := [Str.ofString "one", Str.ofString "last"]
def taken (v : V) : Str := match v with
  | .str z => z
  | _ => Str.ofString "none"
def plain (v : V) : Bool := inV (.str (taken v)) (plainL.map V.str)
def single (v : V) : Bool := inV (.str (taken v)) (singleL.map V.str)
def wrongF (v0 v1 v2 v3 v4 v5 v6 v7 : V) : Str := if isNm v0 = false then Str.ofString "long" else if isSh v1 = false then Str.ofString "short" else if among v2 takesL = false then Str.ofString "takes" else if isNm v3 = false then Str.ofString "maker" else if dflt v4 (single v2) = false then Str.ofString "default" else if trth v5 (!plain v2 && decide (v4 = .non)) = false then Str.ofString "needed" else if trth v6 (plain v2) = false then Str.ofString "off" else if isAb v7 = false then Str.ofString "about" else Str.ofString ""
/-- NoOption, as the written part tells it -/
structure ErrT (K : PySem.W.Frag) (mg : Str → Option Value) (x : Str) (C fI : Addr) (fd : FuncData) : Prop where
  o : OexC K C
  i : PySem.W.findIn K (.ref C) "__init__" = some (some (.ref fI))
  t : PySem.W.typeIn K (.ref fI) = some (.type "function")
  nf : PySem.W.findIn K (.ref C) "field" = some none
  g : mg x = some (.ref C)
  b : Binds K fd ["self", "field"] []
section
variable {P : Program} {w : World} {K : PySem.W.Frag} {mg : Str → Option Value} {base : Heap}
def spErr (C : Addr) : Sp := fun vs H Q _ => ∃ (a : Addr) (y : V), vs = [.ref a, y] ∧ H a = some (exo a C none) ∧ ∀ dx, H dx = none → dx ≠ a → Q .non (upd (upd H dx (exd dx [(("field" : Str), y)])) a (exo a C (some dx)))
theorem ok_err {C f : Addr} {fd : FuncData} {x q : Str} {k : Nat} (F : Fun K "__init__" q st_err f fd) (T : ErrT K mg x C f fd) : FnOk P w K mg base CX0 (k + 1) f fd ["self", "field"] (spErr C) := by
  refine F.ok sc_err (fun vs H Q E h => ?_) (fun cdv A outer s H vs Q E hr h => ?_)
  · obtain ⟨a, y, rfl, _⟩ := h
    rfl
  · obtain ⟨a, y, rfl, ea, q⟩ := h
    refine ⟨_, pss_one (ps_ost (pv 0) (pv 1)), ?_⟩
    exact ⟨y, rfl, .ref a, rfl, a, C, rfl, T.o, T.nf, .inl ⟨ea, fun dx n ne => q dx n ne⟩⟩
/-- the way out by a raised error -/
theorem err_out {C : Addr} {y : V} {H : Hp} {E : XK} {x : Addr} (h : ∀ H' d, Same H H' → H d = none → H' d = some (.xd [(("field" : Str), y)]) → E (.ref C) (some d) H') (a : Addr) (na : H a = none) :
    spErr C [.ref a, y] (upd H a (exo a C none)) (fun v H2 => v = .non ∧ ∃ (d : Addr) (fs : List (Str × V)), H2 a = some (exo a C (some d)) ∧ H2 d = some (exd d fs) ∧ H d = none ∧ E (.ref C) (some d) (upd (del H2 a) d (.xd fs))) (fun _ _ _ => False) := by
  refine ⟨a, y, rfl, upd_same, fun dx ndx ne => ⟨rfl, dx, [(("field" : Str), y)], upd_same, ?_, ?_, ?_⟩⟩
  · rw [upd_ne ne, upd_same]
  · rw [upd_ne ne] at ndx
    exact ndx
  · rw [upd_ne ne] at ndx
    refine h _ dx (fun b o e => ?_) ndx upd_same
    have nb : b ≠ dx := ne_of_none e ndx
    have nba : b ≠ a := ne_of_none e na
    rw [upd_ne nb, del_ne nba, upd_ne nba, upd_ne nb, upd_ne nba]
    exact e
/-! ### Option.__init__ -/
/-- Option, as the written part tells it -/
structure ClsT (K : PySem.W.Frag) (C : Addr) : Prop where
  cl : Cls K C
  nh : NoAttr K C "held"
def spInit (C CN : Addr) : Sp := fun vs H Q E => ∃ (x dx : Addr) (v0 v1 v2 v3 v4 v5 v6 v7 : V), vs = [.ref x, v0, v1, v2, v3, v4, v5, v6, v7] ∧ H x = some (.ins C dx []) ∧ (Thg H v0 ∧ Thg H v1 ∧ Thg H v2 ∧ Thg H v3 ∧ Thg H v4 ∧ Thg H v5 ∧ Thg H v6 ∧ Thg H v7) ∧
  (wrongF v0 v1 v2 v3 v4 v5 v6 v7 = Str.ofString "" → ∀ H' t, But x H H' → H' x = some (.ins C dx [(("held" : Str), .ref t)]) → H' t = some (.tup [v0, v1, v2, v3, v4, v5, v6, v7]) → Q .non H') ∧
  (wrongF v0 v1 v2 v3 v4 v5 v6 v7 ≠ Str.ofString "" → ∀ H' d, Same H H' → H d = none → H' d = some (.xd [(("field" : Str), .str (wrongF v0 v1 v2 v3 v4 v5 v6 v7))]) → E (.ref CN) (some d) H')
theorem ev_use {t : TE} {σ : L2.St} {H : Hp} {v : V} {R : VK} (e : ∀ R : VK, R v H → t σ H R) (c : R v H) : t σ H R := e R c
theorem lit_ne {s : String} (h : (Str.ofString s).length ≠ 0) : Str.ofString s ≠ Str.ofString "" := fun e => h (by rw [e]; decide +kernel)
theorem ok_init {C CN f fE fW fA fB fM fD fS fR : Addr} {fd fdE fdW fdA fdB fdM fdD fdS fdR : FuncData} {u1 u2 u3 u4 u5 : Tok} {aT aU aW : Addr} {k : Nat} (F : FunD K "__init__" "Option.__init__" (defArgs st_init) (defBody st_init) (defScope st_init) [.str (Str.ofString ""), .str (Str.ofString "flag"), .str (Str.ofString "word"), .non, .bl false, .bl false, .str (Str.ofString "")] [] f fd)
    (FE : Fun K "__init__" "NoOption.__init__" st_err fE fdE) (TE : ErrT K mg "NoOption" CN fE fdE) (T : ClsT K C)
    (D_is_text_within : Df K mg "is_text_within" st_is_text_within ["value", "most"] fW fdW) (D_is_name : Df K mg "is_name" st_is_name ["value"] fA fdA) (D_is_about : Df K mg "is_about" st_is_about ["value"] fB fdB)
    (D_is_among : Df K mg "is_among" st_is_among ["value", "texts"] fM fdM) (D_is_default : Df K mg "is_default" st_is_default ["value", "allowed"] fD fdD) (D_is_short_or_empty : Df K mg "is_short_or_empty" st_is_short_or_empty ["value"] fS fdS) (D_is_truth : Df K mg "is_truth" st_is_truth ["value", "allowed"] fR fdR)
    (m_len : mg "len" = none) (m_str : mg "str" = none) (m_bool : mg "bool" = none) (m_isinstance : mg "isinstance" = none) (m_all : mg "all" = none) (c_MOST_NAME_SIGNS : mg "MOST_NAME_SIGNS" = some (.int 10 u1)) (c_NAME_SIGNS : mg "NAME_SIGNS" = some (.str nameSet u2))
    (c_MOST_ABOUT_SIGNS : mg "MOST_ABOUT_SIGNS" = some (.int 200 u3)) (c_MOST_DEFAULT_SIGNS : mg "MOST_DEFAULT_SIGNS" = some (.int 60 u4)) (c_LETTERS : mg "LETTERS" = some (.str letters u5)) (c_TAKES : mg "TAKES" = some (.ref aT)) (hT : ∀ H, SqT K H aT (takesL.map V.str))
    (c_UNVALUED : mg "UNVALUED" = some (.ref aU)) (hU : ∀ H, SqT K H aU (plainL.map V.str)) (c_WITH_DEFAULT : mg "WITH_DEFAULT" = some (.ref aW)) (hW : ∀ H, SqT K H aW (singleL.map V.str)) :
    FnOk P w K mg base (L2.CX P w) (k + 3) f fd ["self", "long", "short", "takes", "maker", "default", "needed", "off", "about"] (spInit C CN) := by
  have GE : FnOk P w K mg base CX0 (k + 1) fE fdE ["self", "field"] (spErr CN) := ok_err FE TE
  have G_is_name : FnOk P w K mg base CX0 (k + 2) fA fdA ["value"] (spOf isNm) := ok_isName D_is_name.F D_is_text_within m_len m_str m_isinstance m_all c_MOST_NAME_SIGNS c_NAME_SIGNS
  have G_is_about : FnOk P w K mg base CX0 (k + 2) fB fdB ["value"] (spOf isAb) := ok_isAbout D_is_about.F D_is_text_within m_len m_str m_isinstance c_MOST_ABOUT_SIGNS
  have G_is_among : FnOk P w K mg base CX0 (k + 2) fM fdM ["value", "texts"] (spAmong K) := ok_isAmong D_is_among.F m_str m_isinstance
  have G_is_default : FnOk P w K mg base CX0 (k + 2) fD fdD ["value", "allowed"] spDefault := ok_isDefault D_is_default.F D_is_text_within m_len m_str m_isinstance c_MOST_DEFAULT_SIGNS
  have G_is_short_or_empty : FnOk P w K mg base CX0 (k + 2) fS fdS ["value"] (spOf isSh) := ok_isShort D_is_short_or_empty.F D_is_text_within m_len m_str m_isinstance c_LETTERS
  have G_is_truth : FnOk P w K mg base CX0 (k + 2) fR fdR ["value", "allowed"] spTruth := ok_isTruth D_is_truth.F m_bool m_isinstance
  refine F.ok sc_init (fun vs H Q E h => ?_) (fun cdv A outer s H vs Q E hr h => ?_)
  · obtain ⟨x, dx, v0, v1, v2, v3, v4, v5, v6, v7, rfl, _⟩ := h
    rfl
  · obtain ⟨x, dx, v0, v1, v2, v3, v4, v5, v6, v7, rfl, ex, ⟨t0, t1, t2, t3, t4, t5, t6, t7⟩, qok, qbad⟩ := h
    refine ⟨_, pss_cons (ps_if (pt_not (pt_val (pe_call G_is_name hr (by rfl) D_is_name.g D_is_name.F.kp D_is_name.b .nil pass0 (pa_cons (pv 1) pa_nil)))) (pss_one (ps_raise rfl (takes_of rfl rfl rfl rfl) (pmk_oex TE.o TE.i TE.t GE hr TE.b .nil pass0 (by rfl) TE.g (pa_cons pe_str pa_nil)))) pss_nil)
      (pss_cons (ps_if (pt_not (pt_val (pe_call G_is_short_or_empty hr (by rfl) D_is_short_or_empty.g D_is_short_or_empty.F.kp D_is_short_or_empty.b .nil pass0 (pa_cons (pv 2) pa_nil)))) (pss_one (ps_raise rfl (takes_of rfl rfl rfl rfl) (pmk_oex TE.o TE.i TE.t GE hr TE.b .nil pass0 (by rfl) TE.g (pa_cons pe_str pa_nil)))) pss_nil)
      (pss_cons (ps_if (pt_not (pt_val (pe_call G_is_among hr (by rfl) D_is_among.g D_is_among.F.kp D_is_among.b .nil pass0 (pa_cons (pv 3) (pa_cons (pe_glob (v := .ref aT) rfl c_TAKES rfl) pa_nil))))) (pss_one (ps_raise rfl (takes_of rfl rfl rfl rfl) (pmk_oex TE.o TE.i TE.t GE hr TE.b .nil pass0 (by rfl) TE.g (pa_cons pe_str pa_nil)))) pss_nil)
      (pss_cons (ps_if (pt_not (pt_val (pe_call G_is_name hr (by rfl) D_is_name.g D_is_name.F.kp D_is_name.b .nil pass0 (pa_cons (pv 4) pa_nil)))) (pss_one (ps_raise rfl (takes_of rfl rfl rfl rfl) (pmk_oex TE.o TE.i TE.t GE hr TE.b .nil pass0 (by rfl) TE.g (pa_cons pe_str pa_nil)))) pss_nil)
      (pss_cons (ps_if (pt_not (pt_val (pe_call G_is_default hr (by rfl) D_is_default.g D_is_default.F.kp D_is_default.b .nil pass0 (pa_cons (pv 5) (pa_cons (pe_cmpR op_in_seq (pv 3) (pe_glob (v := .ref aW) rfl c_WITH_DEFAULT rfl) (by rfl)) pa_nil))))) (pss_one (ps_raise rfl (takes_of rfl rfl rfl rfl) (pmk_oex TE.o TE.i TE.t GE hr TE.b .nil pass0 (by rfl) TE.g (pa_cons pe_str pa_nil)))) pss_nil)
      (pss_cons (ps_if (pt_not (pt_val (pe_call G_is_truth hr (by rfl) D_is_truth.g D_is_truth.F.kp D_is_truth.b .nil pass0 (pa_cons (pv 6) (pa_cons (pe_and (pe_cmpR op_notIn_seq (pv 3) (pe_glob (v := .ref aU) rfl c_UNVALUED rfl) (by rfl)) (pe_one (pe_cmpR op_isN (pv 5) pe_non (nomark _)))) pa_nil))))) (pss_one (ps_raise rfl (takes_of rfl rfl rfl rfl) (pmk_oex TE.o TE.i TE.t GE hr TE.b .nil pass0 (by rfl) TE.g (pa_cons pe_str pa_nil)))) pss_nil)
      (pss_cons (ps_if (pt_not (pt_val (pe_call G_is_truth hr (by rfl) D_is_truth.g D_is_truth.F.kp D_is_truth.b .nil pass0 (pa_cons (pv 7) (pa_cons (pe_cmpR op_in_seq (pv 3) (pe_glob (v := .ref aU) rfl c_UNVALUED rfl) (by rfl)) pa_nil))))) (pss_one (ps_raise rfl (takes_of rfl rfl rfl rfl) (pmk_oex TE.o TE.i TE.t GE hr TE.b .nil pass0 (by rfl) TE.g (pa_cons pe_str pa_nil)))) pss_nil)
      (pss_cons (ps_if (pt_not (pt_val (pe_call G_is_about hr (by rfl) D_is_about.g D_is_about.F.kp D_is_about.b .nil pass0 (pa_cons (pv 8) pa_nil)))) (pss_one (ps_raise rfl (takes_of rfl rfl rfl rfl) (pmk_oex TE.o TE.i TE.t GE hr TE.b .nil pass0 (by rfl) TE.g (pa_cons pe_str pa_nil)))) pss_nil)
      (pss_one (ps_fld (pv 0) (pe_tup (pa_cons (pv 1) (pa_cons (pv 2) (pa_cons (pv 3) (pa_cons (pv 4) (pa_cons (pv 5) (pa_cons (pv 6) (pa_cons (pv 7) (pa_cons (pv 8) pa_nil))))))))) rfl))))))))), ?_⟩
    refine ⟨v0, rfl, v0, rfl, t0, fun H1 s1 => ⟨_, rfl, ?_⟩⟩
    cases b0 : isNm v0 with
    | false =>
      have e : wrongF v0 v1 v2 v3 v4 v5 v6 v7 = Str.ofString "long" := by unfold wrongF; rw [if_pos b0]
      rw [e] at qbad
      exact ⟨by show 1 ≤ 1000; decide, fun a na => err_out (x := x) (fun H' d sm nd ed => qbad (lit_ne (by decide +kernel)) H' d (s1.trans sm) (s1.free nd) ed) a na⟩
    | true =>
      refine ⟨v1, rfl, v1, rfl, t1.same s1, fun H2 s2 => ⟨_, rfl, ?_⟩⟩
      have s12 := s1.trans s2
      cases b1 : isSh v1 with
      | false =>
        have e : wrongF v0 v1 v2 v3 v4 v5 v6 v7 = Str.ofString "short" := by unfold wrongF; rw [if_neg (by rw [b0]; decide), if_pos b1]
        rw [e] at qbad
        exact ⟨by show 1 ≤ 1000; decide, fun a na => err_out (x := x) (fun H' d sm nd ed => qbad (lit_ne (by decide +kernel)) H' d (s12.trans sm) (s12.free nd) ed) a na⟩
      | true =>
        refine ⟨v2, rfl, v2, aT, takesL, rfl, t2.same s12, hT _, _, rfl, ?_⟩
        cases b2 : among v2 takesL with
        | false =>
          have e : wrongF v0 v1 v2 v3 v4 v5 v6 v7 = Str.ofString "takes" := by unfold wrongF; rw [if_neg (by rw [b0]; decide), if_neg (by rw [b1]; decide), if_pos b2]
          rw [e] at qbad
          exact ⟨by show 1 ≤ 1000; decide, fun a na => err_out (x := x) (fun H' d sm nd ed => qbad (lit_ne (by decide +kernel)) H' d (s12.trans sm) (s12.free nd) ed) a na⟩
        | true =>
          refine ⟨v3, rfl, v3, rfl, t3.same s12, fun H3 s3 => ⟨_, rfl, ?_⟩⟩
          have s13 := s12.trans s3
          cases b3 : isNm v3 with
          | false =>
            have e : wrongF v0 v1 v2 v3 v4 v5 v6 v7 = Str.ofString "maker" := by unfold wrongF; rw [if_neg (by rw [b0]; decide), if_neg (by rw [b1]; decide), if_neg (by rw [b2]; decide), if_pos b3]
            rw [e] at qbad
            exact ⟨by show 1 ≤ 1000; decide, fun a na => err_out (x := x) (fun H' d sm nd ed => qbad (lit_ne (by decide +kernel)) H' d (s13.trans sm) (s13.free nd) ed) a na⟩
          | true =>
            cases v2 with
            | str z2 =>
              refine ⟨v4, rfl, .str z2, rfl, aW, _, rfl, .inr (hW _), rfl, strs_flat _, v4, _, rfl, t4.same s13, _, rfl, ?_⟩
              have em : inV (.str z2) (singleL.map V.str) = single (.str z2) := rfl
              simp only [Bool.false_eq_true, if_false]
              rw [em]
              cases b4 : dflt v4 (single (.str z2)) with
              | false =>
                have e : wrongF v0 v1 (.str z2) v3 v4 v5 v6 v7 = Str.ofString "default" := by unfold wrongF; rw [if_neg (by rw [b0]; decide), if_neg (by rw [b1]; decide), if_neg (by rw [b2]; decide), if_neg (by rw [b3]; decide), if_pos b4]
                rw [e] at qbad
                exact ⟨by show 1 ≤ 1000; decide, fun a na => err_out (x := x) (fun H' d sm nd ed => qbad (lit_ne (by decide +kernel)) H' d (s13.trans sm) (s13.free nd) ed) a na⟩
              | true =>
                have ep : inV (.str z2) (plainL.map V.str) = plain (.str z2) := rfl
                refine ⟨v5, rfl, ?_⟩
                refine ev_use (t := tAndV _ _) (v := .bl (!plain (.str z2) && decide (v4 = .non))) (fun R c => ?_) ?_
                · refine ⟨.str z2, rfl, aU, _, rfl, .inr (hU _), rfl, strs_flat _, ?_⟩
                  simp only [if_true, ep]
                  cases bp : plain (.str z2) with
                  | true =>
                    rw [bp] at c
                    exact ⟨_, rfl, c⟩
                  | false =>
                    rw [bp] at c
                    exact ⟨_, rfl, v4, rfl, rfl, c⟩
                refine ⟨v5, _, rfl, t5.same s13, _, rfl, ?_⟩
                cases b5 : trth v5 (!plain (.str z2) && decide (v4 = .non)) with
                | false =>
                  have e : wrongF v0 v1 (.str z2) v3 v4 v5 v6 v7 = Str.ofString "needed" := by unfold wrongF; rw [if_neg (by rw [b0]; decide), if_neg (by rw [b1]; decide), if_neg (by rw [b2]; decide), if_neg (by rw [b3]; decide), if_neg (by rw [b4]; decide), if_pos b5]
                  rw [e] at qbad
                  exact ⟨by show 1 ≤ 1000; decide, fun a na => err_out (x := x) (fun H' d sm nd ed => qbad (lit_ne (by decide +kernel)) H' d (s13.trans sm) (s13.free nd) ed) a na⟩
                | true =>
                  refine ⟨v6, rfl, .str z2, rfl, aU, _, rfl, .inr (hU _), rfl, strs_flat _, v6, _, rfl, t6.same s13, _, rfl, ?_⟩
                  simp only [Bool.false_eq_true, if_false]
                  rw [ep]
                  cases b6 : trth v6 (plain (.str z2)) with
                  | false =>
                    have e : wrongF v0 v1 (.str z2) v3 v4 v5 v6 v7 = Str.ofString "off" := by unfold wrongF; rw [if_neg (by rw [b0]; decide), if_neg (by rw [b1]; decide), if_neg (by rw [b2]; decide), if_neg (by rw [b3]; decide), if_neg (by rw [b4]; decide), if_neg (by rw [b5]; decide), if_pos b6]
                    rw [e] at qbad
                    exact ⟨by show 1 ≤ 1000; decide, fun a na => err_out (x := x) (fun H' d sm nd ed => qbad (lit_ne (by decide +kernel)) H' d (s13.trans sm) (s13.free nd) ed) a na⟩
                  | true =>
                    refine ⟨v7, rfl, v7, rfl, t7.same s13, fun H4 s4 => ⟨_, rfl, ?_⟩⟩
                    have s14 := s13.trans s4
                    cases b7 : isAb v7 with
                    | false =>
                      have e : wrongF v0 v1 (.str z2) v3 v4 v5 v6 v7 = Str.ofString "about" := by unfold wrongF; rw [if_neg (by rw [b0]; decide), if_neg (by rw [b1]; decide), if_neg (by rw [b2]; decide), if_neg (by rw [b3]; decide), if_neg (by rw [b4]; decide), if_neg (by rw [b5]; decide), if_neg (by rw [b6]; decide), if_pos b7]
                      rw [e] at qbad
                      exact ⟨by show 1 ≤ 1000; decide, fun a na => err_out (x := x) (fun H' d sm nd ed => qbad (lit_ne (by decide +kernel)) H' d (s14.trans sm) (s14.free nd) ed) a na⟩
                    | true =>
                      have e : wrongF v0 v1 (.str z2) v3 v4 v5 v6 v7 = Str.ofString "" := by unfold wrongF; rw [if_neg (by rw [b0]; decide), if_neg (by rw [b1]; decide), if_neg (by rw [b2]; decide), if_neg (by rw [b3]; decide), if_neg (by rw [b4]; decide), if_neg (by rw [b5]; decide), if_neg (by rw [b6]; decide), if_neg (by rw [b7]; decide)]
                      have ex4 := s14 _ _ ex
                      refine ⟨_, rfl, _, rfl, _, rfl, _, rfl, _, rfl, _, rfl, _, rfl, _, rfl, by show 8 ≤ sizeLine; decide, fun t nt => ?_⟩
                      have nxt : x ≠ t := ne_of_none ex4 nt
                      refine ⟨.ref x, rfl, x, C, dx, [], rfl, ?_, T.cl, T.nh, by decide, ?_⟩
                      · rw [upd_ne nxt]
                        exact ex4
                      · refine qok e _ t (fun b o nb eb => ?_) upd_same ?_
                        · rw [upd_ne nb]
                          exact same_upd nt _ _ (s14 _ _ eb)
                        · rw [upd_ne nxt.symm, upd_same]
            | _ => cases b2
/-! ### the methods -/
end
end WB

set_option Elab.async false
set_option linter.all false
set_option maxRecDepth 100000
set_option maxHeartbeats 4000000
namespace WP
open PySem PySem.Spec PyProof.Rows L2 WG WB
open TL (tl)
abbrev st_err : Stmt := inClass (topS 35) 0
abbrev st_init : Stmt := inClass (topS 43) 0
theorem sc_err : FnScope ["self", "field"] ["self", "field"] (defScope st_err) := ⟨rfl, rfl, rfl, by decide +kernel, rfl, by decide +kernel, by decide +kernel⟩
theorem sc_init : FnScope ["self", "name", "many", "maker", "default", "about"] ["self", "name", "many", "maker", "default", "about"] (defScope st_init) := ⟨rfl, rfl, rfl, by decide +kernel, rfl, by decide +kernel, by decide +kernel⟩
/-! ### what is wrong first -/
def manies : List Str := [Str.ofString "one", Str.ofString "maybe", Str.ofString "some", Str.ofString "any"]
def isMb (v : V) : Bool := decide (v = .str (Str.ofString "maybe"))
def wrongF (v0 v1 v2 v3 v4 : V) : Str :=
  if isNm v0 = false then Str.ofString "name" else if among v1 manies = false then Str.ofString "many" else if isNm v2 = false then Str.ofString "maker" else
  if dflt v3 (isMb v1) = false then Str.ofString "default" else if isAb v4 = false then Str.ofString "about" else Str.ofString ""
/-- NoPlace, as the written part tells it -/
structure ErrT (K : PySem.W.Frag) (mg : Str → Option Value) (x : Str) (C fI : Addr) (fd : FuncData) : Prop where
  o : OexC K C
  i : PySem.W.findIn K (.ref C) "__init__" = some (some (.ref fI))
  t : PySem.W.typeIn K (.ref fI) = some (.type "function")
  nf : PySem.W.findIn K (.ref C) "field" = some none
  g : mg x = some (.ref C)
  b : Binds K fd ["self", "field"] []
section
variable {P : Program} {w : World} {K : PySem.W.Frag} {mg : Str → Option Value} {base : Heap}
def spErr (C : Addr) : Sp := fun vs H Q _ => ∃ (a : Addr) (y : V), vs = [.ref a, y] ∧ H a = some (exo a C none) ∧ ∀ dx, H dx = none → dx ≠ a → Q .non (upd (upd H dx (exd dx [(("field" : Str), y)])) a (exo a C (some dx)))
theorem ok_err {C f : Addr} {fd : FuncData} {x q : Str} {k : Nat} (F : Fun K "__init__" q st_err f fd) (T : ErrT K mg x C f fd) : FnOk P w K mg base CX0 (k + 1) f fd ["self", "field"] (spErr C) := by
  refine F.ok sc_err (fun vs H Q E h => ?_) (fun cdv A outer s H vs Q E hr h => ?_)
  · obtain ⟨a, y, rfl, _⟩ := h
    rfl
  · obtain ⟨a, y, rfl, ea, q⟩ := h
    refine ⟨_, pss_one (ps_ost (pv 0) (pv 1)), ?_⟩
    exact ⟨y, rfl, .ref a, rfl, a, C, rfl, T.o, T.nf, .inl ⟨ea, fun dx n ne => q dx n ne⟩⟩
/-- the way out by a raised error -/
theorem err_out {C : Addr} {y : V} {H : Hp} {E : XK} {x : Addr} (h : ∀ H' d, Same H H' → H d = none → H' d = some (.xd [(("field" : Str), y)]) → E (.ref C) (some d) H') (a : Addr) (na : H a = none) :
    spErr C [.ref a, y] (upd H a (exo a C none)) (fun v H2 => v = .non ∧ ∃ (d : Addr) (fs : List (Str × V)), H2 a = some (exo a C (some d)) ∧ H2 d = some (exd d fs) ∧ H d = none ∧ E (.ref C) (some d) (upd (del H2 a) d (.xd fs))) (fun _ _ _ => False) := by
  refine ⟨a, y, rfl, upd_same, fun dx ndx ne => ⟨rfl, dx, [(("field" : Str), y)], upd_same, ?_, ?_, ?_⟩⟩
  · rw [upd_ne ne, upd_same]
  · rw [upd_ne ne] at ndx
    exact ndx
  · rw [upd_ne ne] at ndx
    refine h _ dx (fun b o e => ?_) ndx upd_same
    have nb : b ≠ dx := ne_of_none e ndx
    have nba : b ≠ a := ne_of_none e na
    rw [upd_ne nb, del_ne nba, upd_ne nba, upd_ne nb, upd_ne nba]
    exact e
/-! ### Place.__init__ -/
/-- Place, as the written part tells it -/
structure ClsT (K : PySem.W.Frag) (C : Addr) : Prop where
  cl : Cls K C
  nh : NoAttr K C "held"
def spInit (C CN : Addr) : Sp := fun vs H Q E => ∃ (x dx : Addr) (v0 v1 v2 v3 v4 : V), vs = [.ref x, v0, v1, v2, v3, v4] ∧ H x = some (.ins C dx []) ∧ (Thg H v0 ∧ Thg H v1 ∧ Thg H v2 ∧ Thg H v3 ∧ Thg H v4) ∧
  (wrongF v0 v1 v2 v3 v4 = Str.ofString "" → ∀ H' t, But x H H' → H' x = some (.ins C dx [(("held" : Str), .ref t)]) → H' t = some (.tup [v0, v1, v2, v3, v4]) → Q .non H') ∧
  (wrongF v0 v1 v2 v3 v4 ≠ Str.ofString "" → ∀ H' d, Same H H' → H d = none → H' d = some (.xd [(("field" : Str), .str (wrongF v0 v1 v2 v3 v4))]) → E (.ref CN) (some d) H')
theorem lit_ne {s : String} (h : (Str.ofString s).length ≠ 0) : Str.ofString s ≠ Str.ofString "" := fun e => h (by rw [e]; decide +kernel)
theorem ok_init {C CN f fE fW fA fB fM fD : Addr} {fd fdE fdW fdA fdB fdM fdD : FuncData} {u1 u2 u3 u4 : Tok} {aM : Addr} {k : Nat} (F : FunD K "__init__" "Place.__init__" (defArgs st_init) (defBody st_init) (defScope st_init) [.str (Str.ofString "one"), .str (Str.ofString "word"), .non, .str (Str.ofString "")] [] f fd)
    (FE : Fun K "__init__" "NoPlace.__init__" st_err fE fdE) (TE : ErrT K mg "NoPlace" CN fE fdE) (T : ClsT K C)
    (D_is_text_within : Df K mg "is_text_within" st_is_text_within ["value", "most"] fW fdW) (D_is_name : Df K mg "is_name" st_is_name ["value"] fA fdA) (D_is_about : Df K mg "is_about" st_is_about ["value"] fB fdB)
    (D_is_among : Df K mg "is_among" st_is_among ["value", "texts"] fM fdM) (D_is_default : Df K mg "is_default" st_is_default ["value", "allowed"] fD fdD)
    (m_len : mg "len" = none) (m_str : mg "str" = none) (m_isinstance : mg "isinstance" = none) (m_all : mg "all" = none) (c_MOST_NAME_SIGNS : mg "MOST_NAME_SIGNS" = some (.int 10 u1)) (c_NAME_SIGNS : mg "NAME_SIGNS" = some (.str nameSet u2))
    (c_MOST_ABOUT_SIGNS : mg "MOST_ABOUT_SIGNS" = some (.int 200 u3)) (c_MOST_DEFAULT_SIGNS : mg "MOST_DEFAULT_SIGNS" = some (.int 60 u4)) (c_MANIES : mg "MANIES" = some (.ref aM)) (hM : ∀ H, SqT K H aM (manies.map V.str)) :
    FnOk P w K mg base (L2.CX P w) (k + 3) f fd ["self", "name", "many", "maker", "default", "about"] (spInit C CN) := by
  have GE : FnOk P w K mg base CX0 (k + 1) fE fdE ["self", "field"] (spErr CN) := ok_err FE TE
  have G_is_name : FnOk P w K mg base CX0 (k + 2) fA fdA ["value"] (spOf isNm) := ok_isName D_is_name.F D_is_text_within m_len m_str m_isinstance m_all c_MOST_NAME_SIGNS c_NAME_SIGNS
  have G_is_about : FnOk P w K mg base CX0 (k + 2) fB fdB ["value"] (spOf isAb) := ok_isAbout D_is_about.F D_is_text_within m_len m_str m_isinstance c_MOST_ABOUT_SIGNS
  have G_is_among : FnOk P w K mg base CX0 (k + 2) fM fdM ["value", "texts"] (spAmong K) := ok_isAmong D_is_among.F m_str m_isinstance
  have G_is_default : FnOk P w K mg base CX0 (k + 2) fD fdD ["value", "allowed"] spDefault := ok_isDefault D_is_default.F D_is_text_within m_len m_str m_isinstance c_MOST_DEFAULT_SIGNS
  refine F.ok sc_init (fun vs H Q E h => ?_) (fun cdv A outer s H vs Q E hr h => ?_)
  · obtain ⟨x, dx, v0, v1, v2, v3, v4, rfl, _⟩ := h
    rfl
  · obtain ⟨x, dx, v0, v1, v2, v3, v4, rfl, ex, ⟨t0, t1, t2, t3, t4⟩, qok, qbad⟩ := h
    refine ⟨_, pss_cons (ps_if (pt_not (pt_val (pe_call G_is_name hr (by rfl) D_is_name.g D_is_name.F.kp D_is_name.b .nil pass0 (pa_cons (pv 1) pa_nil)))) (pss_one (ps_raise rfl (takes_of rfl rfl rfl rfl) (pmk_oex TE.o TE.i TE.t GE hr TE.b .nil pass0 (by rfl) TE.g (pa_cons pe_str pa_nil)))) pss_nil)
      (pss_cons (ps_if (pt_not (pt_val (pe_call G_is_among hr (by rfl) D_is_among.g D_is_among.F.kp D_is_among.b .nil pass0 (pa_cons (pv 2) (pa_cons (pe_glob (v := .ref aM) rfl c_MANIES rfl) pa_nil))))) (pss_one (ps_raise rfl (takes_of rfl rfl rfl rfl) (pmk_oex TE.o TE.i TE.t GE hr TE.b .nil pass0 (by rfl) TE.g (pa_cons pe_str pa_nil)))) pss_nil)
      (pss_cons (ps_if (pt_not (pt_val (pe_call G_is_name hr (by rfl) D_is_name.g D_is_name.F.kp D_is_name.b .nil pass0 (pa_cons (pv 3) pa_nil)))) (pss_one (ps_raise rfl (takes_of rfl rfl rfl rfl) (pmk_oex TE.o TE.i TE.t GE hr TE.b .nil pass0 (by rfl) TE.g (pa_cons pe_str pa_nil)))) pss_nil)
      (pss_cons (ps_if (pt_not (pt_val (pe_call G_is_default hr (by rfl) D_is_default.g D_is_default.F.kp D_is_default.b .nil pass0 (pa_cons (pv 4) (pa_cons (pe_cmpR op_eq (pv 2) pe_str (nomark _)) pa_nil))))) (pss_one (ps_raise rfl (takes_of rfl rfl rfl rfl) (pmk_oex TE.o TE.i TE.t GE hr TE.b .nil pass0 (by rfl) TE.g (pa_cons pe_str pa_nil)))) pss_nil)
      (pss_cons (ps_if (pt_not (pt_val (pe_call G_is_about hr (by rfl) D_is_about.g D_is_about.F.kp D_is_about.b .nil pass0 (pa_cons (pv 5) pa_nil)))) (pss_one (ps_raise rfl (takes_of rfl rfl rfl rfl) (pmk_oex TE.o TE.i TE.t GE hr TE.b .nil pass0 (by rfl) TE.g (pa_cons pe_str pa_nil)))) pss_nil)
      (pss_one (ps_fld (pv 0) (pe_tup (pa_cons (pv 1) (pa_cons (pv 2) (pa_cons (pv 3) (pa_cons (pv 4) (pa_cons (pv 5) pa_nil)))))) rfl)))))), ?_⟩
    refine ⟨v0, rfl, v0, rfl, t0, fun H1 s1 => ⟨_, rfl, ?_⟩⟩
    cases b0 : isNm v0 with
    | false =>
      have e : wrongF v0 v1 v2 v3 v4 = Str.ofString "name" := by unfold wrongF; rw [if_pos b0]
      rw [e] at qbad
      refine ⟨by show 1 ≤ 1000; decide, fun a na => err_out (x := x) (fun H' d sm nd ed => qbad (lit_ne (by decide +kernel)) H' d (s1.trans sm) (s1.free nd) ed) a na⟩
    | true =>
      refine ⟨v1, rfl, v1, aM, manies, rfl, t1.same s1, hM _, _, rfl, ?_⟩
      cases b1 : among v1 manies with
      | false =>
        have e : wrongF v0 v1 v2 v3 v4 = Str.ofString "many" := by unfold wrongF; rw [if_neg (by rw [b0]; decide), if_pos b1]
        rw [e] at qbad
        refine ⟨by show 1 ≤ 1000; decide, fun a na => err_out (x := x) (fun H' d sm nd ed => qbad (lit_ne (by decide +kernel)) H' d (s1.trans sm) (s1.free nd) ed) a na⟩
      | true =>
        refine ⟨v2, rfl, v2, rfl, t2.same s1, fun H2 s2 => ⟨_, rfl, ?_⟩⟩
        have s12 := s1.trans s2
        cases b2 : isNm v2 with
        | false =>
          have e : wrongF v0 v1 v2 v3 v4 = Str.ofString "maker" := by unfold wrongF; rw [if_neg (by rw [b0]; decide), if_neg (by rw [b1]; decide), if_pos b2]
          rw [e] at qbad
          refine ⟨by show 1 ≤ 1000; decide, fun a na => err_out (x := x) (fun H' d sm nd ed => qbad (lit_ne (by decide +kernel)) H' d (s12.trans sm) (s12.free nd) ed) a na⟩
        | true =>
          cases v1 with
          | str z1 =>
            refine ⟨v3, rfl, .str z1, rfl, rfl, v3, _, rfl, t3.same s12, _, rfl, ?_⟩
            have em : decide (V.str z1 = V.str (Str.ofString "maybe")) = isMb (.str z1) := rfl
            rw [em]
            cases b3 : dflt v3 (isMb (.str z1)) with
            | false =>
              have e : wrongF v0 (.str z1) v2 v3 v4 = Str.ofString "default" := by unfold wrongF; rw [if_neg (by rw [b0]; decide), if_neg (by rw [b1]; decide), if_neg (by rw [b2]; decide), if_pos b3]
              rw [e] at qbad
              refine ⟨by show 1 ≤ 1000; decide, fun a na => err_out (x := x) (fun H' d sm nd ed => qbad (lit_ne (by decide +kernel)) H' d (s12.trans sm) (s12.free nd) ed) a na⟩
            | true =>
              refine ⟨v4, rfl, v4, rfl, t4.same s12, fun H4 s4 => ⟨_, rfl, ?_⟩⟩
              have s14 := s12.trans s4
              cases b4 : isAb v4 with
              | false =>
                have e : wrongF v0 (.str z1) v2 v3 v4 = Str.ofString "about" := by unfold wrongF; rw [if_neg (by rw [b0]; decide), if_neg (by rw [b1]; decide), if_neg (by rw [b2]; decide), if_neg (by rw [b3]; decide), if_pos b4]
                rw [e] at qbad
                refine ⟨by show 1 ≤ 1000; decide, fun a na => err_out (x := x) (fun H' d sm nd ed => qbad (lit_ne (by decide +kernel)) H' d (s14.trans sm) (s14.free nd) ed) a na⟩
              | true =>
                have e : wrongF v0 (.str z1) v2 v3 v4 = Str.ofString "" := by unfold wrongF; rw [if_neg (by rw [b0]; decide), if_neg (by rw [b1]; decide), if_neg (by rw [b2]; decide), if_neg (by rw [b3]; decide), if_neg (by rw [b4]; decide)]
                have ex4 := s14 _ _ ex
                refine ⟨_, rfl, _, rfl, _, rfl, _, rfl, _, rfl, by show 5 ≤ sizeLine; decide, fun t nt => ?_⟩
                have nxt : x ≠ t := ne_of_none ex4 nt
                refine ⟨.ref x, rfl, x, C, dx, [], rfl, ?_, T.cl, T.nh, by decide, ?_⟩
                · rw [upd_ne nxt]
                  exact ex4
                · refine qok e _ t (fun b o nb eb => ?_) upd_same ?_
                  · rw [upd_ne nb]
                    exact same_upd nt _ _ (s14 _ _ eb)
                  · rw [upd_ne nxt.symm, upd_same]
          | _ => cases b1
/-! ### the methods -/
end
end WP

set_option Elab.async false
set_option linter.all false
set_option maxRecDepth 100000
set_option maxHeartbeats 4000000
namespace WB
open PySem PySem.Spec PyProof.Rows L2 WG
open TL (tl)
/-! ### signs and names as they have to be -/
theorem cut1 (z : Str) : tl (cutS z (some 1) none) = (tl z).drop 1 := by
  show ((z.cps.toList.drop (HT.sIx z.length 0 (some 1))).take (HT.sIx z.length z.length none - HT.sIx z.length 0 (some 1))) = _
  rw [HT.sIx_none, show HT.sIx z.length 0 (some 1) = min 1 z.length from HT.sIx_nat z.length 0 1]
  have hl : z.length = z.cps.toList.length := TL.len_tl z
  show (z.cps.toList.drop (min 1 z.length)).take (z.length - min 1 z.length) = z.cps.toList.drop 1
  by_cases h : 1 ≤ z.length
  · rw [Nat.min_eq_left h, List.take_of_length_le (by rw [List.length_drop]; omega)]
  · rw [Nat.min_eq_right (by omega), List.drop_of_length_le (by omega), List.drop_of_length_le (by omega), List.take_nil]
theorem nameSigns_in : ∀ y ∈ nameSigns, ∀ c ∈ tl y, c ∈ tl nameSet := by decide +kernel
/-- the first i of n signs of a name -/
structure Lq (n i : Nat) (cs : List Nat) : Prop where
  len : cs.length = i
  al : ∀ c ∈ cs, c ∈ tl nameSet
  hd : cs.take 1 ≠ [45]
  la : i = n → 0 < n → cs.getLast? ≠ some 45
theorem Lq.nil {n : Nat} : Lq n 0 (tl (Str.ofString "")) := by
  have e : tl (Str.ofString "") = [] := by decide +kernel
  rw [e]
  exact ⟨rfl, (fun c hc => by cases hc), by decide, fun h1 h2 => by omega⟩
theorem Lq.snoc {n i : Nat} {cs : List Nat} (h : Lq n i cs) {c : Nat} (hc : c ∈ tl nameSet) (hd : i = 0 ∨ i + 1 = n → c ≠ 45) : Lq n (i + 1) (cs ++ [c]) := by
  refine ⟨by rw [List.length_append, h.len]; rfl, fun d hd' => ?_, ?_, fun h1 _ => ?_⟩
  · rcases List.mem_append.mp hd' with z | z
    · exact h.al d z
    · rw [List.mem_singleton.mp z]
      exact hc
  · cases cs with
    | nil =>
      have e : i = 0 := h.len.symm
      intro z
      exact hd (.inl e) (List.cons.inj z).1
    | cons a r => exact h.hd
  · rw [List.getLast?_concat]
    intro z
    exact hd (.inr h1) (Option.some.inj z)
theorem Lq.fin {n : Nat} {cs : List Nat} (h : Lq n n cs) (h0 : 0 < n) (h1 : n ≤ 10) (t : cs.take 3 ≠ [110, 111, 45]) : nm cs = true := by
  unfold nm
  have e1 : cs ≠ [] := fun e => by
    have := h.len
    rw [e] at this
    exact absurd this (by simp; omega)
  have e2 : cs.length ≤ 10 := by rw [h.len]; exact h1
  rw [decide_eq_true e1, decide_eq_true e2, decide_eq_false h.hd, decide_eq_false (h.la rfl h0), decide_eq_false t, List.all_eq_true.mpr (fun c hc => decide_eq_true (h.al c hc))]
  rfl
theorem Lq.no {n : Nat} {cs : List Nat} (h : Lq n n cs) (h0 : 0 < n) (h1 : n ≤ 10) (t : cs.take 3 = [110, 111, 45]) : nm ([109] ++ cs.drop 1) = true := by
  have m : 109 ∈ tl nameSet := by decide +kernel
  have hl := h.len
  have la := h.la rfl h0
  match cs, h, hl, la, t with
  | [], _, _, _, t => cases t
  | [a], _, _, _, t => cases t
  | a :: b :: r, h, hl, la, t =>
    refine Lq.fin (n := n) ⟨hl, fun d hd' => ?_, by show [109] ≠ [45]; decide, fun _ _ z => la ?_⟩ h0 h1 (fun z => by cases z)
    · rcases List.mem_cons.mp hd' with z | z
      · rw [z]
        exact m
      · exact h.al d (List.mem_cons_of_mem _ z)
    · have e1 : ([109] ++ (a :: b :: r).drop 1).getLast? = (b :: r).getLast? := by
        show (109 :: b :: r).getLast? = _
        rw [List.getLast?_cons_cons]
      rw [List.getLast?_cons_cons, ← e1]
      exact z
section
variable {P : Program} {w : World} {K : PySem.W.Frag} {mg : Str → Option Value} {base : Heap}
def spNm : Sp := fun vs H Q _ => ∃ p : Addr, vs = [.ref p] ∧ Pot H p ∧ ∀ H' (y : Str), But p H H' → Pot H' p → nm (tl y) = true → Q (.str y) H'
theorem ok_nm {f fT : Addr} {fd fdT : FuncData} {k : Nat} (F : Fun K "_law_name" "_law_name" sName f fd) (T : Df K mg "_law_take" sTake ["_law_pot_here", "_law_room"] fT fdT) (mL : mg "len" = none) (mR : mg "range" = none) :
    FnOk P w K mg base CX0 (k + 2) f fd ["_law_pot_here"] spNm := by
  have GT : FnOk P w K mg base CX0 (k + 1) fT fdT ["_law_pot_here", "_law_room"] spTake := ok_take T.F
  refine F.ok scName (fun vs H Q E h => ?_) (fun cdv A outer s H vs Q E hr h => ?_)
  · obtain ⟨p, rfl, _⟩ := h
    rfl
  · obtain ⟨p, rfl, hp, q⟩ := h
    refine ⟨_, pss_cons (ps_set (i := 1) scName.nd rfl (.inl rfl) (pe_ix ix_list (pe_lst (pa_cons pe_str (pa_cons pe_str (pa_cons pe_str pa_nil)))) (pe_call GT hr (by rfl) T.g T.F.kp T.b .nil pass0 (pa_cons (pv 0) (pa_cons pe_int pa_nil))) (fun _ _ => rfl)))
      (pss_cons (ps_set (i := 2) scName.nd rfl (.inl rfl) (pe_op op_add pe_int (pe_call GT hr (by rfl) T.g T.F.kp T.b .nil pass0 (pa_cons (pv 0) (pa_cons (pe_ix ix_list (pe_lst (pa_cons pe_int (pa_cons pe_int pa_nil)))
        (pe_call GT hr (by rfl) T.g T.F.kp T.b .nil pass0 (pa_cons (pv 0) (pa_cons pe_int pa_nil))) (fun _ _ => rfl)) pa_nil)))))
      (pss_cons (ps_set (i := 3) scName.nd rfl (.inl rfl) pe_str)
      (pss_cons (ps_for PassesOwn.never rfl (pi_range1 rfl mR (pa_cons (pv 2) pa_nil)) (pg_name (i := 4) scName.nd rfl (Or.inl rfl))
        (pss_cons (ps_set (i := 5) scName.nd rfl (.inl rfl) (pe_ix ix_str (pv 1) (pe_call GT hr (by rfl) T.g T.F.kp T.b .nil pass0 (pa_cons (pv 0) (pa_cons (pe_callB call_len_str (by rfl) mL PySem.boot_len (pa_cons (pv 1) pa_nil)) pa_nil))) (fun _ _ => rfl)))
        (pss_cons (ps_if (PW.pt (pw_and (pt_cmpR op_eq (pv 5) pe_str (nomark _)) (pw_and1 (pt_cmpR op_in_seq (pv 4) (pe_tup (pa_cons pe_int (pa_cons (pe_op op_sub (pv 2) pe_int) pa_nil))) (by rfl)))))
          (pss_one (ps_set (i := 5) scName.nd rfl (.inl rfl) pe_str)) pss_nil)
        (pss_one (ps_set (i := 3) scName.nd rfl (.inl rfl) (pe_op op_add_str (pv 3) (pv 5)))))))
      (pss_cons (ps_if (pt_cmpR op_eq (pe_slice sl_str (pv 3) po_none (po_some pe_int)) pe_str (nomark _))
        (pss_one (ps_set (i := 3) scName.nd rfl (.inl rfl) (pe_op op_add_str pe_str (pe_slice sl_str (pv 3) (po_some pe_int) po_none)))) pss_nil)
      (pss_one (ps_ret (pv 3))))))), ?_⟩
    refine ⟨by decide +kernel, fun l1 n1 => ?_⟩
    have p1 := hp.new (o := .lst (nameSigns.map V.str)) n1
    have nl1 := hp.ne n1
    refine ⟨.ref p, rfl, p, 3, rfl, p1, by decide, by decide, fun H2 d2 b2 p2 d20 d21 => ?_⟩
    obtain ⟨z, hzm, hze⟩ := at_strs nameSigns d2 d20 (by show d2 < 3; exact d21)
    obtain ⟨hz0, hz1, hz2⟩ := nameSigns_len z hzm
    refine ⟨l1, _, d2, .str z, rfl, rfl, SqL.of (b2 _ _ nl1.symm upd_same), hze, .ref p, rfl, by decide +kernel, fun l2 n2 => ?_⟩
    have p3 := p2.new (o := .lst ([(3 : Int), 10].map V.int)) n2
    have nl2 := p2.ne n2
    refine ⟨.ref p, rfl, p, 2, rfl, p3, by decide, by decide, fun H4 d4 b4 p4 d40 d41 => ?_⟩
    obtain ⟨mo, mom, moe⟩ := at_ints [(3 : Int), 10] d4 d40 (by show d4 < 2; exact d41)
    have hmo : 0 < mo ∧ mo ≤ 10 := (by decide : ∀ y ∈ [(3 : Int), 10], 0 < y ∧ y ≤ 10) mo mom
    refine ⟨l2, _, d4, .int mo, rfl, rfl, SqL.of (b4 _ _ nl2.symm upd_same), moe, p, mo, rfl, p4, hmo.1, by omega, fun H5 d5 b5 p5 d50 d51 => ?_⟩
    refine ⟨1, d5, rfl, rfl, ?_⟩
    have bb : But p H H5 := ((((But.new n1).trans b2).trans (But.new n2)).trans b4).trans b5
    have hzn := nameSigns_in z hzm
    have e101 : (101 : Nat) ∈ tl nameSet := by decide +kernel
    refine ⟨.int (1 + d5), rfl, _, rfl, by omega, by omega, for_range (lo := 0) (n := (1 + d5).toNat) (fun i σ H' => But p H5 H' ∧ Pot H' p ∧ ∃ (x : Str) (x4 x5 : Option V), σ = [some (.ref p), some (.str z), some (.int (1 + d5)), some (.str x), x4, x5] ∧ Lq (1 + d5).toNat i (tl x))
      ⟨But.refl _ _, p5, Str.ofString "", none, none, rfl, Lq.nil⟩ ?_ ?_⟩
    · rintro i σ H6 hi ⟨b6, p6, x, x4, x5, rfl, hx⟩
      have hzl : z.length ≤ sizeLine := Nat.le_trans hz1 (by decide)
      refine ⟨.str z, rfl, .ref p, rfl, .str z, rfl, z, rfl, hzl, p, z.length, rfl, p6, by omega, by omega, fun H7 j b7 p7 j0 j1 => ?_⟩
      obtain ⟨n, rfl⟩ := Int.eq_ofNat_of_zero_le j0
      have hn : n < z.cps.toList.length := by
        have e : z.cps.toList.length = z.length := by simp [Str.length]
        omega
      have cm : z.cps.toList[n] ∈ tl nameSet := hzn _ (List.getElem_mem hn)
      have lx : x.length = i := by
        rw [TL.len_tl]
        exact hx.len
      refine ⟨z, n, z.cps.toList[n], rfl, rfl, hzl, atI_nat (List.getElem?_eq_getElem hn), ?_⟩
      have fin : ∀ (H8 : Hp) (c : Nat), But p H7 H8 → Pot H8 p → c ∈ tl nameSet → (i = 0 ∨ i + 1 = (1 + d5).toNat → c ≠ 45) → (tAsg (tOp (fun x y H Q => ∃ i j, x = .str i ∧ y = .str j ∧ i.length + j.length ≤ sizeLine ∧ Q (.str (i ++ j)) H) (tVar 3) (tVar 5)) (gName 3)) { nx := fun σ H' => But p H5 H' ∧ Pot H' p ∧ ∃ (x : Str) (x4 x5 : Option V), σ = [some (.ref p), some (.str z), some (.int (1 + d5)), some (.str x), x4, x5] ∧ Lq (1 + d5).toNat (i + 1) (tl x), rt := Q }
          [some (.ref p), some (.str z), some (.int (1 + d5)), some (.str x), some (.int (0 + (i : Int))), some (.str ⟨#[c]⟩)] H8 := by
        intro H8 c b8 p8 hc hd
        refine ⟨_, rfl, _, rfl, x, ⟨#[c]⟩, rfl, rfl, ?_, (b6.trans b7).trans b8, p8, x ++ ⟨#[c]⟩, _, _, rfl, ?_⟩
        · show x.length + 1 ≤ _
          exact Nat.le_of_lt (small1000 (by omega))
        · rw [TL.tl_append]
          exact hx.snoc hc hd
      refine ⟨_, rfl, rfl, _, rfl, ite2 (fun e => ?_) (fun e => ?_)⟩
      · refine ⟨_, rfl, .int (1 + d5), rfl, _, _, rfl, rfl, by show 2 ≤ sizeLine; decide, fun t nt => ?_⟩
        refine ⟨t, _, rfl, .inr (SqT.of upd_same), rfl, rfl, _, rfl, ite2 (fun e2 => ?_) (fun e2 => ?_)⟩
        · exact fin _ 101 (But.new nt) (p7.new nt) e101 (fun _ => by decide)
        · refine fin _ _ (But.new nt) (p7.new nt) cm (fun hi' => ?_)
          exfalso
          refine e2 ?_
          show (eqV (.int 0) (.int (0 + (i : Int))) || (eqV (.int (1 + d5 - 1)) (.int (0 + (i : Int))) || false)) = true
          rcases hi' with z0 | z1
          · rw [z0]
            rfl
          · have e5 : (1 + d5 - 1 : Int) = 0 + (i : Int) := by omega
            rw [e5]
            show (_ || (((0 + (i : Int)) == (0 + (i : Int))) || false)) = true
            rw [beq_self_eq_true, Bool.true_or, Bool.or_true]
      · refine fin _ _ (But.refl _ _) p7 cm (fun _ z45 => e ?_)
        rw [z45]
        decide +kernel
    · rintro σ H6 ⟨b6, p6, x, x4, x5, rfl, hx⟩
      have lx : x.length = (1 + d5).toNat := by
        rw [TL.len_tl]
        exact hx.len
      have hxl : x.length ≤ 10 := by omega
      refine ⟨_, rfl, 3, rfl, x, rfl, Nat.le_trans hxl (by decide), rfl, _, rfl, ite2 (fun e => ?_) (fun e => ?_)⟩
      · have e3 : (tl x).take 3 = [110, 111, 45] := by
          rw [dec_lit _ "no-" (l := [110, 111, 45]) (by decide +kernel)] at e
          rw [← cut3 x]
          exact of_decide_eq_true e
        refine ⟨_, rfl, 1, rfl, x, rfl, Nat.le_trans hxl (by decide), _, _, rfl, rfl, ?_, _, rfl, q _ _ (bb.trans b6) p6 ?_⟩
        · have := cutS_length x (some 1) none
          exact Nat.le_of_lt (small1000 (by rw [show (Str.ofString "m").length = 1 from by decide +kernel]; omega))
        · rw [TL.tl_append, show tl (Str.ofString "m") = [109] from by decide +kernel, cut1 x]
          exact hx.no (by omega) (by omega) e3
      · refine ⟨_, rfl, q _ _ (bb.trans b6) p6 (hx.fin (by omega) (by omega) fun w => e ?_)⟩
        rw [dec_lit _ "no-" (l := [110, 111, 45]) (by decide +kernel)]
        refine decide_eq_true ?_
        rw [cut3 x]
        exact w
end
end WB

set_option Elab.async false
set_option linter.all false
set_option maxRecDepth 100000
set_option maxHeartbeats 4000000
namespace WB
open PySem PySem.Spec PyProof.Rows L2 WG
open TL (tl)
/-! ### == where one side is an instance with an own == -/
/-- a value, and its class as it stands in the heap -/
inductive OV (H : Hp) : V → Value → Prop
  | non : OV H .non (.type "NoneType")
  | bl (b : Bool) : OV H (.bl b) (.type "bool")
  | int (i : Int) : OV H (.int i) (.type "int")
  | str (z : Str) : OV H (.str z) (.type "str")
  | lst {a : Addr} {xs : List V} (e : H a = some (.lst xs)) : OV H (.ref a) (.type "list")
  | tup {a : Addr} {xs : List V} (e : H a = some (.tup xs)) : OV H (.ref a) (.type "tuple")
  | ins {a C dx : Addr} {fs : List (Str × V)} (e : H a = some (.ins C dx fs)) : OV H (.ref a) (.ref C)
section
variable {X : Cx} {pins : List (Addr × Obj)} {σ : L2.St} {H : Hp} {s : Shared} {A : Around} {n : Nat}
theorem look_obj {M : Model} {h : Heap} {a : Addr} {o : Obj} {c : Value} (e : h.get? a = some o) (k : o.cls = c) : PySem.W.Looks M h (typeOf (.ref a)) c := by
  subst k
  exact (PySem.W.Looks.ld e).andThen .now
theorem OV.looks {y : V} {v t : Value} (I : Inv X pins σ H s) (r : RelV y v) (o : OV H y t) : PySem.W.Looks (model X.prog X.w) s.heap (typeOf v) t := by
  cases o with
  | non => cases r; exact PySem.W.Looks.of_pure rfl
  | bl b => cases r; exact PySem.W.Looks.of_pure rfl
  | int i => obtain ⟨_, rfl⟩ := r; exact PySem.W.Looks.of_pure rfl
  | str z => obtain ⟨_, rfl⟩ := r; exact PySem.W.Looks.of_pure rfl
  | lst e =>
    cases r
    obtain ⟨its, _, pl, _⟩ := I.list (SqL.of e)
    obtain ⟨o, h1, h2⟩ := pl.isList.typeIs
    exact look_obj h1 h2
  | tup e =>
    cases r
    obtain ⟨its, _, pl, _⟩ := I.tuple (SqT.of e)
    obtain ⟨o, h1, h2⟩ := pl.typeIs
    exact look_obj h1 h2
  | ins e =>
    cases r
    obtain ⟨m, J, _⟩ := ins_get I.hok e
    obtain ⟨_, J, _⟩ := J.look
    exact J.type
/-- the own def is called -/
theorem run_own {f : Addr} {fd : FuncData} {ps : List Str} {sp : Sp} {xs : List V} {us : List Value} {b : V} (F : FnOk X.prog X.w X.K X.mg X.base CX0 n f fd ps sp) (hb : Binds X.K fd ps []) (sb : Sub X n A) (I : Inv X pins σ H s) (r : Vals xs us) (h : sp xs H (fun v H' => v = b ∧ H' = H) E0) :
    wpAny (model X.prog X.w) A (call (.ref f) us) (fun w s' => RelV b w ∧ Inv X pins σ H s') X.xe s := by
  have e0 : Env0 X.prog X.w X.K X.mg X.base A X.stack s H := by
    have e := I.env0
    exact ⟨by rw [sb.fr]; exact e.frames, e.mod, e.bs, e.bsz, e.funs, e.frf, e.hok, e.bare⟩
  have hl := F.len _ _ _ _ h
  have bb := hb s us I.kIn (by rw [List.append_nil, ← r.length]; exact hl)
  rw [List.append_nil] at bb
  refine wpAny_call (codeAny_mono (F.run A X.stack s H ⟨us, []⟩ us xs _ E0 sb.room e0 bb r h) fun q s' got => ?_)
  cases q with
  | error e => exact got.elim
  | ok fl =>
    cases fl with
    | ret w =>
      obtain ⟨z, H', I', rz, ez, eh⟩ := I.after got
      subst ez eh
      exact ⟨rz, I'⟩
    | next => exact got.elim
    | brk => exact got.elim
    | cont => exact got.elim
/-- what is known of an own == -/
structure OwnE (X : Cx) (n : Nat) (C f : Addr) (fd : FuncData) (sp : Sp) : Prop where
  F : FnOk X.prog X.w X.K X.mg X.base CX0 n f fd ["self", "other"] sp
  hb : Binds X.K fd ["self", "other"] []
  hs : PySem.W.findIn X.K (.ref C) "__eq__" = some (some (.ref f))
  hf : PySem.W.isFn X.K (.ref f) = true
theorem rc_left {C f a dx : Addr} {fd : FuncData} {sp : Sp} {fs : List (Str × V)} {y : V} {t v : Value} {b : Bool} (O : OwnE X n C f fd sp) (ha : H a = some (.ins C dx fs)) (ov : OV H y t) (nf : PySem.W.notFirst X.K C t = true) (h : sp [.ref a, y] H (fun v H' => v = .bl b ∧ H' = H) E0)
    (sb : Sub X n A) (I : Inv X pins σ H s) (ry : RelV y v) : wpAny (model X.prog X.w) A (richCompare .Eq (.ref a) v) (fun r s' => r = .bool b ∧ Inv X pins σ H s') X.xe s := by
  obtain ⟨mA, J, _⟩ := ins_get I.hok ha
  obtain ⟨od, J, _⟩ := J.look
  obtain ⟨m, hF⟩ := I.fr
  refine PySem.W.cmp_K (op := .Eq) (tb := t) sb.room.units0 hF I.ok.mod.kin J (ov.looks I ry) nf O.hs O.hf ?_
  refine wpAny_mono (run_own O.F O.hb sb I (show Vals [V.ref a, y] [Value.ref a, v] from .cons rfl (.cons ry .nil)) h) (fun r s' ⟨z1, z2⟩ => ?_) fun _ _ e => e
  cases z1
  exact ⟨rfl, z2⟩
/-! ### what a built-in says of an instance -/
theorem isi_own {M : Model} {E : Value → Shared → Prop} {K : PySem.W.Frag} {C b : Addr} {ob : Obj} {T : String} {Q : Bool → Shared → Prop} (kin : K.In s.heap) (sub : PySem.W.subIn K (.ref C) (.type T) = some false) (hb : s.heap.get? b = some ob) (hc : ob.cls = .ref C) (q : Q false s) : wpAny M A (isInstance (.ref b) (.type T)) Q E s := by
  unfold isInstance
  exact wpAny_bind ((look_obj hb hc).here ((PySem.W.looks_subIn kin sub).here q))
end
section
variable {prog : Program} {w : World} {A : Around} {E : Value → Shared → Prop} {s : Shared} {K : PySem.W.Frag} {C b : Addr} {ob : Obj} {Q : Value → Shared → Prop}
theorem list_no {l : Addr} {o : Obj} (kin : K.In s.heap) (sub : PySem.W.subIn K (.ref C) (.type "list") = some false) (hl : s.heap.get? l = some o) (hlc : o.cls = .type "list") (hb : s.heap.get? b = some ob) (hc : ob.cls = .ref C) (q : Q .notImplemented s) :
    wpAny (model prog w) A (call (.builtin "list.__eq__") [.ref l, .ref b]) Q E s := by
  refine GQ.call_here F.slot_list_eq ⟨_, hl, hlc⟩ F.entry_list_eq (F.args_list_eq_2 _ _) ?_
  show wpAny _ _ (isInstance (.ref b) (.type "list") >>= _) _ _ _
  refine wpAny_bind (isi_own kin sub hb hc ?_)
  exact wpAny_pure q
theorem tuple_no {l : Addr} {o : Obj} (kin : K.In s.heap) (sub : PySem.W.subIn K (.ref C) (.type "tuple") = some false) (hl : s.heap.get? l = some o) (hlc : o.cls = .type "tuple") (hb : s.heap.get? b = some ob) (hc : ob.cls = .ref C) (q : Q .notImplemented s) :
    wpAny (model prog w) A (call (.builtin "tuple.__eq__") [.ref l, .ref b]) Q E s := by
  refine GQ.call_here F.slot_tuple_eq ⟨_, hl, hlc⟩ F.entry_tuple_eq (F.args_tuple_eq_2 _ _) ?_
  show wpAny _ _ (isInstance (.ref b) (.type "tuple") >>= _) _ _ _
  refine wpAny_bind (isi_own kin sub hb hc ?_)
  exact wpAny_pure q
theorem none_no (q : Q .notImplemented s) : wpAny (model prog w) A (call (.builtin "NoneType.__eq__") [.none, .ref b]) Q E s :=
  call_gives F.slot_NoneType_eq rfl F.entry_NoneType_eq (F.args_NoneType_eq_2 _ _) (PySem.SeqAt.NoneType___eq___none_ref_0 b) q
theorem str_no {z : Str} {t : Tok} {dx : Addr} (hb : s.heap.get? b = some (PySem.W.instObj C dx)) (q : Q .notImplemented s) : wpAny (model prog w) A (call (.builtin "str.__eq__") [.str z t, .ref b]) Q E s := by
  refine GQ.call_here F.slot_str_eq (typeIs_str _ _ _) F.entry_str_eq (F.args_str_eq_2 _ _) ?_
  obtain ⟨hp, g, d, tk, os⟩ := s
  wp_walk using wpAny_load hb
  exact q
theorem int_no {z : Int} {t : Tok} {dx : Addr} (hb : s.heap.get? b = some (PySem.W.instObj C dx)) (q : Q .notImplemented s) : wpAny (model prog w) A (call (.builtin "int.__eq__") [.int z t, .ref b]) Q E s := by
  refine GQ.call_here F.slot_int_eq rfl F.entry_int_eq (F.args_int_eq_2 _ _) ?_
  obtain ⟨hp, g, d, tk, os⟩ := s
  wp_walk using wpAny_load hb
  exact q
theorem bool_no {z : Bool} {dx : Addr} (hb : s.heap.get? b = some (PySem.W.instObj C dx)) (q : Q .notImplemented s) : wpAny (model prog w) A (call (.builtin "int.__eq__") [.bool z, .ref b]) Q E s := by
  refine GQ.call_here F.slot_bool_eq rfl F.entry_int_eq (F.args_int_eq_2 _ _) ?_
  obtain ⟨hp, g, d, tk, os⟩ := s
  wp_walk using wpAny_load hb
  exact q
end
/-- a built-in on the left, an instance on the right -/
def plainT : List String := ["NoneType", "bool", "int", "str", "list", "tuple"]
section
variable {X : Cx} {pins : List (Addr × Obj)} {σ : L2.St} {H : Hp} {s : Shared} {A : Around} {n : Nat}
theorem left_no {C a dx : Addr} {fs : List (Str × V)} {y : V} {v : Value} {T : String} {Q : Option Value → Shared → Prop} (sub : ∀ T ∈ plainT, PySem.W.subIn X.K (.ref C) (.type T) = some false) (ha : H a = some (.ins C dx fs)) (ov : OV H y (.type T)) (I : Inv X pins σ H s) (ry : RelV y v) (q : Q none s) :
    wpAny (model X.prog X.w) A (tryCompare v "__eq__" (.ref a)) Q X.xe s ∧ T ∈ plainT := by
  obtain ⟨_, _, _, hb, _⟩ := (show ObjOk _ _ H s.heap a (.ins C dx fs) from I.hok a _ ha)
  have kin := I.kIn
  cases ov with
  | non =>
    cases ry
    exact ⟨wpAny_tryCompare_declines (show s.TypeIs .none "NoneType" from rfl) F.slot_NoneType_eq (none_no ⟨rfl, q⟩), by decide⟩
  | bl b =>
    cases ry
    exact ⟨wpAny_tryCompare_declines (show s.TypeIs (.bool b) "bool" from rfl) F.slot_bool_eq (bool_no hb ⟨rfl, q⟩), by decide⟩
  | int i =>
    obtain ⟨t, rfl⟩ := ry
    exact ⟨wpAny_tryCompare_declines (show s.TypeIs (.int i t) "int" from rfl) F.slot_int_eq (int_no hb ⟨rfl, q⟩), by decide⟩
  | str z =>
    obtain ⟨t, rfl⟩ := ry
    exact ⟨wpAny_tryCompare_declines (typeIs_str s z t) F.slot_str_eq (str_no hb ⟨rfl, q⟩), by decide⟩
  | lst e =>
    cases ry
    obtain ⟨its, _, pl, _⟩ := I.list (SqL.of e)
    obtain ⟨o, h1, h2⟩ := pl.isList.typeIs
    exact ⟨wpAny_tryCompare_declines ⟨o, h1, h2⟩ F.slot_list_eq (list_no kin (sub _ (by decide)) h1 h2 hb rfl ⟨rfl, q⟩), by decide⟩
  | tup e =>
    cases ry
    obtain ⟨its, _, pl, _⟩ := I.tuple (SqT.of e)
    obtain ⟨o, h1, h2⟩ := pl.typeIs
    exact ⟨wpAny_tryCompare_declines ⟨o, h1, h2⟩ F.slot_tuple_eq (tuple_no kin (sub _ (by decide)) h1 h2 hb rfl ⟨rfl, q⟩), by decide⟩
theorem rc_right {C f a dx : Addr} {fd : FuncData} {sp : Sp} {fs : List (Str × V)} {y : V} {T : String} {v : Value} {b : Bool} (O : OwnE X n C f fd sp) (sub : ∀ T ∈ plainT, PySem.W.subIn X.K (.ref C) (.type T) = some false) (ha : H a = some (.ins C dx fs)) (ov : OV H y (.type T)) (h : sp [.ref a, y] H (fun v H' => v = .bl b ∧ H' = H) E0)
    (sb : Sub X n A) (I : Inv X pins σ H s) (ry : RelV y v) : wpAny (model X.prog X.w) A (richCompare .Eq v (.ref a)) (fun r s' => r = .bool b ∧ Inv X pins σ H s') X.xe s := by
  obtain ⟨mA, J, _⟩ := ins_get I.hok ha
  obtain ⟨od, J, _⟩ := J.look
  have one : ∀ {Q : Option Value → Shared → Prop}, Q none s → wpAny (model X.prog X.w) A (tryCompare v "__eq__" (.ref a)) Q X.xe s := fun {Q} q => (left_no sub ha ov I ry q).1
  have tm : T ∈ plainT := (left_no (A := A) (Q := fun _ _ => True) sub ha ov I ry trivial).2
  have two : wpAny (model X.prog X.w) A (tryCompare (.ref a) "__eq__" v) (fun r s' => r = some (.bool b) ∧ Inv X pins σ H s') X.xe s := by
    unfold tryCompare
    refine wpAny_bind (PySem.W.ifBound_K I.kIn J O.hs O.hf (wpAny_mono (run_own O.F O.hb sb I (show Vals [V.ref a, y] [Value.ref a, v] from .cons rfl (.cons ry .nil)) h) (fun r s' ⟨z1, z2⟩ => ?_) fun _ _ e => e))
    cases z1
    exact wpAny_pure ⟨rfl, z2⟩
  have nt : oneThing? .Eq v (.ref a) = none := by
    cases ov with
    | non => cases ry; rfl
    | bl _ => cases ry; rfl
    | int _ => obtain ⟨_, rfl⟩ := ry; rfl
    | str _ => obtain ⟨_, rfl⟩ := ry; rfl
    | lst _ => cases ry; rfl
    | tup _ => cases ry; rfl
  unfold richCompare
  simp only [nt]
  refine wpAny_holding (wpAny_bind (wpAny_cRoomFor sb.room.units0 ?_))
  refine wpAny_bind ((ov.looks I ry).here ?_)
  refine wpAny_bind (J.type.here ?_)
  split
  · refine wpAny_bind ((PySem.W.looks_subIn I.kIn (sub T tm)).here ?_)
    simp only [Bool.false_eq_true, if_false, Bool.not_false, if_true]
    refine wpAny_bind (m := tryCompare v _ (.ref a)) (one ?_)
    refine wpAny_bind (m := tryCompare (.ref a) _ v) (wpAny_mono two (fun r s2 ⟨z1, z2⟩ => ?_) fun _ _ e => e)
    subst z1
    exact wpAny_pure ⟨rfl, z2⟩
  · rename_i q
    exact absurd (by simp) q
end
end WB

set_option Elab.async false
set_option linter.all false
set_option maxRecDepth 100000
set_option maxHeartbeats 4000000
namespace WB
open PySem PySem.Spec PyProof.Rows L2 WG
open AutoSeq1 (wpAny_loadPart')
open MeetsSeq MeetsSeq2 MeetsSeq3 SeqRoads2
open TL (tl)
/-! ### lists of one thing -/
section
variable {prog : Program} {w : World} {A : Around} {E : Value → Shared → Prop} {s : Shared} {Q : Value → Shared → Prop} {l m : Addr} {x y : Value} {n n2 : Nat} {b : Bool} {Z : Shared → Prop}
/-- the list at l is [x] -/
def One (s : Shared) (l : Addr) (x : Value) : Prop := ∃ (its : Array Value) (n : Nat), s.heap.get? l = some { cls := .type "list", data := .seq its n } ∧ its[0]? = some x ∧ its.size = 1
theorem con_end {R : Result → Shared → Prop} (hl : One s l x) (h : R (.ok (.ret (.bool false))) s) : wpAny (model prog w) A.in1 (Builtin.«list.__contains__.loop» ⟨[.ref l, y, rawInt 1], []⟩) (GQ.FinOf prog w A R) (fun e s' => R (.error e) s') s := by
  obtain ⟨its, n, hl, e0, ez⟩ := hl
  obtain ⟨hp, g, d, tk, os⟩ := s
  wp_walk using wpAny_loadPart' hl
  have e1 : its[Int.toNat 1]? = none := Array.getElem?_eq_none (by rw [ez]; decide)
  rw [e1]
  wp_walk
  exact h
theorem con_one (hl : One s l x) (he : wpAny (model prog w) A.in1 (eqBool x y) (fun r s' => r = b ∧ Z s') E s) (kp : ∀ s', Z s' → One s' l x) (q : ∀ s', Z s' → Q (.bool b) s') : wpAny (model prog w) A (call (.builtin "list.__contains__") [.ref l, y]) Q E s := by
  obtain ⟨its, n, h1, e0, ez⟩ := id hl
  have loop : wpAny (model prog w) A.in1 (Builtin.«list.__contains__.loop» ⟨[.ref l, y, rawInt 0], []⟩) (GQ.FinOf prog w A (wants Q E)) (fun e s' => wants Q E (.error e) s') s := by
    have he' := he
    obtain ⟨hp, g, d, tk, os⟩ := s
    wp_walk using wpAny_loadPart' h1
    rw [show its[Int.toNat 0]? = some x from e0]
    refine wpAny_bind (wpAny_mono he' (fun r s2 ⟨e1, z2⟩ => ?_) fun _ _ e => e)
    subst e1
    have o2 := kp s2 z2
    have q2 := q s2 z2
    cases r with
    | true =>
      obtain ⟨hp2, g2, d2, tk2, os2⟩ := s2
      wp_walk
      exact q2
    | false =>
      have nx := con_end (prog := prog) (w := w) (A := A) (y := y) (R := wants Q E) o2 q2
      obtain ⟨hp2, g2, d2, tk2, os2⟩ := s2
      wp_walk
      exact ⟨plainId_quiet plain_contains_loop _, codeAny_builtin entry_contains_loop (by
        rw [Around.under_plainId plain_contains_loop _]
        exact nx)⟩
  refine GQ.call_here F.slot_list_contains ⟨_, h1, rfl⟩ F.entry_list_contains (F.args_list_contains_2 _ _) ?_
  obtain ⟨hp, g, d, tk, os⟩ := s
  wp_walk using wpAny_loadPart' h1
  exact ⟨plainId_quiet plain_contains_loop _, codeAny_builtin entry_contains_loop (by
    rw [Around.under_plainId plain_contains_loop _]
    exact loop)⟩
theorem in_one (hl : One s l x) (he : wpAny (model prog w) A.in1 (eqBool x y) (fun r s' => r = b ∧ Z s') E s) (kp : ∀ s', Z s' → One s' l x) (q : ∀ s', Z s' → Q (.bool b) s') : wpAny (model prog w) A (compareOp .In y (.ref l)) Q E s := by
  obtain ⟨its, n, h1, e0, ez⟩ := id hl
  show wpAny _ _ (do return .bool (← contains (.ref l) y)) Q E s
  refine wpAny_bind (wpAny_contains_slot ⟨_, h1, rfl⟩ F.slot_list_contains (con_one hl he kp fun s' z => wpAny_truthy_bool (wpAny_pure (q s' z))))
theorem eql_end {R : Result → Shared → Prop} (hl : One s l x) (hm : One s m y) (h : R (.ok (.ret (.bool true))) s) : wpAny (model prog w) A.in1 (Builtin.«list.__eq__.loop» ⟨[.ref l, .ref m, rawInt 1, rawInt 2], []⟩) (GQ.FinOf prog w A R) (fun e s' => R (.error e) s') s := by
  obtain ⟨its, n, h1, e0, ez⟩ := hl
  obtain ⟨jts, n2, h2, g0, gz⟩ := hm
  obtain ⟨hp, g, d, tk, os⟩ := s
  wp_walk using wpAny_loadPart' h1, wpAny_loadPart' h2
  have e1 : its[Int.toNat 1]? = none := Array.getElem?_eq_none (by rw [ez]; decide)
  have g1 : jts[Int.toNat 1]? = none := Array.getElem?_eq_none (by rw [gz]; decide)
  rw [e1, g1]
  wp_walk using wpAny_loadPart' h1, wpAny_loadPart' h2
  show R (.ok (.ret (.bool (its.size == jts.size)))) _
  rw [ez, gz]
  exact h
theorem rc_one (hu : A.units < cLine) (hl : One s l x) (hm : One s m y) (he : wpAny (model prog w) A.in1 (eqBool x y) (fun r s' => r = b ∧ Z s') E s) (kp : ∀ s', Z s' → One s' l x ∧ One s' m y) (q : ∀ s', Z s' → Q (.bool b) s') : wpAny (model prog w) A (richCompare .Eq (.ref l) (.ref m)) Q E s := by
  obtain ⟨its, n, h1, e0, ez⟩ := id hl
  obtain ⟨jts, n2, h2, g0, gz⟩ := id hm
  have loop : wpAny (model prog w) A.in1 (Builtin.«list.__eq__.loop» ⟨[.ref l, .ref m, rawInt 0, rawInt 2], []⟩) (GQ.FinOf prog w A (wants (fun v s' => v ≠ .notImplemented ∧ Q v s') E)) (fun e s' => wants (fun v s' => v ≠ .notImplemented ∧ Q v s') E (.error e) s') s := by
    have he' := he
    obtain ⟨hp, g, d, tk, os⟩ := s
    wp_walk using wpAny_loadPart' h1, wpAny_loadPart' h2
    rw [show its[Int.toNat 0]? = some x from e0, show jts[Int.toNat 0]? = some y from g0]
    refine wpAny_bind (wpAny_mono he' (fun r s2 ⟨e1, z2⟩ => ?_) fun _ _ e => e)
    subst e1
    obtain ⟨o2, o3⟩ := kp s2 z2
    have q2 := q s2 z2
    cases r with
    | true =>
      have nx := eql_end (prog := prog) (w := w) (A := A) (R := wants (fun v s' => v ≠ .notImplemented ∧ Q v s') E) o2 o3 ⟨(fun z => nomatch z), q2⟩
      obtain ⟨hp2, g2, d2, tk2, os2⟩ := s2
      wp_walk
      exact ⟨plainId_quiet plain_eq_loop _, codeAny_builtin entry_eq_loop (by
        rw [Around.under_plainId plain_eq_loop _]
        exact nx)⟩
    | false =>
      obtain ⟨its2, n3, k1, f0, _⟩ := o2
      obtain ⟨jts2, n4, k2, f1, _⟩ := o3
      obtain ⟨hp2, g2, d2, tk2, os2⟩ := s2
      wp_walk using wpAny_loadPart' k1, wpAny_loadPart' k2
      rw [show its2[Int.toNat 0]? = some x from f0, show jts2[Int.toNat 0]? = some y from f1]
      wp_walk
      exact ⟨(fun z => nomatch z), q2⟩
  refine wpAny_richCompare_same_room (op := .Eq) ⟨_, h1, rfl⟩ ⟨_, h2, rfl⟩ F.slot_list_eq (GQ.call_here F.slot_list_eq ⟨_, h1, rfl⟩ F.entry_list_eq (F.args_list_eq_2 _ _) ?_) hu
  have f3 := AutoSeq1.sub_list_list
  have hne : ¬ (its.size != jts.size) = true := by simp [ez, gz]
  obtain ⟨hp, g, d, tk, os⟩ := s
  wp_walk using wpAny_loadPart' h1, wpAny_loadPart' h2
  exact ⟨plainId_quiet plain_eq_loop _, codeAny_builtin entry_eq_loop (by
    rw [Around.under_plainId plain_eq_loop _]
    exact loop)⟩
end
end WB

set_option Elab.async false
set_option linter.all false
set_option maxRecDepth 100000
set_option maxHeartbeats 4000000
namespace WB
open PySem PySem.Spec PyProof.Rows L2 WG
open TL (tl)
/-! ### != by an own == -/
section
variable {X : Cx} {pins : List (Addr × Obj)} {σ : L2.St} {H : Hp} {s : Shared} {A : Around} {n : Nat}
theorem ne_bound {M : Model} {E : Value → Shared → Prop} {K : PySem.W.Frag} {x C : Addr} {ox : Obj} {od : Option Obj} {args : List Value} {Q : Option Value → Shared → Prop} (kin : K.In s.heap) (J : PySem.W.InstAt s.heap x ox C od) (hn : PySem.W.findIn K (.ref C) "__ne__" = some (some (.builtin "object.__ne__")))
    (h : wpAny M A (call (.builtin "object.__ne__") (.ref x :: args)) (fun v => Q (some v)) E s) : wpAny M A (callSpecialIfBound? (.ref x) "__ne__" args) Q E s := by
  have fin : wpAny M A (call (.builtin "object.__ne__") ([.ref x] ++ args) >>= fun v => pure (some v)) Q E s := wpAny_bind (wpAny_mono h (fun v s' z => wpAny_pure z) fun _ _ z => z)
  simp only [callSpecialIfBound?, bindSpecialIfBound?]
  refine wpAny_holding (wpAny_bind (wpAny_bind (wpAny_bind (J.type.here ((PySem.W.looks_findIn kin hn).here ?_)))))
  refine wpAny_bind (wpAny_askSetting (wpAny_ite ?_))
  split
  · exact wpAny_bind (wpAny_of_eq (F.cmp_object.ne.bind _) (wpAny_pure (by exact fin)))
  · exact wpAny_tryCatch (wpAny_bind (wpAny_of_eq (F.cmp_object.ne.bind _) (wpAny_pure (by exact fin))))
theorem rc_ne {C f a dx : Addr} {fd : FuncData} {sp : Sp} {fs : List (Str × V)} {y : V} {t v : Value} {b : Bool} (O : OwnE X n C f fd sp) (hn : PySem.W.findIn X.K (.ref C) "__ne__" = some (some (.builtin "object.__ne__"))) (hm : PySem.W.mroIn X.K C (.type "object") = some true) (ha : H a = some (.ins C dx fs)) (ov : OV H y t) (nf : PySem.W.notFirst X.K C t = true)
    (h : sp [.ref a, y] H (fun v H' => v = .bl b ∧ H' = H) E0) (sb : Sub X (n + 1) A) (I : Inv X pins σ H s) (ry : RelV y v) : wpAny (model X.prog X.w) A (richCompare .NotEq (.ref a) v) (fun r s' => r = .bool (!b) ∧ Inv X pins σ H s') X.xe s := by
  obtain ⟨mA, J, _⟩ := ins_get I.hok ha
  obtain ⟨od, J, _⟩ := J.look
  have own : wpAny (model X.prog X.w) A.in1 (callSpecialIfBound? (.ref a) "__eq__" [v]) (fun r s' => r = some (.bool b) ∧ Inv X pins σ H s') X.xe s := by
    refine PySem.W.ifBound_K I.kIn J O.hs O.hf (wpAny_mono (run_own O.F O.hb sb.in1 I (show Vals [V.ref a, y] [Value.ref a, v] from .cons rfl (.cons ry .nil)) h) (fun r s' ⟨z1, z2⟩ => ?_) fun _ _ e => e)
    cases z1
    exact ⟨rfl, z2⟩
  have entry : wpAny (model X.prog X.w) A.in1 (Builtin.«object.__ne__» ⟨[.ref a, v], []⟩) (GQ.FinOf X.prog X.w A (wants (fun r s' => r = .bool (!b) ∧ Inv X pins σ H s') X.xe)) (fun e s' => wants (fun r s' => r = .bool (!b) ∧ Inv X pins σ H s') X.xe (.error e) s') s := by
    unfold Builtin.«object.__ne__»
    repeat (first
      | with_reducible refine wpAny_cRoomFor sb.in1.room.units0 ?_
      | (refine wpAny_bind (m := callSpecialIfBound? (.ref a) (Str.ofString "__eq__") [v]) (wpAny_mono own (fun r s' ⟨z1, z2⟩ => ?_) fun _ _ e => e)
         subst z1)
      | exact wpAny_bind (wpAny_truthy_bool (wpAny_pure ⟨rfl, z2⟩))
      | wp_step)
  have one : wpAny (model X.prog X.w) A (tryCompare (.ref a) "__ne__" v) (fun r s' => r = some (.bool (!b)) ∧ Inv X pins σ H s') X.xe s := by
    unfold tryCompare
    refine wpAny_bind (ne_bound I.kIn J hn (wpAny_mono (wpAny_call (codeAny_call_builtin F.cmp_object.ne.plain F.cmpEntry_ne (PySem.W.check_slot F.cmpKind_ne F.cmpSplit_ne (J.type.andThen (PySem.W.looks_mroIn I.kIn hm)) (F.cmpArgs_ne _ _) entry))) (fun r s' ⟨z1, z2⟩ => ?_) fun _ _ e => e))
    subst z1
    exact wpAny_pure ⟨rfl, z2⟩
  unfold richCompare
  simp only [oneThing_ref]
  refine wpAny_holding (wpAny_bind (wpAny_cRoomFor sb.room.units0 ?_))
  refine wpAny_bind (J.type.here (wpAny_bind ((ov.looks I ry).here ?_)))
  have no : PySem.W.subIn X.K t (.ref C) = some false ∨ t = .ref C := by
    rcases Bool.or_eq_true_iff.mp nf with e | e
    · exact .inr (beq_iff_eq.mp e)
    · exact .inl (beq_iff_eq.mp e)
  split
  · rename_i q
    rcases no with no | no
    · refine wpAny_bind ((PySem.W.looks_subIn I.kIn no).here ?_)
      simp only [Bool.false_eq_true, if_false]
      refine wpAny_bind (m := tryCompare (.ref a) _ v) (wpAny_mono one (fun r s2 ⟨z1, z2⟩ => ?_) fun _ _ e => e)
      subst z1
      exact wpAny_pure ⟨rfl, z2⟩
    · rw [no] at q
      exact absurd q (by simp)
  · refine wpAny_bind (wpAny_pure ?_)
    simp only [Bool.false_eq_true, if_false]
    refine wpAny_bind (m := tryCompare (.ref a) _ v) (wpAny_mono one (fun r s2 ⟨z1, z2⟩ => ?_) fun _ _ e => e)
    subst z1
    exact wpAny_pure ⟨rfl, z2⟩
end
end WB

set_option Elab.async false
set_option linter.all false
set_option maxRecDepth 100000
set_option maxHeartbeats 4000000
namespace WB
open PySem PySem.Spec PyProof.Rows L2 WG
open TL (tl)
/-! ### flat values -/
inductive Fl : V → Prop
  | non : Fl .non
  | bl (b : Bool) : Fl (.bl b)
  | str {z : Str} (h : Tx 300 z) : Fl (.str z)
def AllFl (vs : List V) : Prop := ∀ v ∈ vs, Fl v
def dV : V → PyData
  | .bl b => .bool b
  | .str z => .str z
  | _ => .none
theorem Fl.thg {H : Hp} {v : V} (h : Fl v) : Thg H v := by
  cases h with
  | non => exact .non
  | bl b => exact .bl b
  | str h => exact .str h
theorem Fl.dp {K : PySem.W.Frag} {H : Hp} {v : V} (h : Fl v) : Dp K H v (dV v) := by
  cases h with
  | non => exact .non
  | bl b => exact .bl b
  | str h => exact .str _
theorem AllFl.tail {v : V} {vs : List V} (h : AllFl (v :: vs)) : AllFl vs := fun x hx => h x (List.mem_cons_of_mem _ hx)
theorem AllFl.dp {K : PySem.W.Frag} {H : Hp} : ∀ {vs : List V}, AllFl vs → DpAll K H vs (vs.map dV)
  | [], _ => .nil
  | v :: r, h => .cons (h v List.mem_cons_self).dp (AllFl.dp h.tail)
theorem AllFl.lay : ∀ {vs : List V}, AllFl vs → PyData.canLayAll0 (vs.map dV) = true ∧ PyData.depthAll (vs.map dV) = 0
  | [], _ => ⟨by simp [PyData.canLayAll0], by simp [PyData.depthAll]⟩
  | v :: r, h => by
    obtain ⟨h1, h2⟩ := AllFl.lay h.tail
    have hv := h v List.mem_cons_self
    rw [List.map_cons]
    cases hv with
    | non => exact ⟨by simp [dV, PyData.canLayAll0, PyData.canLay0, h1], by simp [dV, PyData.depthAll, PyData.depth, h2]⟩
    | bl b => exact ⟨by simp [dV, PyData.canLayAll0, PyData.canLay0, h1], by simp [dV, PyData.depthAll, PyData.depth, h2]⟩
    | str hz => exact ⟨by simp [dV, PyData.canLayAll0, PyData.canLay0, h1, strOk_of hz.pl], by simp [dV, PyData.depthAll, PyData.depth, h2]⟩
theorem AllFl.shT {vs : List V} (h : AllFl vs) : SeqAt.shaped (.tuple (vs.map dV)) = true := by
  obtain ⟨h1, h2⟩ := h.lay
  unfold SeqAt.shaped
  simp [PyData.canLay0, PyData.depth, h1, h2]
theorem AllFl.shL {vs : List V} (h : AllFl vs) : SeqAt.shaped (.list (vs.map dV)) = true := by
  obtain ⟨h1, h2⟩ := h.lay
  unfold SeqAt.shaped
  simp [PyData.canLay0, PyData.depth, h1, h2]
theorem eqv_fl {v w : V} (h : Fl v) (k : Fl w) : PyData.eqv (dV v) (dV w) = decide (v = w) := by
  cases h with
  | non =>
    cases k with
    | non => simp [dV, PyData.eqv]
    | bl b => simp [dV, PyData.eqv]
    | str _ => simp [dV, PyData.eqv]
  | bl b =>
    cases k with
    | non => simp [dV, PyData.eqv]
    | bl c => cases b <;> cases c <;> simp [dV, PyData.eqv]
    | str _ => simp [dV, PyData.eqv]
  | @str z _ =>
    cases k with
    | non => simp [dV, PyData.eqv]
    | bl b => simp [dV, PyData.eqv]
    | @str y _ =>
      show (z == y) = _
      by_cases e : z = y
      · subst e
        simp
      · rw [decide_eq_false (fun q => e (V.str.inj q))]
        simpa using e
theorem eqvAll_fl : ∀ {vs ws : List V}, AllFl vs → AllFl ws → PyData.eqvAll (vs.map dV) (ws.map dV) = decide (vs = ws)
  | [], [], _, _ => by simp [PyData.eqvAll]
  | [], w :: r, _, _ => by simp [PyData.eqvAll]
  | v :: r, [], _, _ => by simp [PyData.eqvAll]
  | v :: r, w :: t, h, k => by
    rw [List.map_cons, List.map_cons]
    simp only [PyData.eqvAll]
    rw [eqvAll_fl h.tail k.tail, eqv_fl (h v List.mem_cons_self) (k w List.mem_cons_self)]
    by_cases e : v = w
    · subst e
      by_cases e2 : r = t
      · subst e2
        simp
      · simp [e2]
    · simp [e]
theorem eqv_tup {vs ws : List V} (h : AllFl vs) (k : AllFl ws) : PyData.eqv (.tuple (vs.map dV)) (.tuple (ws.map dV)) = decide (vs = ws) := by
  simp only [PyData.eqv]
  exact eqvAll_fl h k
theorem eqv_lst {vs ws : List V} (h : AllFl vs) (k : AllFl ws) : PyData.eqv (.list (vs.map dV)) (.list (ws.map dV)) = decide (vs = ws) := by
  simp only [PyData.eqv]
  exact eqvAll_fl h k
/-! ### what an own == says -/
/-- an instance of C that holds vs -/
def IsT (H : Hp) (C a : Addr) (vs : List V) : Prop := AllFl vs ∧ ∃ dx t, H a = some (.ins C dx [(("held" : Str), .ref t)]) ∧ H t = some (.tup vs)
theorem IsT.same {H H' : Hp} {C a : Addr} {vs : List V} (h : IsT H C a vs) (s : Same H H') : IsT H' C a vs := by
  obtain ⟨f, dx, t, e1, e2⟩ := h
  exact ⟨f, dx, t, s _ _ e1, s _ _ e2⟩
inductive EqTo (K : PySem.W.Frag) (H : Hp) (C : Addr) (us : List V) : V → Bool → Prop
  | same {c : Addr} {ws : List V} (h : IsT H C c ws) : EqTo K H C us (.ref c) (decide (us = ws))
  | other {y : V} {t : Value} (ty : TyX K H y t) (k : PySem.W.kitOne K t (.ref C) = some false) : EqTo K H C us y false
def spEqO (K : PySem.W.Frag) (C : Addr) : Sp := fun vs H Q _ => ∃ (a : Addr) (y : V) (us : List V) (b : Bool), vs = [.ref a, y] ∧ IsT H C a us ∧ EqTo K H C us y b ∧ Q (.bl b) H
/-- the classes with an own == -/
structure EqCl (X : Cx) (n : Nat) (C : Addr) : Prop where
  own : ∃ f fd, OwnE X n C f fd (spEqO X.K C)
  sub : ∀ T ∈ plainT, PySem.W.subIn X.K (.ref C) (.type T) = some false
  nr : ∀ T ∈ plainT, PySem.W.subIn X.K (.type T) (.ref C) = some false
  ne : PySem.W.findIn X.K (.ref C) "__ne__" = some (some (.builtin "object.__ne__"))
  mo : PySem.W.mroIn X.K C (.type "object") = some true
/-- x == y: b -/
inductive EqOp (X : Cx) (n : Nat) (H : Hp) : V → V → Bool → Prop
  | left {C a : Addr} {us : List V} {y : V} {t : Value} {b : Bool} (c : EqCl X n C) (h : IsT H C a us) (ov : OV H y t) (nf : PySem.W.notFirst X.K C t = true) (e : EqTo X.K H C us y b) : EqOp X n H (.ref a) y b
  | right {C a : Addr} {us : List V} {y : V} {T : String} {b : Bool} (c : EqCl X n C) (h : IsT H C a us) (ov : OV H y (.type T)) (e : EqTo X.K H C us y b) : EqOp X n H y (.ref a) b
section
variable {X : Cx} {pins : List (Addr × Obj)} {σ : L2.St} {H : Hp} {s : Shared} {A : Around} {n : Nat}
theorem EqOp.rc {x y : V} {u v : Value} {b : Bool} (e : EqOp X n H x y b) (sb : Sub X n A) (I : Inv X pins σ H s) (rx : RelV x u) (ry : RelV y v) : wpAny (model X.prog X.w) A (richCompare .Eq u v) (fun r s' => r = .bool b ∧ Inv X pins σ H s') X.xe s := by
  cases e with
  | left c h ov nf e =>
    obtain ⟨f, fd, O⟩ := c.own
    obtain ⟨_, dx, t, ea, et⟩ := id h
    cases rx
    exact rc_left O ea ov nf ⟨_, _, _, _, rfl, h, e, rfl, rfl⟩ sb I ry
  | right c h ov e =>
    obtain ⟨f, fd, O⟩ := c.own
    obtain ⟨_, dx, t, ea, et⟩ := id h
    cases ry
    exact rc_right O c.sub ea ov ⟨_, _, _, _, rfl, h, e, rfl, rfl⟩ sb I rx
theorem EqOp.eb {a c : Addr} {b : Bool} (ne : a ≠ c) (e : EqOp X n H (.ref a) (.ref c) b) (sb : Sub X n A) (I : Inv X pins σ H s) : wpAny (model X.prog X.w) A (eqBool (.ref a) (.ref c)) (fun r s' => r = b ∧ Inv X pins σ H s') X.xe s :=
  GQ.eqBool_refG ne (wpAny_mono (e.rc sb I rfl rfl) (fun r s' ⟨z1, z2⟩ => ⟨b, z1, rfl, z2⟩) fun _ _ x => x)
def rEqI (X : Cx) (n : Nat) : R2 := fun x y H Q => ∃ b, EqOp X n H x y b ∧ Q (.bl b) H
theorem op_eqI (hr : Room n X.A) : OpR X (compareOp .Eq) (rEqI X n) := by
  intro pins s σ H x y v u Q I rx ry h
  obtain ⟨b, e, q⟩ := h
  show wpAny (model X.prog X.w) X.A (richCompare .Eq v u) (EP X pins σ Q) X.xe s
  refine wpAny_mono (e.rc ⟨hr, rfl⟩ I rx ry) (fun r s' ⟨z1, z2⟩ => ?_) fun _ _ x => x
  subst z1
  exact ⟨.bl b, H, z2, rfl, q⟩
theorem one_of_list {l : Addr} {x : V} {u : Value} (I : Inv X pins σ H s) (e : H l = some (.lst [x])) (r : ∀ w, RelV x w → w = u) : One s l u := by
  obtain ⟨_, its, n, rv, g⟩ := (show ObjOk _ _ H s.heap l (.lst [x]) from I.hok l _ e)
  cases rv with
  | cons r1 r2 =>
    cases r2
    rw [r _ r1] at g
    exact ⟨_, n, g, rfl, rfl⟩
def rInI (X : Cx) (n : Nat) : R2 := fun x y H Q => ∃ (l a c : Addr) (b : Bool), x = .ref c ∧ y = .ref l ∧ H l = some (.lst [.ref a]) ∧ a ≠ c ∧ EqOp X n H (.ref a) (.ref c) b ∧ Q (.bl b) H
theorem op_inI (hr : Room (n + 1) X.A) : OpR X (compareOp .In) (rInI X n) := by
  intro pins s σ H x y v u Q I rx ry h
  obtain ⟨l, a, c, b, rfl, rfl, el, ne, e, q⟩ := h
  cases rx
  cases ry
  have sb : Sub X (n + 1) X.A := ⟨hr, rfl⟩
  exact in_one (Z := fun s' => Inv X pins σ H s') (one_of_list I el (fun _ z => z)) (e.eb ne sb.in1 I) (fun s' z => one_of_list z el (fun _ w => w)) (fun s' z => ⟨.bl b, H, z, rfl, q⟩)
def rEqL1 (X : Cx) (n : Nat) : R2 := fun x y H Q => ∃ (l m a c : Addr) (b : Bool), x = .ref l ∧ y = .ref m ∧ H l = some (.lst [.ref a]) ∧ H m = some (.lst [.ref c]) ∧ a ≠ c ∧ EqOp X n H (.ref a) (.ref c) b ∧ Q (.bl b) H
theorem op_eqL1 (hr : Room (n + 1) X.A) : OpR X (compareOp .Eq) (rEqL1 X n) := by
  intro pins s σ H x y v u Q I rx ry h
  obtain ⟨l, m, a, c, b, rfl, rfl, el, em, ne, e, q⟩ := h
  cases rx
  cases ry
  have sb : Sub X (n + 1) X.A := ⟨hr, rfl⟩
  exact rc_one (Z := fun s' => Inv X pins σ H s') hr.units0 (one_of_list I el (fun _ z => z)) (one_of_list I em (fun _ z => z)) (e.eb ne sb.in1 I) (fun s' z => ⟨one_of_list z el (fun _ w => w), one_of_list z em (fun _ w => w)⟩) (fun s' z => ⟨.bl b, H, z, rfl, q⟩)
def rNeI (X : Cx) (n : Nat) : R2 := fun x y H Q => ∃ (C a c : Addr) (us ws : List V), x = .ref a ∧ y = .ref c ∧ EqCl X n C ∧ IsT H C a us ∧ IsT H C c ws ∧ Q (.bl (!decide (us = ws))) H
theorem op_neI (hr : Room (n + 1) X.A) : OpR X (compareOp .NotEq) (rNeI X n) := by
  intro pins s σ H x y v u Q I rx ry h
  obtain ⟨C, a, c, us, ws, rfl, rfl, cl, h1, h2, q⟩ := h
  cases rx
  cases ry
  obtain ⟨f, fd, O⟩ := cl.own
  obtain ⟨_, dx, t, ea, et⟩ := id h1
  obtain ⟨_, dx2, t2, ec, et2⟩ := id h2
  show wpAny (model X.prog X.w) X.A (richCompare .NotEq (.ref a) (.ref c)) (EP X pins σ Q) X.xe s
  refine wpAny_mono (rc_ne O cl.ne cl.mo ea (.ins ec) (by simp [PySem.W.notFirst]) ⟨_, _, _, _, rfl, h1, .same h2, rfl, rfl⟩ ⟨hr, rfl⟩ I rfl) (fun r s' ⟨z1, z2⟩ => ?_) fun _ _ x => x
  subst z1
  exact ⟨.bl _, H, z2, rfl, q⟩
end
end WB

set_option Elab.async false
set_option linter.all false
set_option maxRecDepth 100000
set_option maxHeartbeats 4000000
namespace WB
open PySem PySem.Spec PyProof.Rows L2 WG
open TL (tl)
abbrev st_comma_joined : Stmt := topS 31
theorem sc_comma_joined : FnScope ["values", "value"] ["values"] (defScope st_comma_joined) := ⟨rfl, rfl, rfl, by decide +kernel, rfl, by decide +kernel, by decide +kernel⟩
abbrev st_Option_eq : Stmt := inClass (topS 42) 9
theorem sc_Option_eq : FnScope ["self", "other"] ["self", "other"] (defScope st_Option_eq) := ⟨rfl, rfl, rfl, by decide +kernel, rfl, by decide +kernel, by decide +kernel⟩
abbrev st_Place_eq : Stmt := inClass (topS 43) 6
theorem sc_Place_eq : FnScope ["self", "other"] ["self", "other"] (defScope st_Place_eq) := ⟨rfl, rfl, rfl, by decide +kernel, rfl, by decide +kernel, by decide +kernel⟩
abbrev st_Option_repr : Stmt := inClass (topS 42) 10
theorem sc_Option_repr : FnScope ["self"] ["self"] (defScope st_Option_repr) := ⟨rfl, rfl, rfl, by decide +kernel, rfl, by decide +kernel, by decide +kernel⟩
abbrev st_Place_repr : Stmt := inClass (topS 43) 7
theorem sc_Place_repr : FnScope ["self"] ["self"] (defScope st_Place_repr) := ⟨rfl, rfl, rfl, by decide +kernel, rfl, by decide +kernel, by decide +kernel⟩
/-! ### repr of a flat value -/
def rp : V → Str
  | .bl b => if b then Str.ofString "True" else Str.ofString "False"
  | .str z => reprText z
  | _ => Str.ofString "None"
theorem Fl.len {v : V} (h : Fl v) : (rp v).length ≤ 3002 := by
  cases h with
  | non => decide +kernel
  | bl b => cases b <;> decide +kernel
  | str h => exact repr_tx h
def rReprF : List V → Hp → VK → Prop := fun xs H Q => ∃ v : V, xs = [v] ∧ Fl v ∧ Q (.str (rp v)) H
theorem call_reprF {X : Cx} : CallR X (.builtin "repr") rReprF := by
  intro pins s σ H xs us Q I rels ask
  obtain ⟨v, rfl, fl, q⟩ := ask
  obtain ⟨u, rfl, rel⟩ := vals1 rels
  have sl : sizeLine = 16777216 := sizeLine_eq
  have fin : ∀ {x : Str}, x = rp v → EP X pins σ Q (.str x s.toks) { s with toks := s.toks + 1 } := fun {x} e => ⟨.str x, H, I.tok _, ⟨_, rfl⟩, by rw [e]; exact q⟩
  have ln := fl.len
  cases fl with
  | non =>
    cases rel
    exact P.repr_of_none (fin rfl)
  | bl b =>
    cases rel
    refine P.repr_of_bool (fin ?_)
    cases b <;> rfl
  | str h =>
    obtain ⟨t, rfl⟩ := rel
    refine P.repr_of_str (fin rfl) ?_
    have : (reprText _).length ≤ 3002 := ln
    omega
def cj (vs : List V) : Str := Txt.join (Str.ofString ", ") (vs.map rp)
theorem sum_rp : ∀ {vs : List V}, AllFl vs → ((vs.map rp).map (·.length)).sum ≤ vs.length * 3002
  | [], _ => Nat.le_refl _
  | v :: r, h => by
    have h1 := sum_rp h.tail
    have h2 := (h v List.mem_cons_self).len
    rw [List.map_cons, List.map_cons, List.sum_cons, List.length_cons, Nat.succ_mul]
    omega
theorem cj_len {vs : List V} (h : AllFl vs) (l : vs.length ≤ 20) : (cj vs).length ≤ 70000 := by
  unfold cj
  rw [TL.join_eq]
  have e := StrLaws.join_length_le (Str.ofString ", ") (vs.map rp)
  have e2 := sum_rp h
  have e3 : (Str.ofString ", ").length = 2 := by decide +kernel
  rw [e3, List.length_map] at e
  omega
section
variable {P : Program} {w : World} {K : PySem.W.Frag} {mg : Str → Option Value} {base : Heap}
def spComma (K : PySem.W.Frag) : Sp := fun xs H Q _ => ∃ (t : Addr) (vs : List V), xs = [.ref t] ∧ H t = some (.tup vs) ∧ AllFl vs ∧ vs.length ≤ 20 ∧ ∀ H', Same H H' → Q (.str (cj vs)) H'
theorem ok_comma {f : Addr} {fd : FuncData} {k : Nat} (F : Fun K "comma_joined" "comma_joined" st_comma_joined f fd) (m_repr : mg "repr" = none) : FnOk P w K mg base CX0 (k + 1) f fd ["values"] (spComma K) := by
  refine F.ok sc_comma_joined (fun vs H Q E h => ?_) (fun cdv A outer s H vs Q E hr h => ?_)
  · obtain ⟨t, ws, rfl, _⟩ := h
    rfl
  · obtain ⟨t, ws, rfl, et, fl, le, q⟩ := h
    have sl : sizeLine = 16777216 := sizeLine_eq
    refine ⟨_, pss_one (ps_ret (pe_join pe_str (pe_lc (own := [("value", 1)]) (g := gName 1) (tt := tYes) rfl sc_comma_joined.nd (pi_tup (pv 0)) (blkOk_by (N := ["values", "value"]) (sc := defScope st_comma_joined) (by decide +kernel)) (fun _ _ _ _ _ => (pg_name (i := 1) sc_comma_joined.nd rfl (Or.inl rfl))) (fun _ _ _ _ _ => pts_nil) (fun _ _ _ _ _ => (pe_callB (r := rReprF) call_reprF (by rfl) m_repr (by decide +kernel) (pa_cons (pv 1) pa_nil)))))), ?_⟩
    refine ⟨⟨_, rfl⟩, .ref t, rfl, t, rfl, ⟨_, SqT.of et⟩, fun D nD => ?_⟩
    refine lc_tup (K := K) (a := t) (xs := ws) (fun i Hc => Same H Hc ∧ Hc D = some (.lst (((ws.take i).map rp).map V.str))) ⟨same_upd nD, upd_same⟩ (fun i Hc _ h => SqT.of (h.1 _ _ et)) (fun i v Hc hv ⟨sc, eD⟩ => ?_) (fun Hc ⟨sc, eD⟩ => ?_)
    · refine ⟨rfl, v, rfl, v, rfl, fl v (List.mem_of_getElem? hv), _, eD, ?_, ?_, ?_⟩
      · rw [List.length_map, List.length_map, List.length_take]
        omega
      · intro b o e
        rw [upd_ne (ne_of_none e nD)]
        exact sc b o e
      · rw [upd_same, List.take_add_one, hv, List.map_append, List.map_append]
        rfl
    · rw [List.take_length] at eD
      refine ⟨_, D, ws.map rp, rfl, rfl, .inl (SqL.of eD), ?_, q _ sc⟩
      have e2 := sum_rp fl
      have e3 : (Str.ofString ", ").length = 2 := by decide +kernel
      rw [e3, List.length_map]
      omega
theorem held_look {t : Addr} : List.lookup ("held" : Str) [(("held" : Str), V.ref t)] = some (.ref t) := by simp [List.lookup]
/-- what isinstance asks of the class -/
structure IsiC (K : PySem.W.Frag) (C : Addr) : Prop where
  ca : PySem.W.findIn K (.ref C) "__class__" = some (some (.builtin "object.__class__"))
  cn : PySem.W.specialIn K (.builtin "object.__class__") "__get__" = some (some (.builtin "getset_descriptor.__get__"))
  ct : PySem.W.takesIn K (.builtin "object.__class__") = some true
  cm : PySem.W.mroIn K C (.type "object") = some true
theorem isi_ty {H : Hp} {C a : Addr} {vs : List V} (T : ClsT K C) (c : IsiC K C) (h : IsT H C a vs) : TyX K H (.ref a) (.ref C) := by
  obtain ⟨_, dx, t, ea, _⟩ := h
  exact .base (.ins ea T.cl c.ca c.cn c.ct c.cm)
theorem ok_eqO {C f : Addr} {fd : FuncData} {k : Nat} (F : Fun K "__eq__" "Option.__eq__" st_Option_eq f fd) (T : ClsT K C) (IC : IsiC K C) (gC : mg "Option" = some (.ref C)) (m_isinstance : mg "isinstance" = none) : FnOk P w K mg base CX0 (k + 1) f fd ["self", "other"] (spEqO K C) := by
  refine F.ok sc_Option_eq (fun vs H Q E h => ?_) (fun cdv A outer s H vs Q E hr h => ?_)
  · obtain ⟨a, y, us, b, rfl, _⟩ := h
    rfl
  · obtain ⟨a, y, us, b, rfl, ht, eq, q⟩ := h
    refine ⟨_, pss_one (ps_ret (pe_and (pe_callB call_isi (by rfl) m_isinstance (by decide +kernel) (pa_cons (pv 1) (pa_cons (pe_glob (v := .ref C) rfl gC rfl) pa_nil))) (pe_one (pe_cmpR (op_eqD hr.units) (pe_fld (pv 0) rfl) (pe_fld (pv 1) rfl) (nomark _))))), ?_⟩
    cases eq with
    | same h2 =>
      refine ⟨_, rfl, _, _, _, _, true, rfl, ClsV.own C, isi_ty T IC h2, by unfold PySem.W.kitOne; rw [if_pos (beq_self_eq_true _)], _, rfl, ?_⟩
      obtain ⟨f1, dx, t, ea, et⟩ := ht
      obtain ⟨f2, dx2, t2, ec, et2⟩ := h2
      refine ⟨.ref a, rfl, a, C, dx, _, _, rfl, ea, T.cl, T.nh, held_look, _, rfl, _, C, dx2, _, _, rfl, ec, T.cl, T.nh, held_look, _, _, .tup (SqT.of et) f1.dp, .tup (SqT.of et2) f2.dp, f1.shT, f2.shT, ?_⟩
      rw [eqv_tup f1 f2]
      exact q
    | other ty kk =>
      exact ⟨_, rfl, _, _, _, _, false, rfl, ClsV.own C, ty, kk, _, rfl, q⟩
theorem ok_eqP {C f : Addr} {fd : FuncData} {k : Nat} (F : Fun K "__eq__" "Place.__eq__" st_Place_eq f fd) (T : ClsT K C) (IC : IsiC K C) (gC : mg "Place" = some (.ref C)) (m_isinstance : mg "isinstance" = none) : FnOk P w K mg base CX0 (k + 1) f fd ["self", "other"] (spEqO K C) := by
  refine F.ok sc_Place_eq (fun vs H Q E h => ?_) (fun cdv A outer s H vs Q E hr h => ?_)
  · obtain ⟨a, y, us, b, rfl, _⟩ := h
    rfl
  · obtain ⟨a, y, us, b, rfl, ht, eq, q⟩ := h
    refine ⟨_, pss_one (ps_ret (pe_and (pe_callB call_isi (by rfl) m_isinstance (by decide +kernel) (pa_cons (pv 1) (pa_cons (pe_glob (v := .ref C) rfl gC rfl) pa_nil))) (pe_one (pe_cmpR (op_eqD hr.units) (pe_fld (pv 0) rfl) (pe_fld (pv 1) rfl) (nomark _))))), ?_⟩
    cases eq with
    | same h2 =>
      refine ⟨_, rfl, _, _, _, _, true, rfl, ClsV.own C, isi_ty T IC h2, by unfold PySem.W.kitOne; rw [if_pos (beq_self_eq_true _)], _, rfl, ?_⟩
      obtain ⟨f1, dx, t, ea, et⟩ := ht
      obtain ⟨f2, dx2, t2, ec, et2⟩ := h2
      refine ⟨.ref a, rfl, a, C, dx, _, _, rfl, ea, T.cl, T.nh, held_look, _, rfl, _, C, dx2, _, _, rfl, ec, T.cl, T.nh, held_look, _, _, .tup (SqT.of et) f1.dp, .tup (SqT.of et2) f2.dp, f1.shT, f2.shT, ?_⟩
      rw [eqv_tup f1 f2]
      exact q
    | other ty kk =>
      exact ⟨_, rfl, _, _, _, _, false, rfl, ClsV.own C, ty, kk, _, rfl, q⟩
/-! ### repr -/
def shw (nm : String) (vs : List V) : Str := Str.empty ++ Str.ofString nm ++ cj vs ++ Str.ofString ")"
def spRepr (C : Addr) (nm : String) : Sp := fun xs H Q _ => ∃ (a : Addr) (vs : List V), xs = [.ref a] ∧ IsT H C a vs ∧ vs.length ≤ 20 ∧ ∀ H', Same H H' → Q (.str (shw nm vs)) H'
theorem ok_reprO {C f fC : Addr} {fd fdC : FuncData} {k : Nat} (F : Fun K "__repr__" "Option.__repr__" st_Option_repr f fd) (T : ClsT K C) (D_comma_joined : Df K mg "comma_joined" st_comma_joined ["values"] fC fdC) (m_repr : mg "repr" = none) : FnOk P w K mg base CX0 (k + 2) f fd ["self"] (spRepr C "Option(") := by
  have G_comma_joined : FnOk P w K mg base CX0 (k + 1) fC fdC ["values"] (spComma K) := ok_comma D_comma_joined.F m_repr
  refine F.ok sc_Option_repr (fun vs H Q E h => ?_) (fun cdv A outer s H vs Q E hr h => ?_)
  · obtain ⟨a, us, rfl, _⟩ := h
    rfl
  · obtain ⟨a, us, rfl, ht, le, q⟩ := h
    have sl : sizeLine = 16777216 := sizeLine_eq
    refine ⟨_, pss_one (ps_ret (pe_joined (.cons pe_str (.cons (pe_fmt (pe_call G_comma_joined hr (by rfl) D_comma_joined.g D_comma_joined.F.kp D_comma_joined.b .nil pass0 (pa_cons (pe_fld (pv 0) rfl) pa_nil))) (.cons pe_str .nil))))), ?_⟩
    obtain ⟨f1, dx, t, ea, et⟩ := ht
    have l1 := cj_len f1 le
    have l2 : (Str.empty ++ Str.ofString "Option(").length = 7 := by decide +kernel
    have l3 : (Str.ofString ")").length = 1 := by decide +kernel
    refine ⟨_, rfl, by rw [l2]; omega, .ref a, rfl, a, C, dx, _, _, rfl, ea, T.cl, T.nh, held_look, t, us, rfl, et, f1, le, fun H' s' => .inl ⟨_, rfl, by omega, _, rfl, by rw [Str.length_append, l2]; omega, _, rfl, by rw [Str.length_append, Str.length_append, l2, l3]; omega, q H' s'⟩⟩
theorem ok_reprP {C f fC : Addr} {fd fdC : FuncData} {k : Nat} (F : Fun K "__repr__" "Place.__repr__" st_Place_repr f fd) (T : ClsT K C) (D_comma_joined : Df K mg "comma_joined" st_comma_joined ["values"] fC fdC) (m_repr : mg "repr" = none) : FnOk P w K mg base CX0 (k + 2) f fd ["self"] (spRepr C "Place(") := by
  have G_comma_joined : FnOk P w K mg base CX0 (k + 1) fC fdC ["values"] (spComma K) := ok_comma D_comma_joined.F m_repr
  refine F.ok sc_Place_repr (fun vs H Q E h => ?_) (fun cdv A outer s H vs Q E hr h => ?_)
  · obtain ⟨a, us, rfl, _⟩ := h
    rfl
  · obtain ⟨a, us, rfl, ht, le, q⟩ := h
    have sl : sizeLine = 16777216 := sizeLine_eq
    refine ⟨_, pss_one (ps_ret (pe_joined (.cons pe_str (.cons (pe_fmt (pe_call G_comma_joined hr (by rfl) D_comma_joined.g D_comma_joined.F.kp D_comma_joined.b .nil pass0 (pa_cons (pe_fld (pv 0) rfl) pa_nil))) (.cons pe_str .nil))))), ?_⟩
    obtain ⟨f1, dx, t, ea, et⟩ := ht
    have l1 := cj_len f1 le
    have l2 : (Str.empty ++ Str.ofString "Place(").length = 6 := by decide +kernel
    have l3 : (Str.ofString ")").length = 1 := by decide +kernel
    refine ⟨_, rfl, by rw [l2]; omega, .ref a, rfl, a, C, dx, _, _, rfl, ea, T.cl, T.nh, held_look, t, us, rfl, et, f1, le, fun H' s' => .inl ⟨_, rfl, by omega, _, rfl, by rw [Str.length_append, l2]; omega, _, rfl, by rw [Str.length_append, Str.length_append, l2, l3]; omega, q H' s'⟩⟩
end
end WB

set_option Elab.async false
set_option linter.all false
set_option maxRecDepth 100000
set_option maxHeartbeats 4000000
namespace WB
open PySem PySem.Spec PyProof.Rows L2 WG
open TL (tl)
/-! ### repr of instances -/
section
variable {X : Cx} {pins : List (Addr × Obj)} {σ : L2.St} {H : Hp} {s : Shared} {A : Around} {n : Nat} {E : Value → Shared → Prop}
theorem run_ownQ {f : Addr} {fd : FuncData} {ps : List Str} {sp : Sp} {xs : List V} {us : List Value} {want : VK} (F : FnOk X.prog X.w X.K X.mg X.base CX0 n f fd ps sp) (hb : Binds X.K fd ps []) (sb : Sub X n A) (I : Inv X pins σ H s) (r : Vals xs us) (h : sp xs H want E0) :
    wpAny (model X.prog X.w) A (call (.ref f) us) (fun w s' => ∃ v H', RelV v w ∧ Inv X pins σ H' s' ∧ want v H') E s := by
  have e0 : Env0 X.prog X.w X.K X.mg X.base A X.stack s H := by
    have e := I.env0
    exact ⟨by rw [sb.fr]; exact e.frames, e.mod, e.bs, e.bsz, e.funs, e.frf, e.hok, e.bare⟩
  have hl := F.len _ _ _ _ h
  have bb := hb s us I.kIn (by rw [List.append_nil, ← r.length]; exact hl)
  rw [List.append_nil] at bb
  refine wpAny_call (codeAny_mono (F.run A X.stack s H ⟨us, []⟩ us xs _ E0 sb.room e0 bb r h) fun q s' got => ?_)
  cases q with
  | error e => exact got.elim
  | ok fl =>
    cases fl with
    | ret w =>
      obtain ⟨z, H', I', rz, ez⟩ := I.after got
      exact ⟨z, H', rz, I', ez⟩
    | next => exact got.elim
    | brk => exact got.elim
    | cont => exact got.elim
/-- the instance at a is shown as t, by an own repr -/
def RpI (X : Cx) (n : Nat) (H : Hp) (a : Addr) (t : Str) : Prop := ∃ (C f dx : Addr) (fd : FuncData) (sp : Sp) (fs : List (Str × V)), FnOk X.prog X.w X.K X.mg X.base CX0 n f fd ["self"] sp ∧ Binds X.K fd ["self"] [] ∧ PySem.W.findIn X.K (.ref C) "__repr__" = some (some (.ref f)) ∧ PySem.W.isFn X.K (.ref f) = true ∧
  H a = some (.ins C dx fs) ∧ ∀ H1, Same H H1 → sp [.ref a] H1 (fun v H2 => v = .str t ∧ Same H1 H2) E0
theorem RpI.same {H' : Hp} {a : Addr} {t : Str} (h : RpI X n H a t) (s' : Same H H') : RpI X n H' a t := by
  obtain ⟨C, f, dx, fd, sp, fs, h1, h2, h3, h4, h5, h6⟩ := h
  exact ⟨C, f, dx, fd, sp, fs, h1, h2, h3, h4, s' _ _ h5, fun H1 s1 => h6 H1 (s'.trans s1)⟩
theorem RpI.call {a : Addr} {t : Str} (h : RpI X n H a t) (sb : Sub X n A) (I : Inv X pins σ H s) : ∃ (C f : Addr) (ox : Obj) (od : Option Obj), PySem.W.InstAt s.heap a ox C od ∧ PySem.W.findIn X.K (.ref C) "__repr__" = some (some (.ref f)) ∧ PySem.W.isFn X.K (.ref f) = true ∧
    wpAny (model X.prog X.w) A (call (.ref f) [.ref a]) (fun w s' => ∃ u H', w = .str t u ∧ Inv X pins σ H' s' ∧ Same H H') E s := by
  obtain ⟨C, f, dx, fd, sp, fs, h1, h2, h3, h4, h5, h6⟩ := h
  obtain ⟨mA, J, _⟩ := ins_get I.hok h5
  obtain ⟨od, J, _⟩ := J.look
  refine ⟨C, f, _, _, J, h3, h4, wpAny_mono (run_ownQ h1 h2 sb I (show Vals [V.ref a] [Value.ref a] from .cons rfl .nil) (h6 H (Same.refl _))) (fun w s' ⟨v, H', rv, I', ev, sm⟩ => ?_) fun _ _ e => e⟩
  subst ev
  obtain ⟨u, rfl⟩ := rv
  exact ⟨u, H', rfl, I', sm⟩
def rReprI (X : Cx) (n : Nat) : List V → Hp → VK → Prop := fun xs H Q => ∃ (a : Addr) (t : Str), xs = [.ref a] ∧ RpI X n H a t ∧ ∀ H', Same H H' → Q (.str t) H'
theorem call_reprI (hr : Room (n + 1) X.A) : CallR X (.builtin "repr") (rReprI X n) := by
  intro pins s σ H xs us Q I rels ask
  obtain ⟨a, t, rfl, rp, q⟩ := ask
  obtain ⟨u, rfl, rel⟩ := vals1 rels
  cases rel
  have sb : Sub X (n + 1) X.A := ⟨hr, rfl⟩
  obtain ⟨C, f, ox, od, J, h3, h4, run⟩ := rp.call (E := X.xe) sb.in1 I
  obtain ⟨m, hF⟩ := I.fr
  refine PySem.W.repr_K sb.in1.room.units0 hF I.ok.mod.kin J h3 h4 (wpAny_mono run (fun w s' ⟨u, H', ew, I', sm⟩ => ?_) fun _ _ e => e)
  subst ew
  exact ⟨.str t, H', I', ⟨u, rfl⟩, q H' sm⟩
theorem under_own {a : Addr} {t : Str} {b : Nat} (h : RpI X n H a t) (hb : b ≤ sizeLine) (sb : Sub X n A) (I : Inv X pins σ H s) : wpAny (model X.prog X.w) A (pyReprUnder b (.ref a)) (fun r s' => r = t ∧ ∃ H', Inv X pins σ H' s' ∧ Same H H') E s := by
  obtain ⟨C, f, ox, od, J, h3, h4, run⟩ := h.call (E := E) sb I
  refine wpAny_pyReprUnder_ref hb ?_
  unfold pyReprObjUnder pyReprObjBy
  refine wpAny_bind (wpAny_cRoomFor sb.room.units0 ?_)
  have look : PySem.W.Looks (model X.prog X.w) s.heap (specialOf (.ref a) "__repr__") (some (.ref f)) := J.type.andThen (PySem.W.looks_findIn I.kIn h3)
  refine wpAny_bind (look.here ?_)
  refine wpAny_bind ?_
  simp only [callSpecialIfBoundBy?, bindSpecialIfBound?]
  refine wpAny_holding (wpAny_bind (wpAny_bind (look.here ?_)))
  refine wpAny_bind (wpAny_askSetting (wpAny_ite ?_))
  have fin : wpAny (model X.prog X.w) A (call (.ref f) ([.ref a] ++ []) >>= fun v => pure (some v)) (fun r s' => wpAny (model X.prog X.w) A (match r with
      | some r => do
        if ← isInstance r (.type "str") then pure r else raiseError "TypeError" s!"__repr__ returned non-string (type {← typeNameOf r})"
      | none => unsupported "repr:special-get-raises") (fun v s' => ∃ x u, v = .str x u ∧ x = t ∧ ∃ H', Inv X pins σ H' s' ∧ Same H H') E s') E s := by
    refine wpAny_bind (wpAny_mono run (fun w s' ⟨u, H', ew, I', sm⟩ => wpAny_pure ?_) fun _ _ e => e)
    subst ew
    exact wpAny_bind (wpAny_isInstance (T := "str") (b := true) rfl isSubtype_str_str (wpAny_pure ⟨_, _, rfl, rfl, H', I', sm⟩))
  split
  · exact wpAny_bind ((PySem.W.bind_fn I.kIn _ (beq_iff_eq.mp h4)).here (wpAny_pure (by exact fin)))
  · exact wpAny_tryCatch (wpAny_bind ((PySem.W.bind_fn I.kIn _ (beq_iff_eq.mp h4)).here (wpAny_pure (by exact fin))))
end
end WB

set_option Elab.async false
set_option linter.all false
set_option maxRecDepth 100000
set_option maxHeartbeats 4000000
namespace WB
open PySem PySem.Spec PyProof.Rows L2 WG
open Builtin Builtin.List
open TL (tl)
theorem vals_texts : ∀ {ts : List Str} {its : List Value}, Vals (ts.map V.str) its → ∃ done : List (Str × Tok), its = strValues done ∧ done.map (·.1) = ts
  | [], _, .nil => ⟨[], rfl, rfl⟩
  | t :: r, _, .cons h1 h2 => by
    obtain ⟨u, rfl⟩ := h1
    obtain ⟨done, rfl, e⟩ := vals_texts h2
    exact ⟨(t, u) :: done, rfl, by rw [List.map_cons, e]⟩
section
variable {X : Cx} {pins : List (Addr × Obj)} {σ : L2.St} {H : Hp} {A : Around} {n : Nat}
theorem sub_loop {args : Args} (sb : Sub X (n + 1) A) : Sub X n (A.under (.builtin "list.__repr__.loop" args)) := by
  refine ⟨⟨?_, ?_, ?_⟩, ?_⟩
  · have := sb.room.hd
    first | exact this | simpa [Around.under] using this
  · have h1 := sb.room.dp
    have h2 : (A.under (.builtin "list.__repr__.loop" args)).depth ≤ A.depth + 1 := by
      first
      | exact Nat.le_succ _
      | exact Nat.le_refl _
      | simp [Around.under, Code.weight, Code.isCreation, Code.isGuard, Code.isCaller, Code.frames, Code.isFrame, guardIds]
    omega
  · have h1 := sb.room.un
    rw [units_under_list_loop]
    omega
  · have := sb.fr
    first | exact this | simpa [Around.under, Code.frames, Code.isFrame] using this
/-- the turns of a list's repr, its items instances -/
theorem loopI {R : Result → Shared → Prop} {l P : Addr} {as : List Addr} {ts : List Str} (sb : Sub X (n + 1) A) (hlp : l ≠ P) (el : H l = some (.lst (as.map V.ref))) (hlen : ts.length = as.length) (hT : ∀ (i : Nat) (a : Addr), as[i]? = some a → ∃ t, ts[i]? = some t ∧ RpI X n H a t) (hsz : (listText ts).length ≤ sizeLine)
    (hR : ∀ s' u H', Inv X pins σ H' s' → Same H H' → R (.ok (.ret (.str (listText ts) u))) s') :
    ∀ (k i : Nat) (s : Shared) (Hi : Hp), as.length - i = k → i ≤ as.length → Inv X pins σ Hi s → Same H Hi → H P = none → Hi P = some (.lst ((ts.take i).map V.str)) →
      codeAny (model X.prog X.w) A (.builtin "list.__repr__.loop" ⟨[.ref l, rawInt i, .ref P, rawInt ((piled (ts.take i) : Nat) : Int)], []⟩) R s := by
  have hX : (listText ts).length = (textFrom 0 "[" ts).length + 1 := by
    show (textFrom 0 "[" ts ++ "]").length = _
    rw [strLen_append]
    rfl
  have hL := textFrom_len ts 0 "["
  have many : as.length ≤ sizeLine := by
    have h1 := hL.1
    rw [if_neg (Nat.lt_irrefl 0)] at h1
    omega
  have short : ∀ t ∈ ts, t.length ≤ sizeLine := fun t ht => by
    have h2 := hL.2.1 t ht
    omega
  have pile := piled_le_listText ts
  intro k
  induction k with
  | zero =>
    intro i s Hi hk hi I sm hPn eP
    have hin : i = as.length := by omega
    obtain ⟨its, rv, ⟨o, no, ho, hc, hdx, hd⟩, _⟩ := I.list (SqL.of (sm _ _ el))
    obtain ⟨_, jts, nP, rP, gP⟩ := (show ObjOk _ _ Hi s.heap P (.lst _) from I.hok P _ eP)
    obtain ⟨done, rfl, ed⟩ := vals_texts rP
    have il : its.length = as.length := by
      have := rv.length
      rw [List.length_map] at this
      exact this.symm
    refine codeAny_builtin F.entry_list_repr_loop ?_
    show wpAny _ _ («list.__repr__.loop» ⟨[.ref l, .int i 0, .ref P, .int ((piled (ts.take i) : Nat) : Int) 0], []⟩) _ _ s
    rw [repr_loop_tree]
    refine wpAny_bind (wpAny_listItems ho hd ?_)
    have hnone : its.toArray[(i : Int).toNat]? = none := by simp; omega
    simp only [hnone]
    unfold reprEnd
    refine wpAny_bind (wpAny_listItems gP rfl ?_)
    show wpAny _ _ (forIn (strValues done).zipIdx _ reprBody >>= _) _ _ _
    rw [repr_fold]
    refine wpAny_bind (wpAny_pure ?_)
    rw [ed, hin, ← hlen, List.take_length]
    exact wpAny_bind (wpAny_mkStr (wpAny_pure (hR _ _ Hi (I.tok _) sm)) hsz)
  | succ k ih =>
    intro i s Hi hk hi I sm hPn eP
    have lt : i < as.length := by omega
    obtain ⟨its, rv, ⟨o, no, ho, hc, hdx, hd⟩, _⟩ := I.list (SqL.of (sm _ _ el))
    obtain ⟨t, ht, rp⟩ := hT i as[i] (List.getElem?_eq_getElem lt)
    have ea : (as.map V.ref)[i]? = some (.ref as[i]) := by rw [List.getElem?_map, List.getElem?_eq_getElem lt]; rfl
    obtain ⟨u, eu, ru⟩ := rv.get ea
    cases ru
    have step := piled_take_succ ht
    have most := piled_take_le ts (i + 1)
    refine codeAny_builtin F.entry_list_repr_loop ?_
    show wpAny _ _ («list.__repr__.loop» ⟨[.ref l, .int i 0, .ref P, .int ((piled (ts.take i) : Nat) : Int) 0], []⟩) _ _ s
    rw [repr_loop_tree]
    refine wpAny_bind (wpAny_listItems ho hd ?_)
    have hsome : its.toArray[(i : Int).toNat]? = some (.ref as[i]) := by simpa using eu
    simp only [hsome]
    rw [Int.toNat_natCast]
    refine wpAny_bind (wpAny_holding (wpAny_mono (under_own (rp.same sm) (by omega) (sub_loop sb) I) (fun r s2 ⟨er, H2, I2, sm2⟩ => ?_) fun _ _ e => e))
    subst er
    refine wpAny_bind (wpAny_mkStr ?_ (short r (List.mem_of_getElem? ht)))
    refine wpAny_bind ?_
    show wpAny _ _ (updateSeq P _) _ _ _
    have eP2 := sm2 _ _ eP
    obtain ⟨zl, jts, nP, rP, gP⟩ := (show ObjOk _ _ H2 s2.heap P (.lst _) from I2.hok P _ eP2)
    have jl := rP.length
    rw [List.length_map, List.length_take] at jl
    refine wpAny_updateSeq (s := { s2 with toks := s2.toks + 1 }) gP rfl (wpAny_pure ⟨F.quiet_list_repr_loop _, ?_⟩) (by rw [List.size_toArray]; omega)
    have e1 : ((i : Int) + 1) = ((i + 1 : Nat) : Int) := by omega
    have e2 : piled (ts.take i) + (r.length + 2) = piled (ts.take (i + 1)) := by omega
    rw [e1, e2]
    have I3 : Inv X pins σ (upd H2 P (.lst ((ts.take i).map V.str ++ [.str r]))) { s2 with heap := s2.heap.update P (Obj.mapSeq fun xs => xs.push (.str r s2.toks)), toks := s2.toks + 1 } :=
      I2.lset (its' := jts ++ [.str r s2.toks]) eP2 gP (by simp) (rP.append (.cons ⟨_, rfl⟩ .nil)) (by rw [List.length_append, List.length_map, List.length_take]; show _ + 1 ≤ _; omega)
    refine ih (i + 1) _ _ (by omega) lt I3 (fun b ob e => ?_) hPn ?_
    · rw [upd_ne (ne_of_none e hPn)]
      exact sm2 _ _ (sm _ _ e)
    · rw [upd_same, List.take_add_one, ht, List.map_append]
      rfl
def rReprIs (X : Cx) (n : Nat) : List V → Hp → VK → Prop := fun xs H Q => ∃ (l : Addr) (as : List Addr) (ts : List Str), xs = [.ref l] ∧ H l = some (.lst (as.map V.ref)) ∧ as ≠ [] ∧ ts.length = as.length ∧ (∀ (i : Nat) (a : Addr), as[i]? = some a → ∃ t, ts[i]? = some t ∧ RpI X n H a t) ∧ (listText ts).length ≤ sizeLine ∧ ∀ H', Same H H' → Q (.str (listText ts)) H'
/-- repr of a list of instances -/
theorem call_reprIs (hg : X.A.guards = some []) (hr : Room (n + 2) X.A) : CallR X (.builtin "repr") (rReprIs X n) := by
  intro pins s σ H xs us Q I rels ask
  obtain ⟨l, as, ts, rfl, el, ne, hlen, hT, hsz, q⟩ := ask
  obtain ⟨u, rfl, rel⟩ := vals1 rels
  cases rel
  have sb : Sub X (n + 2) X.A := ⟨hr, rfl⟩
  obtain ⟨its, rv, ⟨o, no, ho, hc, hdx, hd⟩, _⟩ := I.list (SqL.of el)
  cases its with
  | nil =>
    have := rv.length
    rw [List.length_map] at this
    exact absurd (List.length_eq_zero_iff.mp this) ne
  | cons x xl =>
    refine call_repr_slot (T := "list") (idr := "list.__repr__") (by have := hr.un; omega) ⟨o, ho, hc⟩ F.slot_list_repr.toG ?_
    refine wpAny_call (codeAny_call_builtin F.slot_list_repr.plain F.entry_list_repr (F.slot_list_repr.check _ _ _ _ _ _ _ _ ⟨o, ho, hc⟩ (F.args_list_repr_1 _) ?_))
    refine wpAny_list_repr_head (A := X.A.in1.in1) (g := []) (b := 0) hg (fun v rest kw hm => nomatch hm) ho hd ?_
    refine wpAny_bind (m := newList []) (wpAny_newObj_type ?_)
    refine wpAny_pure ⟨F.quiet_list_repr_loop _, ?_⟩
    have hPn : H s.heap.objs.size = none := I.hok.fresh (Nat.le_refl _)
    have lt : l < s.heap.objs.size := Heap.lt_size ho
    have I1 : Inv X pins σ (upd H s.heap.objs.size (.lst [])) { s with heap := s.heap.push { cls := .type "list", data := .seq ([] : List Value).toArray }, toks := s.toks } := I.lnew .nil (Nat.zero_le _)
    exact loopI (R := callEnd _ _) sb.in1 (Nat.ne_of_lt lt) el hlen hT hsz (fun s' u H' I' sm => ⟨_, _, rfl, .str _, H', I', ⟨u, rfl⟩, q H' sm⟩) _ 0 _ _ rfl (Nat.zero_le _) I1 (same_upd hPn) hPn upd_same
end
end WB

set_option Elab.async false
set_option linter.all false
set_option maxRecDepth 100000
set_option maxHeartbeats 4000000
namespace WB
open PySem PySem.Spec PyProof.Rows L2 WG
open TL (tl)
abbrev st_is_list_within : Stmt := topS 30
theorem sc_is_list_within : FnScope ["value", "most"] ["value", "most"] (defScope st_is_list_within) := ⟨rfl, rfl, rfl, by decide +kernel, rfl, by decide +kernel, by decide +kernel⟩
abbrev st_are_options : Stmt := topS 51
theorem sc_are_options : FnScope ["value", "each"] ["value"] (defScope st_are_options) := ⟨rfl, rfl, rfl, by decide +kernel, rfl, by decide +kernel, by decide +kernel⟩
abbrev st_are_places : Stmt := topS 52
theorem sc_are_places : FnScope ["value", "each"] ["value"] (defScope st_are_places) := ⟨rfl, rfl, rfl, by decide +kernel, rfl, by decide +kernel, by decide +kernel⟩
abbrev st_is_group : Stmt := topS 53
theorem sc_is_group : FnScope ["value", "each"] ["value"] (defScope st_is_group) := ⟨rfl, rfl, rfl, by decide +kernel, rfl, by decide +kernel, by decide +kernel⟩
abbrev st_are_groups : Stmt := topS 54
theorem sc_are_groups : FnScope ["value", "each"] ["value"] (defScope st_are_groups) := ⟨rfl, rfl, rfl, by decide +kernel, rfl, by decide +kernel, by decide +kernel⟩
abbrev st_are_commands : Stmt := topS 55
theorem sc_are_commands : FnScope ["value", "each"] ["value"] (defScope st_are_commands) := ⟨rfl, rfl, rfl, by decide +kernel, rfl, by decide +kernel, by decide +kernel⟩
abbrev st_empty_for_none : Stmt := topS 56
theorem sc_empty_for_none : FnScope ["value"] ["value"] (defScope st_empty_for_none) := ⟨rfl, rfl, rfl, by decide +kernel, rfl, by decide +kernel, by decide +kernel⟩
abbrev st_copied_groups : Stmt := topS 57
theorem sc_copied_groups : FnScope ["groups", "group"] ["groups"] (defScope st_copied_groups) := ⟨rfl, rfl, rfl, by decide +kernel, rfl, by decide +kernel, by decide +kernel⟩
/-! ### things that may be handed in to a command -/
def isL (H : Hp) : V → Bool
  | .ref a => match H a with
    | some (.lst _) => true
    | _ => false
  | _ => false
def its (H : Hp) : V → List V
  | .ref a => match H a with
    | some (.lst xs) => xs
    | _ => []
  | _ => []
def isC (H : Hp) (C : Addr) : V → Bool
  | .ref a => match H a with
    | some (.ins D _ _) => decide (D = C)
    | _ => false
  | _ => false
inductive Wf (Cs : List Addr) (H : Hp) : V → Prop
  | non : Wf Cs H .non
  | bl (b : Bool) : Wf Cs H (.bl b)
  | int (i : Int) : Wf Cs H (.int i)
  | str {z : Str} (h : Tx 300 z) : Wf Cs H (.str z)
  | lst {a : Addr} {xs : List V} (e : H a = some (.lst xs)) (le : xs.length ≤ 1000) (h : ∀ x ∈ xs, Wf Cs H x) : Wf Cs H (.ref a)
  | tup {a : Addr} {xs : List V} (e : H a = some (.tup xs)) : Wf Cs H (.ref a)
  | dic {a : Addr} {kvs : List (Key × V)} (e : H a = some (.dK kvs)) : Wf Cs H (.ref a)
  | ins {a C dx : Addr} {fs : List (Str × V)} (e : H a = some (.ins C dx fs)) (c : C ∈ Cs) : Wf Cs H (.ref a)
def allT : List String := ["NoneType", "bool", "int", "str", "list", "tuple", "dict"]
structure Cl3 (K : PySem.W.Frag) (Cs : List Addr) : Prop where
  cl : ∀ c ∈ Cs, Cls K c
  isi : ∀ c ∈ Cs, IsiC K c
  kT : ∀ T ∈ allT, ∀ c ∈ Cs, PySem.W.kitOne K (.type T) (.ref c) = some false
  kC : ∀ d ∈ Cs, ∀ c ∈ Cs, PySem.W.kitOne K (.ref d) (.ref c) = some (decide (d = c))
  kS : ∀ d ∈ Cs, PySem.W.kitOne K (.ref d) (.type "str") = some false
  kL : ∀ d ∈ Cs, PySem.W.kitOne K (.ref d) (.type "list") = some false
theorem isL_lst {H : Hp} {a : Addr} {xs : List V} (e : H a = some (.lst xs)) : isL H (.ref a) = true ∧ its H (.ref a) = xs := by
  unfold isL its
  simp only [e]
  exact ⟨trivial, trivial⟩
theorem Wf.ty {K : PySem.W.Frag} {Cs : List Addr} {H : Hp} {v : V} (c : Cl3 K Cs) (h : Wf Cs H v) : ∃ t, TyX K H v t ∧ (∀ D ∈ Cs, PySem.W.kitOne K t (.ref D) = some (isC H D v)) ∧ PySem.W.kitOne K t (.type "list") = some (isL H v) ∧ PySem.W.kitOne K t (.type "str") = some (isS v) := by
  cases h with
  | non => exact ⟨_, .base .non, c.kT _ (by decide), kit_ty (show kitB "NoneType" "list" = some false from by decide +kernel), kit_ty (show kitB "NoneType" "str" = some false from by decide +kernel)⟩
  | bl b => exact ⟨_, .base (.bl b), c.kT _ (by decide), kit_ty (show kitB "bool" "list" = some false from by decide +kernel), kit_ty (show kitB "bool" "str" = some false from by decide +kernel)⟩
  | int i => exact ⟨_, .base (.int i), c.kT _ (by decide), kit_ty (show kitB "int" "list" = some false from by decide +kernel), kit_ty (show kitB "int" "str" = some false from by decide +kernel)⟩
  | str h => exact ⟨_, .base (.str _), c.kT _ (by decide), kit_ty (show kitB "str" "list" = some false from by decide +kernel), kit_ty (show kitB "str" "str" = some true from by decide +kernel)⟩
  | lst e le h =>
    refine ⟨_, .base (.lst e), fun D hD => ?_, ?_, kit_ty (show kitB "list" "str" = some false from by decide +kernel)⟩
    · rw [show isC H D (.ref _) = false from by unfold isC; simp only [e]]
      exact c.kT _ (by decide) D hD
    · rw [(isL_lst e).1]
      exact kit_ty (show kitB "list" "list" = some true from by decide +kernel)
  | tup e =>
    refine ⟨_, .base (.tup e), fun D hD => ?_, ?_, kit_ty (show kitB "tuple" "str" = some false from by decide +kernel)⟩
    · rw [show isC H D (.ref _) = false from by unfold isC; simp only [e]]
      exact c.kT _ (by decide) D hD
    · rw [show isL H (.ref _) = false from by unfold isL; simp only [e]]
      exact kit_ty (show kitB "tuple" "list" = some false from by decide +kernel)
  | dic e =>
    refine ⟨_, .base (.dK e), fun D hD => ?_, ?_, kit_ty (show kitB "dict" "str" = some false from by decide +kernel)⟩
    · rw [show isC H D (.ref _) = false from by unfold isC; simp only [e]]
      exact c.kT _ (by decide) D hD
    · rw [show isL H (.ref _) = false from by unfold isL; simp only [e]]
      exact kit_ty (show kitB "dict" "list" = some false from by decide +kernel)
  | @ins a C dx fs e hc =>
    have i := c.isi C hc
    refine ⟨_, .base (.ins e (c.cl C hc) i.ca i.cn i.ct i.cm), fun D hD => ?_, ?_, c.kS C hc⟩
    · rw [show isC H D (.ref a) = decide (C = D) from by unfold isC; simp only [e]]
      exact c.kC C hc D hD
    · rw [show isL H (.ref a) = false from by unfold isL; simp only [e]]
      exact c.kL C hc
theorem Wf.same {Cs : List Addr} {H H' : Hp} {v : V} (h : Wf Cs H v) (s : Same H H') : Wf Cs H' v := by
  induction h with
  | non => exact .non
  | bl b => exact .bl b
  | int i => exact .int i
  | str h => exact .str h
  | lst e le h ih => exact .lst (s _ _ e) le ih
  | tup e => exact .tup (s _ _ e)
  | dic e => exact .dic (s _ _ e)
  | ins e c => exact .ins (s _ _ e) c
theorem Wf.at_ {Cs : List Addr} {H H' : Hp} {v : V} (h : Wf Cs H v) (s : Same H H') : isL H' v = isL H v ∧ its H' v = its H v ∧ ∀ D, isC H' D v = isC H D v := by
  cases h with
  | non => exact ⟨rfl, rfl, fun _ => rfl⟩
  | bl b => exact ⟨rfl, rfl, fun _ => rfl⟩
  | int i => exact ⟨rfl, rfl, fun _ => rfl⟩
  | str h => exact ⟨rfl, rfl, fun _ => rfl⟩
  | lst e le h => exact ⟨by rw [(isL_lst e).1, (isL_lst (s _ _ e)).1], by rw [(isL_lst e).2, (isL_lst (s _ _ e)).2], fun D => by unfold isC; simp only [e, s _ _ e]⟩
  | tup e => exact ⟨by unfold isL; simp only [e, s _ _ e], by unfold its; simp only [e, s _ _ e], fun D => by unfold isC; simp only [e, s _ _ e]⟩
  | dic e => exact ⟨by unfold isL; simp only [e, s _ _ e], by unfold its; simp only [e, s _ _ e], fun D => by unfold isC; simp only [e, s _ _ e]⟩
  | ins e c => exact ⟨by unfold isL; simp only [e, s _ _ e], by unfold its; simp only [e, s _ _ e], fun D => by unfold isC; simp only [e, s _ _ e]⟩
theorem Wf.items {Cs : List Addr} {H : Hp} {v : V} (h : Wf Cs H v) : (its H v).length ≤ 1000 ∧ ∀ x ∈ its H v, Wf Cs H x := by
  cases h with
  | lst e le h => rw [(isL_lst e).2]; exact ⟨le, h⟩
  | tup e => unfold its; simp only [e]; exact ⟨by decide, fun x hx => by cases hx⟩
  | dic e => unfold its; simp only [e]; exact ⟨by decide, fun x hx => by cases hx⟩
  | ins e c => unfold its; simp only [e]; exact ⟨by decide, fun x hx => by cases hx⟩
  | _ => exact ⟨Nat.zero_le _, fun x hx => by cases hx⟩
theorem Wf.list {Cs : List Addr} {H : Hp} {v : V} (h : Wf Cs H v) (l : isL H v = true) : ∃ a, v = .ref a ∧ H a = some (.lst (its H v)) := by
  cases h with
  | lst e le h => exact ⟨_, rfl, by rw [(isL_lst e).2]; exact e⟩
  | tup e => unfold isL at l; simp only [e] at l; cases l
  | dic e => unfold isL at l; simp only [e] at l; cases l
  | ins e c => unfold isL at l; simp only [e] at l; cases l
  | _ => cases l
def lok (H : Hp) (m : Nat) (g : V → Bool) (v : V) : Bool := isL H v && decide ((its H v).length ≤ m) && (its H v).all g
def grp (H : Hp) (v : V) : Bool := isL H v && decide ((its H v).length ≤ 6) && decide (2 ≤ (its H v).length) && (its H v).all isS
theorem Wf.grp {Cs : List Addr} {H H' : Hp} {v : V} (h : Wf Cs H v) (s : Same H H') : WB.grp H' v = WB.grp H v := by
  obtain ⟨e1, e2, _⟩ := h.at_ s
  unfold WB.grp
  rw [e1, e2]
section
variable {P : Program} {w : World} {K : PySem.W.Frag} {mg : Str → Option Value} {base : Heap} {Cs : List Addr}
def spLW (Cs : List Addr) : Sp := fun xs H Q _ => ∃ (v : V) (m : Nat), xs = [v, .int m] ∧ Wf Cs H v ∧ Q (.bl (isL H v && decide ((its H v).length ≤ m))) H
theorem ok_listWithin {f : Addr} {fd : FuncData} {k : Nat} (c : Cl3 K Cs) (F : Fun K "is_list_within" "is_list_within" st_is_list_within f fd) (m_len : mg "len" = none) (m_list : mg "list" = none) (m_isinstance : mg "isinstance" = none) :
    FnOk P w K mg base CX0 (k + 1) f fd ["value", "most"] (spLW Cs) := by
  refine F.ok sc_is_list_within (fun vs H Q E h => ?_) (fun cdv A outer s H vs Q E hr h => ?_)
  · obtain ⟨v, m, rfl, _⟩ := h
    rfl
  · obtain ⟨v, m, rfl, hv, q⟩ := h
    refine ⟨_, pss_one (ps_ret (pe_and (pe_callB call_isi (by rfl) m_isinstance (by decide +kernel) (pa_cons (pv 0) (pa_cons (pe_bltn (v := .ty "list") (by rfl) m_list (by decide +kernel) rfl) pa_nil))) (pe_one (pe_cmpR op_le (pe_callB call_len_seq (by rfl) m_len PySem.boot_len (pa_cons (pv 0) pa_nil)) (pv 1) (nomark _))))), ?_⟩
    obtain ⟨t, ht, _, hl, _⟩ := hv.ty c
    refine ⟨v, rfl, v, _, t, _, isL H v, rfl, ClsV.ty "list", ht, hl, _, rfl, ?_⟩
    cases b : isL H v with
    | false =>
      rw [b] at q
      exact q
    | true =>
      rw [b] at q
      obtain ⟨a, rfl, ea⟩ := hv.list b
      refine ⟨_, rfl, a, _, rfl, .inl (SqL.of ea), _, rfl, _, _, rfl, rfl, ?_⟩
      show Q (.bl (decide (((its H (.ref a)).length : Int) ≤ (m : Int)))) H
      rw [show decide (((its H (.ref a)).length : Int) ≤ (m : Int)) = decide ((its H (.ref a)).length ≤ m) from decide_eq_decide.mpr (by omega)]
      exact q
def spAre (Cs : List Addr) (m : Nat) (g : Hp → V → Bool) : Sp := fun xs H Q _ => ∃ v, xs = [v] ∧ Wf Cs H v ∧ ∀ H', Same H H' → Q (.bl (lok H m (g H) v)) H'
theorem ok_areOptions {C f fL : Addr} {fd fdL : FuncData} {k : Nat} {u1 : Tok} (c : Cl3 K Cs) (hC : C ∈ Cs) (F : Fun K "are_options" "are_options" st_are_options f fd) (D_is_list_within : Df K mg "is_list_within" st_is_list_within ["value", "most"] fL fdL) (gO : mg "Option" = some (.ref C)) (c_OP : mg "MOST_OPTIONS" = some (.int 12 u1))
    (m_len : mg "len" = none) (m_list : mg "list" = none) (m_isinstance : mg "isinstance" = none) (m_all : mg "all" = none) : FnOk P w K mg base CX0 (k + 2) f fd ["value"] (spAre Cs 12 (fun H => isC H C)) := by
  have G_is_list_within : FnOk P w K mg base CX0 (k + 1) fL fdL ["value", "most"] (spLW Cs) := ok_listWithin c D_is_list_within.F m_len m_list m_isinstance
  refine F.ok sc_are_options (fun vs H Q E h => ?_) (fun cdv A outer s H vs Q E hr h => ?_)
  · obtain ⟨v, rfl, _⟩ := h
    rfl
  · obtain ⟨v, rfl, hv, q⟩ := h
    have sl : sizeLine = 16777216 := sizeLine_eq
    refine ⟨_, pss_one (ps_ret (pe_and (pe_call G_is_list_within hr (by rfl) D_is_list_within.g D_is_list_within.F.kp D_is_list_within.b .nil pass0 (pa_cons (pv 0) (pa_cons (pe_glob (v := .int 12) rfl c_OP ⟨_, rfl⟩) pa_nil))) (pe_one (pe_callB (cr_all rfl) (by rfl) m_all (by decide +kernel) (pa_cons (pe_lc (own := [("each", 1)]) (g := gName 1) (tt := tYes) rfl sc_are_options.nd (pi_list (pv 0)) (blkOk_by (N := ["value", "each"]) (sc := defScope st_are_options) (by decide +kernel)) (fun _ _ _ _ _ => (pg_name (i := 1) sc_are_options.nd rfl (Or.inl rfl))) (fun _ _ _ _ _ => pts_nil) (fun _ _ _ _ _ => (pe_callB (r := rIsi K) call_isi (by rfl) m_isinstance (by decide +kernel) (pa_cons (pv 1) (pa_cons (pe_glob (v := .ref C) rfl gO rfl) pa_nil))))) pa_nil))))), ?_⟩
    refine ⟨v, rfl, v, 12, rfl, hv, _, rfl, ?_⟩
    unfold lok at q
    cases b : (isL H v && decide ((its H v).length ≤ 12)) with
    | false =>
      rw [b] at q
      exact q _ (Same.refl _)
    | true =>
      rw [b] at q
      obtain ⟨b1, b2⟩ := Bool.and_eq_true_iff.mp b
      obtain ⟨a, rfl, ea⟩ := hv.list b1
      obtain ⟨le, hw⟩ := hv.items
      revert q
      generalize its H (.ref a) = ys at *
      intro q
      refine ⟨.ref a, rfl, a, rfl, ⟨_, SqL.of ea⟩, fun D nD => ?_⟩
      refine lc_list (K := K) (a := a) (xs := ys) (fun i Hc => Same H Hc ∧ Hc D = some (.lst (((ys.take i).map (isC H C)).map V.bl))) ⟨same_upd nD, upd_same⟩ (fun i Hc _ h => SqL.of (h.1 _ _ ea)) (fun i x Hc hx ⟨sc, eD⟩ => ?_) (fun Hc ⟨sc, eD⟩ => ?_)
      · have wx := hw x (List.mem_of_getElem? hx)
        obtain ⟨t, ht, hk, _⟩ := (wx.same sc).ty c
        refine ⟨rfl, x, rfl, x, _, t, _, _, rfl, ClsV.own C, ht, hk C hC, _, eD, ?_, ?_, ?_⟩
        · rw [List.length_map, List.length_map, List.length_take]
          omega
        · intro b o e
          rw [upd_ne (ne_of_none e nD)]
          exact sc b o e
        · rw [upd_same, (wx.at_ sc).2.2, List.take_add_one, hx, List.map_append, List.map_append]
          rfl
      · refine ⟨D, _, rfl, SqL.of eD, ?_⟩
        rw [List.take_length, List.all_map]
        exact q _ sc
end
end WB

set_option Elab.async false
set_option linter.all false
set_option maxRecDepth 100000
set_option maxHeartbeats 4000000
namespace WB
open PySem PySem.Spec PyProof.Rows L2 WG
open TL (tl)
section
variable {P : Program} {w : World} {K : PySem.W.Frag} {mg : Str → Option Value} {base : Heap} {Cs : List Addr}
theorem ok_arePlaces {C f fL : Addr} {fd fdL : FuncData} {k : Nat} {u1 : Tok} (c : Cl3 K Cs) (hC : C ∈ Cs) (F : Fun K "are_places" "are_places" st_are_places f fd) (D_is_list_within : Df K mg "is_list_within" st_is_list_within ["value", "most"] fL fdL) (gP : mg "Place" = some (.ref C)) (c_PL : mg "MOST_PLACES" = some (.int 6 u1))
    (m_len : mg "len" = none) (m_list : mg "list" = none) (m_isinstance : mg "isinstance" = none) (m_all : mg "all" = none) : FnOk P w K mg base CX0 (k + 2) f fd ["value"] (spAre Cs 6 (fun H => isC H C)) := by
  have G_is_list_within : FnOk P w K mg base CX0 (k + 1) fL fdL ["value", "most"] (spLW Cs) := ok_listWithin c D_is_list_within.F m_len m_list m_isinstance
  refine F.ok sc_are_places (fun vs H Q E h => ?_) (fun cdv A outer s H vs Q E hr h => ?_)
  · obtain ⟨v, rfl, _⟩ := h
    rfl
  · obtain ⟨v, rfl, hv, q⟩ := h
    have sl : sizeLine = 16777216 := sizeLine_eq
    refine ⟨_, pss_one (ps_ret (pe_and (pe_call G_is_list_within hr (by rfl) D_is_list_within.g D_is_list_within.F.kp D_is_list_within.b .nil pass0 (pa_cons (pv 0) (pa_cons (pe_glob (v := .int 6) rfl c_PL ⟨_, rfl⟩) pa_nil))) (pe_one (pe_callB (cr_all rfl) (by rfl) m_all (by decide +kernel) (pa_cons (pe_lc (own := [("each", 1)]) (g := gName 1) (tt := tYes) rfl sc_are_places.nd (pi_list (pv 0)) (blkOk_by (N := ["value", "each"]) (sc := defScope st_are_places) (by decide +kernel)) (fun _ _ _ _ _ => (pg_name (i := 1) sc_are_places.nd rfl (Or.inl rfl))) (fun _ _ _ _ _ => pts_nil) (fun _ _ _ _ _ => (pe_callB (r := rIsi K) call_isi (by rfl) m_isinstance (by decide +kernel) (pa_cons (pv 1) (pa_cons (pe_glob (v := .ref C) rfl gP rfl) pa_nil))))) pa_nil))))), ?_⟩
    refine ⟨v, rfl, v, 6, rfl, hv, _, rfl, ?_⟩
    unfold lok at q
    cases b : (isL H v && decide ((its H v).length ≤ 6)) with
    | false =>
      rw [b] at q
      exact q _ (Same.refl _)
    | true =>
      rw [b] at q
      obtain ⟨b1, b2⟩ := Bool.and_eq_true_iff.mp b
      obtain ⟨a, rfl, ea⟩ := hv.list b1
      obtain ⟨le, hw⟩ := hv.items
      revert q
      generalize its H (.ref a) = ys at *
      intro q
      refine ⟨.ref a, rfl, a, rfl, ⟨_, SqL.of ea⟩, fun D nD => ?_⟩
      refine lc_list (K := K) (a := a) (xs := ys) (fun i Hc => Same H Hc ∧ Hc D = some (.lst (((ys.take i).map (isC H C)).map V.bl))) ⟨same_upd nD, upd_same⟩ (fun i Hc _ h => SqL.of (h.1 _ _ ea)) (fun i x Hc hx ⟨sc, eD⟩ => ?_) (fun Hc ⟨sc, eD⟩ => ?_)
      · have wx := hw x (List.mem_of_getElem? hx)
        obtain ⟨t, ht, hk, _⟩ := (wx.same sc).ty c
        refine ⟨rfl, x, rfl, x, _, t, _, _, rfl, ClsV.own C, ht, hk C hC, _, eD, ?_, ?_, ?_⟩
        · rw [List.length_map, List.length_map, List.length_take]
          omega
        · intro b o e
          rw [upd_ne (ne_of_none e nD)]
          exact sc b o e
        · rw [upd_same, (wx.at_ sc).2.2, List.take_add_one, hx, List.map_append, List.map_append]
          rfl
      · refine ⟨D, _, rfl, SqL.of eD, ?_⟩
        rw [List.take_length, List.all_map]
        exact q _ sc
theorem ok_areCommands {C f fL : Addr} {fd fdL : FuncData} {k : Nat} {u1 : Tok} (c : Cl3 K Cs) (hC : C ∈ Cs) (F : Fun K "are_commands" "are_commands" st_are_commands f fd) (D_is_list_within : Df K mg "is_list_within" st_is_list_within ["value", "most"] fL fdL) (gC : mg "Command" = some (.ref C)) (c_CM : mg "MOST_COMMANDS" = some (.int 8 u1))
    (m_len : mg "len" = none) (m_list : mg "list" = none) (m_isinstance : mg "isinstance" = none) (m_all : mg "all" = none) : FnOk P w K mg base CX0 (k + 2) f fd ["value"] (spAre Cs 8 (fun H => isC H C)) := by
  have G_is_list_within : FnOk P w K mg base CX0 (k + 1) fL fdL ["value", "most"] (spLW Cs) := ok_listWithin c D_is_list_within.F m_len m_list m_isinstance
  refine F.ok sc_are_commands (fun vs H Q E h => ?_) (fun cdv A outer s H vs Q E hr h => ?_)
  · obtain ⟨v, rfl, _⟩ := h
    rfl
  · obtain ⟨v, rfl, hv, q⟩ := h
    have sl : sizeLine = 16777216 := sizeLine_eq
    refine ⟨_, pss_one (ps_ret (pe_and (pe_call G_is_list_within hr (by rfl) D_is_list_within.g D_is_list_within.F.kp D_is_list_within.b .nil pass0 (pa_cons (pv 0) (pa_cons (pe_glob (v := .int 8) rfl c_CM ⟨_, rfl⟩) pa_nil))) (pe_one (pe_callB (cr_all rfl) (by rfl) m_all (by decide +kernel) (pa_cons (pe_lc (own := [("each", 1)]) (g := gName 1) (tt := tYes) rfl sc_are_commands.nd (pi_list (pv 0)) (blkOk_by (N := ["value", "each"]) (sc := defScope st_are_commands) (by decide +kernel)) (fun _ _ _ _ _ => (pg_name (i := 1) sc_are_commands.nd rfl (Or.inl rfl))) (fun _ _ _ _ _ => pts_nil) (fun _ _ _ _ _ => (pe_callB (r := rIsi K) call_isi (by rfl) m_isinstance (by decide +kernel) (pa_cons (pv 1) (pa_cons (pe_glob (v := .ref C) rfl gC rfl) pa_nil))))) pa_nil))))), ?_⟩
    refine ⟨v, rfl, v, 8, rfl, hv, _, rfl, ?_⟩
    unfold lok at q
    cases b : (isL H v && decide ((its H v).length ≤ 8)) with
    | false =>
      rw [b] at q
      exact q _ (Same.refl _)
    | true =>
      rw [b] at q
      obtain ⟨b1, b2⟩ := Bool.and_eq_true_iff.mp b
      obtain ⟨a, rfl, ea⟩ := hv.list b1
      obtain ⟨le, hw⟩ := hv.items
      revert q
      generalize its H (.ref a) = ys at *
      intro q
      refine ⟨.ref a, rfl, a, rfl, ⟨_, SqL.of ea⟩, fun D nD => ?_⟩
      refine lc_list (K := K) (a := a) (xs := ys) (fun i Hc => Same H Hc ∧ Hc D = some (.lst (((ys.take i).map (isC H C)).map V.bl))) ⟨same_upd nD, upd_same⟩ (fun i Hc _ h => SqL.of (h.1 _ _ ea)) (fun i x Hc hx ⟨sc, eD⟩ => ?_) (fun Hc ⟨sc, eD⟩ => ?_)
      · have wx := hw x (List.mem_of_getElem? hx)
        obtain ⟨t, ht, hk, _⟩ := (wx.same sc).ty c
        refine ⟨rfl, x, rfl, x, _, t, _, _, rfl, ClsV.own C, ht, hk C hC, _, eD, ?_, ?_, ?_⟩
        · rw [List.length_map, List.length_map, List.length_take]
          omega
        · intro b o e
          rw [upd_ne (ne_of_none e nD)]
          exact sc b o e
        · rw [upd_same, (wx.at_ sc).2.2, List.take_add_one, hx, List.map_append, List.map_append]
          rfl
      · refine ⟨D, _, rfl, SqL.of eD, ?_⟩
        rw [List.take_length, List.all_map]
        exact q _ sc

def spGrp (Cs : List Addr) : Sp := fun xs H Q _ => ∃ v, xs = [v] ∧ Wf Cs H v ∧ ∀ H', Same H H' → Q (.bl (grp H v)) H'
theorem ok_isGroup {f fL : Addr} {fd fdL : FuncData} {k : Nat} {u1 u2 : Tok} (c : Cl3 K Cs) (F : Fun K "is_group" "is_group" st_is_group f fd) (D_is_list_within : Df K mg "is_list_within" st_is_list_within ["value", "most"] fL fdL) (c_IG : mg "MOST_IN_GROUP" = some (.int 6 u1)) (c_FG : mg "FEWEST_IN_GROUP" = some (.int 2 u2))
    (m_len : mg "len" = none) (m_list : mg "list" = none) (m_str : mg "str" = none) (m_isinstance : mg "isinstance" = none) (m_all : mg "all" = none) : FnOk P w K mg base CX0 (k + 2) f fd ["value"] (spGrp Cs) := by
  have G_is_list_within : FnOk P w K mg base CX0 (k + 1) fL fdL ["value", "most"] (spLW Cs) := ok_listWithin c D_is_list_within.F m_len m_list m_isinstance
  refine F.ok sc_is_group (fun vs H Q E h => ?_) (fun cdv A outer s H vs Q E hr h => ?_)
  · obtain ⟨v, rfl, _⟩ := h
    rfl
  · obtain ⟨v, rfl, hv, q⟩ := h
    have sl : sizeLine = 16777216 := sizeLine_eq
    refine ⟨_, pss_cons (ps_if (PW.pt (pw_or (pt_not (pt_val (pe_call G_is_list_within hr (by rfl) D_is_list_within.g D_is_list_within.F.kp D_is_list_within.b .nil pass0 (pa_cons (pv 0) (pa_cons (pe_glob (v := .int 6) rfl c_IG ⟨_, rfl⟩) pa_nil))))) (pw_or1 (pt_cmpR op_lt (pe_callB call_len_seq (by rfl) m_len PySem.boot_len (pa_cons (pv 0) pa_nil)) (pe_glob (v := .int 2) rfl c_FG ⟨_, rfl⟩) (nomark _))))) (pss_one (ps_ret pe_bl)) pss_nil)
      (pss_one (ps_ret (pe_callB (cr_all rfl) (by rfl) m_all (by decide +kernel) (pa_cons (pe_lc (own := [("each", 1)]) (g := gName 1) (tt := tYes) rfl sc_is_group.nd (pi_list (pv 0)) (blkOk_by (N := ["value", "each"]) (sc := defScope st_is_group) (by decide +kernel)) (fun _ _ _ _ _ => (pg_name (i := 1) sc_is_group.nd rfl (Or.inl rfl))) (fun _ _ _ _ _ => pts_nil) (fun _ _ _ _ _ => (pe_callB (r := rIsi K) call_isi (by rfl) m_isinstance (by decide +kernel) (pa_cons (pv 1) (pa_cons (pe_bltn (v := .ty "str") (by rfl) m_str (by decide +kernel) rfl) pa_nil))))) pa_nil)))), ?_⟩
    refine ⟨v, rfl, v, 6, rfl, hv, _, rfl, ?_⟩
    unfold grp at q
    cases b : (isL H v && decide ((its H v).length ≤ 6)) with
    | false =>
      rw [b] at q
      exact q _ (Same.refl _)
    | true =>
      rw [b] at q
      obtain ⟨b1, b2⟩ := Bool.and_eq_true_iff.mp b
      obtain ⟨a, rfl, ea⟩ := hv.list b1
      obtain ⟨le, hw⟩ := hv.items
      revert q
      generalize its H (.ref a) = ys at *
      intro q
      refine ⟨.ref a, rfl, a, _, rfl, .inl (SqL.of ea), _, _, rfl, rfl, _, rfl, ite2 (fun e => ?_) (fun e => ?_)⟩
      · have e' : (ys.length : Int) < 2 := of_decide_eq_true e
        rw [decide_eq_false (p := 2 ≤ ys.length) (by omega)] at q
        exact q _ (Same.refl _)
      · have e' : ¬ (ys.length : Int) < 2 := fun z => e (decide_eq_true z)
        rw [decide_eq_true (p := 2 ≤ ys.length) (by omega)] at q
        refine ⟨.ref a, rfl, a, rfl, ⟨_, SqL.of ea⟩, fun D nD => ?_⟩
        refine lc_list (K := K) (a := a) (xs := ys) (fun i Hc => Same H Hc ∧ Hc D = some (.lst (((ys.take i).map isS).map V.bl))) ⟨same_upd nD, upd_same⟩ (fun i Hc _ h => SqL.of (h.1 _ _ ea)) (fun i x Hc hx ⟨sc, eD⟩ => ?_) (fun Hc ⟨sc, eD⟩ => ?_)
        · have wx := hw x (List.mem_of_getElem? hx)
          obtain ⟨t, ht, _, _, hk⟩ := (wx.same sc).ty c
          refine ⟨rfl, x, rfl, x, _, t, _, _, rfl, ClsV.ty "str", ht, hk, _, eD, ?_, ?_, ?_⟩
          · rw [List.length_map, List.length_map, List.length_take]
            omega
          · intro b o e
            rw [upd_ne (ne_of_none e nD)]
            exact sc b o e
          · rw [upd_same, List.take_add_one, hx, List.map_append, List.map_append]
            rfl
        · refine ⟨D, _, rfl, SqL.of eD, ?_⟩
          rw [List.take_length, List.all_map]
          exact q _ sc
theorem ok_areGroups {f fL fG : Addr} {fd fdL fdG : FuncData} {k : Nat} {u1 u2 u3 : Tok} (c : Cl3 K Cs) (F : Fun K "are_groups" "are_groups" st_are_groups f fd) (D_is_list_within : Df K mg "is_list_within" st_is_list_within ["value", "most"] fL fdL) (D_is_group : Df K mg "is_group" st_is_group ["value"] fG fdG) (c_IG : mg "MOST_IN_GROUP" = some (.int 6 u1)) (c_FG : mg "FEWEST_IN_GROUP" = some (.int 2 u2)) (c_GR : mg "MOST_GROUPS" = some (.int 4 u3))
    (m_len : mg "len" = none) (m_list : mg "list" = none) (m_str : mg "str" = none) (m_isinstance : mg "isinstance" = none) (m_all : mg "all" = none) : FnOk P w K mg base CX0 (k + 3) f fd ["value"] (spAre Cs 4 grp) := by
  have G_is_list_within : FnOk P w K mg base CX0 (k + 2) fL fdL ["value", "most"] (spLW Cs) := ok_listWithin c D_is_list_within.F m_len m_list m_isinstance
  have G_is_group : FnOk P w K mg base CX0 (k + 2) fG fdG ["value"] (spGrp Cs) := ok_isGroup c D_is_group.F D_is_list_within c_IG c_FG m_len m_list m_str m_isinstance m_all
  refine F.ok sc_are_groups (fun vs H Q E h => ?_) (fun cdv A outer s H vs Q E hr h => ?_)
  · obtain ⟨v, rfl, _⟩ := h
    rfl
  · obtain ⟨v, rfl, hv, q⟩ := h
    have sl : sizeLine = 16777216 := sizeLine_eq
    refine ⟨_, pss_one (ps_ret (pe_and (pe_call G_is_list_within hr (by rfl) D_is_list_within.g D_is_list_within.F.kp D_is_list_within.b .nil pass0 (pa_cons (pv 0) (pa_cons (pe_glob (v := .int 4) rfl c_GR ⟨_, rfl⟩) pa_nil))) (pe_one (pe_callB (cr_all rfl) (by rfl) m_all (by decide +kernel) (pa_cons (pe_lc (own := [("each", 1)]) (g := gName 1) (tt := tYes) rfl sc_are_groups.nd (pi_list (pv 0)) (blkOk_by (N := ["value", "each"]) (sc := defScope st_are_groups) (by decide +kernel)) (fun _ _ _ _ _ => (pg_name (i := 1) sc_are_groups.nd rfl (Or.inl rfl))) (fun _ _ _ _ _ => pts_nil) (fun _ _ _ _ _ => (pe_call G_is_group hr (by rfl) D_is_group.g D_is_group.F.kp D_is_group.b .nil pass0 (pa_cons (pv 1) pa_nil)))) pa_nil))))), ?_⟩
    refine ⟨v, rfl, v, 4, rfl, hv, _, rfl, ?_⟩
    unfold lok at q
    cases b : (isL H v && decide ((its H v).length ≤ 4)) with
    | false =>
      rw [b] at q
      exact q _ (Same.refl _)
    | true =>
      rw [b] at q
      obtain ⟨b1, b2⟩ := Bool.and_eq_true_iff.mp b
      obtain ⟨a, rfl, ea⟩ := hv.list b1
      obtain ⟨le, hw⟩ := hv.items
      revert q
      generalize its H (.ref a) = ys at *
      intro q
      refine ⟨.ref a, rfl, a, rfl, ⟨_, SqL.of ea⟩, fun D nD => ?_⟩
      refine lc_list (K := K) (a := a) (xs := ys) (fun i Hc => Same H Hc ∧ Hc D = some (.lst (((ys.take i).map (grp H)).map V.bl))) ⟨same_upd nD, upd_same⟩ (fun i Hc _ h => SqL.of (h.1 _ _ ea)) (fun i x Hc hx ⟨sc, eD⟩ => ?_) (fun Hc ⟨sc, eD⟩ => ?_)
      · have wx := hw x (List.mem_of_getElem? hx)
        refine ⟨rfl, x, rfl, x, rfl, wx.same sc, fun Hd sd => ⟨_, sd _ _ eD, ?_, ?_, ?_⟩⟩
        · rw [List.length_map, List.length_map, List.length_take]
          omega
        · intro b o e
          rw [upd_ne (ne_of_none e nD)]
          exact sd _ _ (sc b o e)
        · rw [upd_same, wx.grp sc, List.take_add_one, hx, List.map_append, List.map_append]
          rfl
      · refine ⟨D, _, rfl, SqL.of eD, ?_⟩
        rw [List.take_length, List.all_map]
        exact q _ sc
/-! ### None for no list, and copies -/
def rListOf (K : PySem.W.Frag) : List V → Hp → VK → Prop := fun xs H Q => ∃ p ys, xs = [.ref p] ∧ (SqL K H p ys ∨ SqT K H p ys) ∧ ∀ l, H l = none → Q (.ref l) (upd H l (.lst ys))
theorem call_listOf {X : Cx} : CallR X (.type "list") (rListOf X.K) := call_list_of
def spEmpty : Sp := fun xs H Q _ => ∃ v, xs = [v] ∧ (v = .non → ∀ l, H l = none → Q (.ref l) (upd H l (.lst []))) ∧ (v ≠ .non → Q v H)
theorem ok_empty {f : Addr} {fd : FuncData} {k : Nat} (F : Fun K "empty_for_none" "empty_for_none" st_empty_for_none f fd) : FnOk P w K mg base CX0 (k + 1) f fd ["value"] spEmpty := by
  refine F.ok sc_empty_for_none (fun vs H Q E h => ?_) (fun cdv A outer s H vs Q E hr h => ?_)
  · obtain ⟨v, rfl, _⟩ := h
    rfl
  · obtain ⟨v, rfl, q1, q2⟩ := h
    refine ⟨_, pss_one (ps_ret (pe_ifExp (pt_cmpR op_isN (pv 0) pe_non (nomark _)) (pe_lst pa_nil) (pv 0))), ?_⟩
    refine ⟨v, rfl, rfl, _, rfl, ite2 (fun e => ?_) (fun e => ?_)⟩
    · exact ⟨by show 0 ≤ sizeLine; decide, fun l nl => q1 (of_decide_eq_true e) l nl⟩
    · exact ⟨v, rfl, q2 (fun z => e (decide_eq_true z))⟩
/-- at l there is a list of new lists, that hold what gss tells -/
def GL (H0 H : Hp) (l : Addr) (gss : List (List V)) : Prop := H0 l = none ∧ ∃ as : List Addr, H l = some (.lst (as.map V.ref)) ∧ as.length = gss.length ∧ (∀ (i : Nat) (a : Addr), as[i]? = some a → H0 a = none ∧ a ≠ l ∧ ∃ g, gss[i]? = some g ∧ H a = some (.lst g)) ∧ as.Nodup
def spCopied : Sp := fun xs H Q _ => ∃ (a : Addr) (ys : List V) (gss : List (List V)), xs = [.ref a] ∧ H a = some (.lst ys) ∧ ys.length = gss.length ∧ ys.length ≤ 1000 ∧ (∀ (i : Nat) (y : V), ys[i]? = some y → ∃ b g, y = .ref b ∧ H b = some (.lst g) ∧ gss[i]? = some g) ∧ ∀ H' l, Same H H' → GL H H' l gss → Q (.ref l) H'
theorem ok_copied {f : Addr} {fd : FuncData} {k : Nat} (F : Fun K "copied_groups" "copied_groups" st_copied_groups f fd) (m_list : mg "list" = none) : FnOk P w K mg base CX0 (k + 1) f fd ["groups"] spCopied := by
  refine F.ok sc_copied_groups (fun vs H Q E h => ?_) (fun cdv A outer s H vs Q E hr h => ?_)
  · obtain ⟨a, ys, gss, rfl, _⟩ := h
    rfl
  · obtain ⟨a, ys, gss, rfl, ea, hlen, le, hy, q⟩ := h
    have sl : sizeLine = 16777216 := sizeLine_eq
    refine ⟨_, pss_one (ps_ret (pe_lc (own := [("group", 1)]) (g := gName 1) (tt := tYes) rfl sc_copied_groups.nd (pi_list (pv 0)) (blkOk_by (N := ["groups", "group"]) (sc := defScope st_copied_groups) (by decide +kernel)) (fun _ _ _ _ _ => (pg_name (i := 1) sc_copied_groups.nd rfl (Or.inl rfl))) (fun _ _ _ _ _ => pts_nil) (fun _ _ _ _ _ => (pe_callTy (r := rListOf K) call_listOf (by rfl) m_list (by decide +kernel) (pa_cons (pv 1) pa_nil))))), ?_⟩
    refine ⟨.ref a, rfl, a, rfl, ⟨_, SqL.of ea⟩, fun D nD => ?_⟩
    refine lc_list (K := K) (a := a) (xs := ys) (fun i Hc => Same H Hc ∧ ∃ as : List Addr, Hc D = some (.lst (as.map V.ref)) ∧ as.length = min i ys.length ∧ (∀ (j : Nat) (b : Addr), as[j]? = some b → H b = none ∧ b ≠ D ∧ ∃ g, gss[j]? = some g ∧ Hc b = some (.lst g)) ∧ as.Nodup)
      ⟨same_upd nD, [], upd_same, by simp, (fun j b e => by cases e), List.nodup_nil⟩ (fun i Hc _ h => SqL.of (h.1 _ _ ea)) (fun i x Hc hx ⟨sc, as, eD, la, ha, nd⟩ => ?_) (fun Hc ⟨sc, as, eD, la, ha, nd⟩ => ?_)
    · obtain ⟨b, g, rfl, eb, eg⟩ := hy i x hx
      have hi : i < ys.length := (List.getElem?_eq_some_iff.mp hx).1
      refine ⟨rfl, .ref b, rfl, b, g, rfl, .inl (SqL.of (sc _ _ eb)), fun l nl => ?_⟩
      have nlD : l ≠ D := (ne_of_none eD nl).symm
      have nlH : H l = none := by
        cases e : H l with
        | none => rfl
        | some o => rw [sc _ _ e] at nl; cases nl
      have fresh : ∀ c ∈ as, c ≠ l := fun c hc => by
        obtain ⟨j, hj, e⟩ := List.mem_iff_getElem.mp hc
        obtain ⟨_, _, g', _, e'⟩ := ha j c (by rw [List.getElem?_eq_getElem hj, e])
        exact ne_of_none e' nl
      refine ⟨_, by rw [upd_ne nlD.symm]; exact eD, by rw [List.length_map]; omega, fun c o e => ?_, as ++ [l], ?_, by rw [List.length_append, la]; show _ + 1 = _; omega, fun j c e => ?_, ?_⟩
      · rw [upd_ne (ne_of_none e nD), upd_ne (ne_of_none e nlH)]
        exact sc c o e
      · rw [upd_same, List.map_append]
        rfl
      · by_cases q : j < as.length
        · rw [List.getElem?_append_left q] at e
          obtain ⟨h1, h2, g', h3, h4⟩ := ha j c e
          refine ⟨h1, h2, g', h3, ?_⟩
          rw [upd_ne h2, upd_ne (fresh c (List.mem_of_getElem? e))]
          exact h4
        · rw [List.getElem?_append_right (by omega)] at e
          have j0 : j - as.length = 0 := by
            cases h : j - as.length with
            | zero => rfl
            | succ n => rw [h] at e; cases e
          rw [j0] at e
          cases e
          have ji : j = i := by omega
          subst ji
          refine ⟨nlH, nlD, g, eg, ?_⟩
          rw [upd_ne nlD, upd_same]
      · refine List.nodup_append.mpr ⟨nd, List.nodup_cons.mpr ⟨List.not_mem_nil, List.nodup_nil⟩, fun y hy' c hc e => ?_⟩
        rw [List.mem_singleton.mp hc] at e
        exact fresh y hy' e
    · exact q _ D sc ⟨nD, as, eD, by rw [la, ← hlen]; omega, ha, nd⟩
end
end WB

set_option Elab.async false
set_option linter.all false
set_option maxRecDepth 100000
set_option maxHeartbeats 4000000
namespace WB
open PySem PySem.Spec PyProof.Rows L2 WG
open TL (tl)
abbrev st_Command_init : Stmt := inClass (topS 58) 0
theorem sc_Command_init : FnScope ["self", "name", "options", "places", "groups", "commands", "about"] ["self", "name", "options", "places", "groups", "commands", "about"] (defScope st_Command_init) := ⟨rfl, rfl, rfl, by decide +kernel, rfl, by decide +kernel, by decide +kernel⟩
abbrev st_errC : Stmt := inClass (topS 36) 0
theorem sc_errC : FnScope ["self", "field"] ["self", "field"] (defScope st_errC) := ⟨rfl, rfl, rfl, by decide +kernel, rfl, by decide +kernel, by decide +kernel⟩
def ol (H : Hp) (m : Nat) (g : V → Bool) (v : V) : Bool := decide (v = .non) || lok H m g v
/-- None, or a list that holds xs -/
def LV (H : Hp) (v : V) (xs : List V) : Prop := (v = .non ∧ xs = []) ∨ ∃ a, v = .ref a ∧ H a = some (.lst xs)
theorem lv_of {Cs : List Addr} {H : Hp} {m : Nat} {g : V → Bool} {v : V} (w : Wf Cs H v) (h : ol H m g v = true) : LV H v (its H v) := by
  unfold ol lok at h
  by_cases e : v = .non
  · subst e
    exact .inl ⟨rfl, rfl⟩
  · rw [decide_eq_false e, Bool.false_or] at h
    simp only [Bool.and_eq_true] at h
    obtain ⟨a, e1, e2⟩ := w.list h.1.1
    exact .inr ⟨a, e1, e2⟩
theorem LV.but {H H' : Hp} {v : V} {xs : List V} {x C dx : Addr} {fs : List (Str × V)} (h : LV H v xs) (b : But x H H') (hx : H x = some (.ins C dx fs)) : LV H' v xs := by
  rcases h with h | ⟨a, rfl, e⟩
  · exact .inl h
  · refine .inr ⟨a, rfl, b a _ (fun z => ?_) e⟩
    rw [z, hx] at e
    cases e
theorem but_none {x l : Addr} {H G : Hp} {o : HO} (b : But x H G) (hx : G x = some o) (n : G l = none) : H l = none := by
  cases e : H l with
  | none => rfl
  | some u =>
    have nx : l ≠ x := fun z => by rw [z, hx] at n; cases n
    rw [b l u nx e] at n
    cases n
theorem GL.base {H H1 H' : Hp} {l : Addr} {gss : List (List V)} (h : GL H1 H' l gss) (n : ∀ b, H1 b = none → H b = none) : GL H H' l gss := by
  obtain ⟨n1, as, e, le, ha, nd⟩ := h
  exact ⟨n l n1, as, e, le, fun i a e => by obtain ⟨h1, h2⟩ := ha i a e; exact ⟨n a h1, h2⟩, nd⟩
theorem GL.but {H0 H H' : Hp} {l x : Addr} {gss : List (List V)} (h : GL H0 H l gss) (b : But x H H') (hx : H0 x ≠ none) : GL H0 H' l gss := by
  obtain ⟨n1, as, e, le, ha, nd⟩ := h
  refine ⟨n1, as, b _ _ (fun z => hx (by rw [← z]; exact n1)) e, le, fun i a e => ?_, nd⟩
  obtain ⟨h1, h2, g, h3, h4⟩ := ha i a e
  exact ⟨h1, h2, g, h3, b _ _ (fun z => hx (by rw [← z]; exact h1)) h4⟩
section
variable {K : PySem.W.Frag} {Cs : List Addr} {σ : L2.St} {H : Hp} {Q : VK} {i : Nat} {v : V} {E E' : XK}
theorem are_in {m : Nat} {g : Hp → V → Bool} (hv : σ[i]? = some (some v)) (hw : Wf Cs H v) (q : ∀ H', Same H H' → Q (.bl (ol H m (g H) v)) H') : tCall (spAre Cs m g) [] E (tCons (tCall spEmpty [] E' (tCons (tVar i) tNil)) tNil) σ H Q := by
  refine ⟨v, hv, v, rfl, fun e l nl => ?_, fun e => ?_⟩
  · subst e
    refine ⟨.ref l, rfl, .lst upd_same (by decide) (fun x hx => by cases hx), fun H' s' => ?_⟩
    have eq : lok (upd H l (.lst [])) m (g (upd H l (.lst []))) (.ref l) = true := by
      obtain ⟨e1, e2⟩ := isL_lst (H := upd H l (.lst [])) (a := l) upd_same
      unfold lok
      rw [e1, e2]
      simp
    rw [eq]
    exact q _ ((same_upd nl).trans s')
  · refine ⟨v, rfl, hw, fun H' s' => ?_⟩
    have eq : lok H m (g H) v = ol H m (g H) v := by
      unfold ol
      rw [decide_eq_false e, Bool.false_or]
    rw [eq]
    exact q _ s'
theorem list_in {xs : List V} (hv : σ[i]? = some (some v)) (h : LV H v xs) (q : ∀ H' l, Same H H' → H l = none → H' l = some (.lst xs) → Q (.ref l) H') : tCB (rListOf K) (tCons (tCall spEmpty [] E (tCons (tVar i) tNil)) tNil) σ H Q := by
  refine ⟨v, hv, v, rfl, fun e l nl => ?_, fun e => ?_⟩
  · rcases h with ⟨_, rfl⟩ | ⟨a, e', _⟩
    · refine ⟨l, [], rfl, .inl (SqL.of upd_same), fun l2 n2 => q _ l2 ((same_upd nl).trans (same_upd n2)) ?_ upd_same⟩
      cases e3 : H l2 with
      | none => rfl
      | some o => rw [same_upd nl _ _ e3] at n2; cases n2
    · rw [e] at e'
      cases e'
  · rcases h with ⟨e', _⟩ | ⟨a, rfl, ea⟩
    · exact absurd e' e
    · exact ⟨a, xs, rfl, .inl (SqL.of ea), fun l nl => q _ l (same_upd nl) nl upd_same⟩
theorem cop_in {ys : List V} {gss : List (List V)} (hv : σ[i]? = some (some v)) (h : LV H v ys) (hlen : ys.length = gss.length) (le : ys.length ≤ 1000) (hy : ∀ (i : Nat) (y : V), ys[i]? = some y → ∃ b g, y = .ref b ∧ H b = some (.lst g) ∧ gss[i]? = some g)
    (q : ∀ H' l, Same H H' → GL H H' l gss → Q (.ref l) H') : tCall spCopied [] E (tCons (tCall spEmpty [] E' (tCons (tVar i) tNil)) tNil) σ H Q := by
  refine ⟨v, hv, v, rfl, fun e l nl => ?_, fun e => ?_⟩
  · rcases h with ⟨_, rfl⟩ | ⟨a, e', _⟩
    · refine ⟨l, [], gss, rfl, upd_same, hlen, by decide, (fun i y e => by cases e), fun H' l2 s' g => q _ l2 ((same_upd nl).trans s') (g.base fun b n => ?_)⟩
      cases e3 : H b with
      | none => rfl
      | some o => rw [same_upd nl _ _ e3] at n; cases n
    · rw [e] at e'
      cases e'
  · rcases h with ⟨e', _⟩ | ⟨a, rfl, ea⟩
    · exact absurd e' e
    · exact ⟨a, ys, gss, rfl, ea, hlen, le, hy, fun H' l s' g => q _ l s' g⟩
end
section
variable {P : Program} {w : World} {K : PySem.W.Frag} {mg : Str → Option Value} {base : Heap}
theorem ok_errC {C f : Addr} {fd : FuncData} {x q : Str} {k : Nat} (F : Fun K "__init__" q st_errC f fd) (T : ErrT K mg x C f fd) : FnOk P w K mg base CX0 (k + 1) f fd ["self", "field"] (spErr C) := by
  refine F.ok sc_errC (fun vs H Q E h => ?_) (fun cdv A outer s H vs Q E hr h => ?_)
  · obtain ⟨a, y, rfl, _⟩ := h
    rfl
  · obtain ⟨a, y, rfl, ea, q⟩ := h
    refine ⟨_, pss_one (ps_ost (pv 0) (pv 1)), ?_⟩
    exact ⟨y, rfl, .ref a, rfl, a, C, rfl, T.o, T.nf, .inl ⟨ea, fun dx n ne => q dx n ne⟩⟩
def wrongC (CO CP CC : Addr) (H : Hp) (v0 v1 v2 v3 v4 v5 : V) : Str :=
  if isNm v0 = false then Str.ofString "name" else if ol H 12 (isC H CO) v1 = false then Str.ofString "options" else if ol H 6 (isC H CP) v2 = false then Str.ofString "places" else if ol H 4 (grp H) v3 = false then Str.ofString "groups" else
  if ol H 8 (isC H CC) v4 = false then Str.ofString "commands" else if isAb v5 = false then Str.ofString "about" else Str.ofString ""
structure ClsC (K : PySem.W.Frag) (C : Addr) : Prop where
  cl : Cls K C
  n0 : NoAttr K C "own_name"
  n1 : NoAttr K C "own_options"
  n2 : NoAttr K C "own_places"
  n3 : NoAttr K C "own_groups"
  n4 : NoAttr K C "own_commands"
  n5 : NoAttr K C "own_about"
def cmdF (v0 : V) (lo lp lg lc : Addr) (v5 : V) : List (Str × V) := [(("own_name" : Str), v0), (("own_options" : Str), .ref lo), (("own_places" : Str), .ref lp), (("own_groups" : Str), .ref lg), (("own_commands" : Str), .ref lc), (("own_about" : Str), v5)]
/-- a command, its lists made behind H0 -/
structure CmdAt (CC : Addr) (H0 H : Hp) (x : Addr) (v0 : V) (os ps : List V) (gss : List (List V)) (cs : List V) (v5 : V) : Prop where
  ex : ∃ dx lo lp lg lc, H x = some (.ins CC dx (cmdF v0 lo lp lg lc v5)) ∧ (H0 lo = none ∧ H lo = some (.lst os)) ∧ (H0 lp = none ∧ H lp = some (.lst ps)) ∧ GL H0 H lg gss ∧ (H0 lc = none ∧ H lc = some (.lst cs))
def spCInit (CO CP CC CN : Addr) : Sp := fun vs H Q E => ∃ (x dx : Addr) (v0 v1 v2 v3 v4 v5 : V), vs = [.ref x, v0, v1, v2, v3, v4, v5] ∧ H x = some (.ins CC dx []) ∧ (Thg H v0 ∧ Wf [CO, CP, CC] H v1 ∧ Wf [CO, CP, CC] H v2 ∧ Wf [CO, CP, CC] H v3 ∧ Wf [CO, CP, CC] H v4 ∧ Thg H v5) ∧
  (wrongC CO CP CC H v0 v1 v2 v3 v4 v5 = Str.ofString "" → ∀ H', But x H H' → CmdAt CC H H' x v0 (its H v1) (its H v2) ((its H v3).map (its H)) (its H v4) v5 → Q .non H') ∧
  (wrongC CO CP CC H v0 v1 v2 v3 v4 v5 ≠ Str.ofString "" → ∀ H' d, Same H H' → H d = none → H' d = some (.xd [(("field" : Str), .str (wrongC CO CP CC H v0 v1 v2 v3 v4 v5))]) → E (.ref CN) (some d) H')
theorem Wf.ol {Cs : List Addr} {H H' : Hp} {v : V} {m : Nat} {g : Hp → V → Bool} (h : Wf Cs H v) (s : Same H H') (hg : ∀ x, Wf Cs H x → g H' x = g H x) : WB.ol H' m (g H') v = WB.ol H m (g H) v := by
  obtain ⟨e1, e2, _⟩ := h.at_ s
  have hi := h.items.2
  unfold WB.ol lok
  rw [e1, e2]
  congr 1
  congr 1
  rw [Bool.eq_iff_iff, List.all_eq_true, List.all_eq_true]
  constructor
  · intro z x hx
    rw [← hg x (hi x hx)]
    exact z x hx
  · intro z x hx
    rw [hg x (hi x hx)]
    exact z x hx
end
end WB

set_option Elab.async false
set_option linter.all false
set_option maxRecDepth 100000
set_option maxHeartbeats 4000000
namespace WB
open PySem PySem.Spec PyProof.Rows L2 WG
open TL (tl)
section
variable {K K' : PySem.W.Frag} {Cs : List Addr} {σ : L2.St} {H : Hp} {κ : L2.Ends} {t rest : TS} {i : Nat} {v : V} {E E' : XK}
theorem chk_in {m : Nat} {g : Hp → V → Bool} (hv : σ[i]? = some (some v)) (hw : Wf Cs H v) (qf : ol H m (g H) v = false → ∀ H', Same H H' → t { κ with nx := rest κ } σ H') (qt : ol H m (g H) v = true → ∀ H', Same H H' → rest κ σ H') :
    tSeq (tIfS (tNot (tB (tCall (spAre Cs m g) [] E (tCons (tCall spEmpty [] E' (tCons (tVar i) tNil)) tNil)))) t tNext) rest κ σ H := by
  refine are_in (Q := fun x H1 => ∃ c, x = .bl c ∧ if (!c) = true then t { κ with nx := rest κ } σ H1 else tNext { κ with nx := rest κ } σ H1) hv hw (fun H' s' => ⟨_, rfl, ?_⟩)
  cases b : ol H m (g H) v with
  | false => exact qf b H' s'
  | true => exact qt b H' s'
theorem chk_of {g : V → Bool} (hv : σ[i]? = some (some v)) (hw : Thg H v) (qf : g v = false → ∀ H', Same H H' → t { κ with nx := rest κ } σ H') (qt : g v = true → ∀ H', Same H H' → rest κ σ H') :
    tSeq (tIfS (tNot (tB (tCall (spOf g) [] E (tCons (tVar i) tNil)))) t tNext) rest κ σ H := by
  refine (⟨v, hv, v, rfl, hw, fun H' s' => ⟨_, rfl, ?_⟩⟩ : (tCall (spOf g) [] E (tCons (tVar i) tNil)) σ H (fun x H1 => ∃ c, x = .bl c ∧ if (!c) = true then t { κ with nx := rest κ } σ H1 else tNext { κ with nx := rest κ } σ H1))
  cases b : g v with
  | false => exact qf b H' s'
  | true => exact qt b H' s'
theorem fld_list {f : Str} {x C dx : Addr} {fs : List (Str × V)} {xs : List V} (h0 : σ[0]? = some (some (.ref x))) (hv : σ[i]? = some (some v)) (hl : LV H v xs) (ex : H x = some (.ins C dx fs)) (cl : Cls K C) (na : NoAttr K C f) (lf : fs.length < 1000)
    (q : ∀ H' l, Same H H' → H l = none → H' l = some (.lst xs) → rest κ σ (upd H' x (.ins C dx (putF f (.ref l) fs)))) : tSeq (sFld K (tVar 0) (tCB (rListOf K') (tCons (tCall spEmpty [] E (tCons (tVar i) tNil)) tNil)) f) rest κ σ H :=
  list_in (Q := fun y H1 => (tVar 0) σ H1 fun z H2 => ∃ a C dx fs, z = .ref a ∧ H2 a = some (.ins C dx fs) ∧ Cls K C ∧ NoAttr K C f ∧ fs.length < 1000 ∧ rest κ σ (upd H2 a (.ins C dx (putF f y fs)))) hv hl (fun H' l s n e => ⟨.ref x, h0, x, C, dx, fs, rfl, s _ _ ex, cl, na, lf, q H' l s n e⟩)
theorem fld_cop {f : Str} {x C dx : Addr} {fs : List (Str × V)} {ys : List V} {gss : List (List V)} (h0 : σ[0]? = some (some (.ref x))) (hv : σ[i]? = some (some v)) (hl : LV H v ys) (hlen : ys.length = gss.length) (le : ys.length ≤ 1000) (hy : ∀ (i : Nat) (y : V), ys[i]? = some y → ∃ b g, y = .ref b ∧ H b = some (.lst g) ∧ gss[i]? = some g)
    (ex : H x = some (.ins C dx fs)) (cl : Cls K C) (na : NoAttr K C f) (lf : fs.length < 1000) (q : ∀ H' l, Same H H' → GL H H' l gss → rest κ σ (upd H' x (.ins C dx (putF f (.ref l) fs)))) : tSeq (sFld K (tVar 0) (tCall spCopied [] E (tCons (tCall spEmpty [] E' (tCons (tVar i) tNil)) tNil)) f) rest κ σ H :=
  cop_in (Q := fun y H1 => (tVar 0) σ H1 fun z H2 => ∃ a C dx fs, z = .ref a ∧ H2 a = some (.ins C dx fs) ∧ Cls K C ∧ NoAttr K C f ∧ fs.length < 1000 ∧ rest κ σ (upd H2 a (.ins C dx (putF f y fs)))) hv hl hlen le hy (fun H' l s g => ⟨.ref x, h0, x, C, dx, fs, rfl, s _ _ ex, cl, na, lf, q H' l s g⟩)
theorem fld_var {f : Str} {x C dx : Addr} {fs : List (Str × V)} (h0 : σ[0]? = some (some (.ref x))) (hv : σ[i]? = some (some v)) (ex : H x = some (.ins C dx fs)) (cl : Cls K C) (na : NoAttr K C f) (lf : fs.length < 1000) (q : rest κ σ (upd H x (.ins C dx (putF f v fs)))) : tSeq (sFld K (tVar 0) (tVar i) f) rest κ σ H :=
  ⟨v, hv, .ref x, h0, x, C, dx, fs, rfl, ex, cl, na, lf, q⟩
end
theorem putF_new {f : Str} {v : V} : ∀ {fs : List (Str × V)}, f ∉ fs.map (·.1) → putF f v fs = fs ++ [(f, v)]
  | [], _ => rfl
  | (g, x) :: r, h => by
    have h1 : ¬ g = f := fun e => h (by rw [e]; exact List.mem_cons_self)
    have h2 : f ∉ r.map (·.1) := fun e => h (List.mem_cons_of_mem _ e)
    unfold putF
    rw [if_neg h1, putF_new h2]
    rfl
theorem LV.same {H H' : Hp} {v : V} {xs : List V} (h : LV H v xs) (s : Same H H') : LV H' v xs := by
  rcases h with h | ⟨a, rfl, e⟩
  · exact .inl h
  · exact .inr ⟨a, rfl, s _ _ e⟩
/-- what the right groups hold -/
theorem grp_items {Cs : List Addr} {H : Hp} {m : Nat} {v : V} (w : Wf Cs H v) (h : ol H m (grp H) v = true) : ∀ (i : Nat) (y : V), (its H v)[i]? = some y → ∃ b g, y = .ref b ∧ H b = some (.lst g) ∧ ((its H v).map (its H))[i]? = some g := by
  intro i y e
  have hm := List.mem_of_getElem? e
  have hg : grp H y = true := by
    unfold ol lok at h
    by_cases z : v = .non
    · subst z
      cases hm
    · rw [decide_eq_false z, Bool.false_or] at h
      exact List.all_eq_true.mp (Bool.and_eq_true_iff.mp h).2 y hm
  have hl : isL H y = true := by
    unfold grp at hg
    simp only [Bool.and_eq_true] at hg
    exact hg.1.1.1
  obtain ⟨b, e1, e2⟩ := (w.items.2 y hm).list hl
  exact ⟨b, its H y, e1, e2, by rw [List.getElem?_map, e]; rfl⟩
section
variable {P : Program} {w : World} {K : PySem.W.Frag} {mg : Str → Option Value} {base : Heap}
theorem ok_cinit {CO CP CC CN f fE fW fA fB fL f1 f2 fG f3 f4 fEm fCp : Addr} {fd fdE fdW fdA fdB fdL fd1 fd2 fdG fd3 fd4 fdEm fdCp : FuncData} {u1 u2 u3 w1 w2 w3 w4 w5 w6 : Tok} {k : Nat} (F : FunD K "__init__" "Command.__init__" (defArgs st_Command_init) (defBody st_Command_init) (defScope st_Command_init) [.non, .non, .non, .non, .str (Str.ofString "")] [] f fd)
    (c3 : Cl3 K [CO, CP, CC]) (FE : Fun K "__init__" "NoCommand.__init__" st_errC fE fdE) (TE : ErrT K mg "NoCommand" CN fE fdE) (T : ClsC K CC)
    (D_is_text_within : Df K mg "is_text_within" st_is_text_within ["value", "most"] fW fdW) (D_is_name : Df K mg "is_name" st_is_name ["value"] fA fdA) (D_is_about : Df K mg "is_about" st_is_about ["value"] fB fdB) (D_is_list_within : Df K mg "is_list_within" st_is_list_within ["value", "most"] fL fdL)
    (D_are_options : Df K mg "are_options" st_are_options ["value"] f1 fd1) (D_are_places : Df K mg "are_places" st_are_places ["value"] f2 fd2) (D_is_group : Df K mg "is_group" st_is_group ["value"] fG fdG) (D_are_groups : Df K mg "are_groups" st_are_groups ["value"] f3 fd3) (D_are_commands : Df K mg "are_commands" st_are_commands ["value"] f4 fd4)
    (D_empty_for_none : Df K mg "empty_for_none" st_empty_for_none ["value"] fEm fdEm) (D_copied_groups : Df K mg "copied_groups" st_copied_groups ["groups"] fCp fdCp) (gO : mg "Option" = some (.ref CO)) (gP : mg "Place" = some (.ref CP)) (gC : mg "Command" = some (.ref CC))
    (m_len : mg "len" = none) (m_list : mg "list" = none) (m_str : mg "str" = none) (m_isinstance : mg "isinstance" = none) (m_all : mg "all" = none) (c_MOST_NAME_SIGNS : mg "MOST_NAME_SIGNS" = some (.int 10 u1)) (c_NAME_SIGNS : mg "NAME_SIGNS" = some (.str nameSet u2)) (c_MOST_ABOUT_SIGNS : mg "MOST_ABOUT_SIGNS" = some (.int 200 u3))
    (c_OP : mg "MOST_OPTIONS" = some (.int 12 w1)) (c_PL : mg "MOST_PLACES" = some (.int 6 w2)) (c_GR : mg "MOST_GROUPS" = some (.int 4 w3)) (c_FG : mg "FEWEST_IN_GROUP" = some (.int 2 w4)) (c_IG : mg "MOST_IN_GROUP" = some (.int 6 w5)) (c_CM : mg "MOST_COMMANDS" = some (.int 8 w6)) :
    FnOk P w K mg base (L2.CX P w) (k + 4) f fd ["self", "name", "options", "places", "groups", "commands", "about"] (spCInit CO CP CC CN) := by
  have GE : FnOk P w K mg base CX0 (k + 2) fE fdE ["self", "field"] (spErr CN) := ok_errC FE TE
  have G_is_name : FnOk P w K mg base CX0 (k + 3) fA fdA ["value"] (spOf isNm) := ok_isName D_is_name.F D_is_text_within m_len m_str m_isinstance m_all c_MOST_NAME_SIGNS c_NAME_SIGNS
  have G_is_about : FnOk P w K mg base CX0 (k + 3) fB fdB ["value"] (spOf isAb) := ok_isAbout D_is_about.F D_is_text_within m_len m_str m_isinstance c_MOST_ABOUT_SIGNS
  have G_are_options : FnOk P w K mg base CX0 (k + 3) f1 fd1 ["value"] (spAre [CO, CP, CC] 12 (fun H => isC H CO)) := ok_areOptions c3 (by simp) D_are_options.F D_is_list_within gO c_OP m_len m_list m_isinstance m_all
  have G_are_places : FnOk P w K mg base CX0 (k + 3) f2 fd2 ["value"] (spAre [CO, CP, CC] 6 (fun H => isC H CP)) := ok_arePlaces c3 (by simp) D_are_places.F D_is_list_within gP c_PL m_len m_list m_isinstance m_all
  have G_are_groups : FnOk P w K mg base CX0 (k + 3) f3 fd3 ["value"] (spAre [CO, CP, CC] 4 grp) := ok_areGroups c3 D_are_groups.F D_is_list_within D_is_group c_IG c_FG c_GR m_len m_list m_str m_isinstance m_all
  have G_are_commands : FnOk P w K mg base CX0 (k + 3) f4 fd4 ["value"] (spAre [CO, CP, CC] 8 (fun H => isC H CC)) := ok_areCommands c3 (by simp) D_are_commands.F D_is_list_within gC c_CM m_len m_list m_isinstance m_all
  have G_empty_for_none : FnOk P w K mg base CX0 (k + 3) fEm fdEm ["value"] spEmpty := ok_empty D_empty_for_none.F
  have G_copied_groups : FnOk P w K mg base CX0 (k + 3) fCp fdCp ["groups"] spCopied := ok_copied D_copied_groups.F m_list
  refine F.ok sc_Command_init (fun vs H Q E h => ?_) (fun cdv A outer s H vs Q E hr h => ?_)
  · obtain ⟨x, dx, v0, v1, v2, v3, v4, v5, rfl, _⟩ := h
    rfl
  · obtain ⟨x, dx, v0, v1, v2, v3, v4, v5, rfl, ex, ⟨t0, w1', w2', w3', w4', t5⟩, qok, qbad⟩ := h
    refine ⟨_, pss_cons (ps_if (pt_not (pt_val (pe_call G_is_name hr (by rfl) D_is_name.g D_is_name.F.kp D_is_name.b .nil pass0 (pa_cons (pv 1) pa_nil)))) (pss_one (ps_raise rfl (takes_of rfl rfl rfl rfl) (pmk_oex TE.o TE.i TE.t GE hr TE.b .nil pass0 (by rfl) TE.g (pa_cons pe_str pa_nil)))) pss_nil)
      (pss_cons (ps_if (pt_not (pt_val (pe_call G_are_options hr (by rfl) D_are_options.g D_are_options.F.kp D_are_options.b .nil pass0 (pa_cons (pe_call G_empty_for_none hr (by rfl) D_empty_for_none.g D_empty_for_none.F.kp D_empty_for_none.b .nil pass0 (pa_cons (pv 2) pa_nil)) pa_nil)))) (pss_one (ps_raise rfl (takes_of rfl rfl rfl rfl) (pmk_oex TE.o TE.i TE.t GE hr TE.b .nil pass0 (by rfl) TE.g (pa_cons pe_str pa_nil)))) pss_nil)
      (pss_cons (ps_if (pt_not (pt_val (pe_call G_are_places hr (by rfl) D_are_places.g D_are_places.F.kp D_are_places.b .nil pass0 (pa_cons (pe_call G_empty_for_none hr (by rfl) D_empty_for_none.g D_empty_for_none.F.kp D_empty_for_none.b .nil pass0 (pa_cons (pv 3) pa_nil)) pa_nil)))) (pss_one (ps_raise rfl (takes_of rfl rfl rfl rfl) (pmk_oex TE.o TE.i TE.t GE hr TE.b .nil pass0 (by rfl) TE.g (pa_cons pe_str pa_nil)))) pss_nil)
      (pss_cons (ps_if (pt_not (pt_val (pe_call G_are_groups hr (by rfl) D_are_groups.g D_are_groups.F.kp D_are_groups.b .nil pass0 (pa_cons (pe_call G_empty_for_none hr (by rfl) D_empty_for_none.g D_empty_for_none.F.kp D_empty_for_none.b .nil pass0 (pa_cons (pv 4) pa_nil)) pa_nil)))) (pss_one (ps_raise rfl (takes_of rfl rfl rfl rfl) (pmk_oex TE.o TE.i TE.t GE hr TE.b .nil pass0 (by rfl) TE.g (pa_cons pe_str pa_nil)))) pss_nil)
      (pss_cons (ps_if (pt_not (pt_val (pe_call G_are_commands hr (by rfl) D_are_commands.g D_are_commands.F.kp D_are_commands.b .nil pass0 (pa_cons (pe_call G_empty_for_none hr (by rfl) D_empty_for_none.g D_empty_for_none.F.kp D_empty_for_none.b .nil pass0 (pa_cons (pv 5) pa_nil)) pa_nil)))) (pss_one (ps_raise rfl (takes_of rfl rfl rfl rfl) (pmk_oex TE.o TE.i TE.t GE hr TE.b .nil pass0 (by rfl) TE.g (pa_cons pe_str pa_nil)))) pss_nil)
      (pss_cons (ps_if (pt_not (pt_val (pe_call G_is_about hr (by rfl) D_is_about.g D_is_about.F.kp D_is_about.b .nil pass0 (pa_cons (pv 6) pa_nil)))) (pss_one (ps_raise rfl (takes_of rfl rfl rfl rfl) (pmk_oex TE.o TE.i TE.t GE hr TE.b .nil pass0 (by rfl) TE.g (pa_cons pe_str pa_nil)))) pss_nil)
      (pss_cons (ps_fld (pv 0) (pv 1) rfl)
      (pss_cons (ps_fld (pv 0) (pe_callTy (r := rListOf K) call_listOf (by rfl) m_list (by decide +kernel) (pa_cons (pe_call G_empty_for_none hr (by rfl) D_empty_for_none.g D_empty_for_none.F.kp D_empty_for_none.b .nil pass0 (pa_cons (pv 2) pa_nil)) pa_nil)) rfl)
      (pss_cons (ps_fld (pv 0) (pe_callTy (r := rListOf K) call_listOf (by rfl) m_list (by decide +kernel) (pa_cons (pe_call G_empty_for_none hr (by rfl) D_empty_for_none.g D_empty_for_none.F.kp D_empty_for_none.b .nil pass0 (pa_cons (pv 3) pa_nil)) pa_nil)) rfl)
      (pss_cons (ps_fld (pv 0) (pe_call G_copied_groups hr (by rfl) D_copied_groups.g D_copied_groups.F.kp D_copied_groups.b .nil pass0 (pa_cons (pe_call G_empty_for_none hr (by rfl) D_empty_for_none.g D_empty_for_none.F.kp D_empty_for_none.b .nil pass0 (pa_cons (pv 4) pa_nil)) pa_nil)) rfl)
      (pss_cons (ps_fld (pv 0) (pe_callTy (r := rListOf K) call_listOf (by rfl) m_list (by decide +kernel) (pa_cons (pe_call G_empty_for_none hr (by rfl) D_empty_for_none.g D_empty_for_none.F.kp D_empty_for_none.b .nil pass0 (pa_cons (pv 5) pa_nil)) pa_nil)) rfl)
      (pss_one (ps_fld (pv 0) (pv 6) rfl)))))))))))), ?_⟩
    have I1 := fun {Hx} (sx : Same H Hx) => fun {m} => Wf.ol (m := m) (g := fun H => isC H CO) w1' sx (fun x wx => (wx.at_ sx).2.2 CO)
    have I2 := fun {Hx} (sx : Same H Hx) => fun {m} => Wf.ol (m := m) (g := fun H => isC H CP) w2' sx (fun x wx => (wx.at_ sx).2.2 CP)
    have I3 := fun {Hx} (sx : Same H Hx) => fun {m} => Wf.ol (m := m) (g := grp) w3' sx (fun x wx => wx.grp sx)
    have I4 := fun {Hx} (sx : Same H Hx) => fun {m} => Wf.ol (m := m) (g := fun H => isC H CC) w4' sx (fun x wx => (wx.at_ sx).2.2 CC)
    refine chk_of rfl t0 (fun b0 H1 s1 => ?_) (fun b0 H1 s1 => ?_)
    · skip
      have e : wrongC CO CP CC H v0 v1 v2 v3 v4 v5 = Str.ofString "name" := by unfold wrongC; rw [if_pos b0]
      rw [e] at qbad
      exact ⟨by show 1 ≤ 1000; decide, fun a na => err_out (x := x) (fun H' d sm nd ed => qbad (lit_ne (by decide +kernel)) H' d (s1.trans sm) (s1.free nd) ed) a na⟩
    refine chk_in rfl (w1'.same s1) (fun b1 H2 s2 => ?_) (fun b1 H2 s2 => ?_)
    · rw [I1 s1] at b1
      have e : wrongC CO CP CC H v0 v1 v2 v3 v4 v5 = Str.ofString "options" := by unfold wrongC; rw [if_neg (by rw [b0]; decide), if_pos b1]
      rw [e] at qbad
      exact ⟨by show 1 ≤ 1000; decide, fun a na => err_out (x := x) (fun H' d sm nd ed => qbad (lit_ne (by decide +kernel)) H' d ((s1.trans s2).trans sm) ((s1.trans s2).free nd) ed) a na⟩
    rw [I1 s1] at b1
    refine chk_in rfl (w2'.same (s1.trans s2)) (fun b2 H3 s3 => ?_) (fun b2 H3 s3 => ?_)
    · rw [I2 (s1.trans s2)] at b2
      have e : wrongC CO CP CC H v0 v1 v2 v3 v4 v5 = Str.ofString "places" := by unfold wrongC; rw [if_neg (by rw [b0]; decide), if_neg (by rw [b1]; decide), if_pos b2]
      rw [e] at qbad
      exact ⟨by show 1 ≤ 1000; decide, fun a na => err_out (x := x) (fun H' d sm nd ed => qbad (lit_ne (by decide +kernel)) H' d (((s1.trans s2).trans s3).trans sm) (((s1.trans s2).trans s3).free nd) ed) a na⟩
    rw [I2 (s1.trans s2)] at b2
    refine chk_in rfl (w3'.same ((s1.trans s2).trans s3)) (fun b3 H4 s4 => ?_) (fun b3 H4 s4 => ?_)
    · rw [I3 ((s1.trans s2).trans s3)] at b3
      have e : wrongC CO CP CC H v0 v1 v2 v3 v4 v5 = Str.ofString "groups" := by unfold wrongC; rw [if_neg (by rw [b0]; decide), if_neg (by rw [b1]; decide), if_neg (by rw [b2]; decide), if_pos b3]
      rw [e] at qbad
      exact ⟨by show 1 ≤ 1000; decide, fun a na => err_out (x := x) (fun H' d sm nd ed => qbad (lit_ne (by decide +kernel)) H' d ((((s1.trans s2).trans s3).trans s4).trans sm) ((((s1.trans s2).trans s3).trans s4).free nd) ed) a na⟩
    rw [I3 ((s1.trans s2).trans s3)] at b3
    refine chk_in rfl (w4'.same (((s1.trans s2).trans s3).trans s4)) (fun b4 H5 s5 => ?_) (fun b4 H5 s5 => ?_)
    · rw [I4 (((s1.trans s2).trans s3).trans s4)] at b4
      have e : wrongC CO CP CC H v0 v1 v2 v3 v4 v5 = Str.ofString "commands" := by unfold wrongC; rw [if_neg (by rw [b0]; decide), if_neg (by rw [b1]; decide), if_neg (by rw [b2]; decide), if_neg (by rw [b3]; decide), if_pos b4]
      rw [e] at qbad
      exact ⟨by show 1 ≤ 1000; decide, fun a na => err_out (x := x) (fun H' d sm nd ed => qbad (lit_ne (by decide +kernel)) H' d (((((s1.trans s2).trans s3).trans s4).trans s5).trans sm) (((((s1.trans s2).trans s3).trans s4).trans s5).free nd) ed) a na⟩
    rw [I4 (((s1.trans s2).trans s3).trans s4)] at b4
    refine chk_of rfl (t5.same ((((s1.trans s2).trans s3).trans s4).trans s5)) (fun b5 H6 s6 => ?_) (fun b5 H6 s6 => ?_)
    · skip
      have e : wrongC CO CP CC H v0 v1 v2 v3 v4 v5 = Str.ofString "about" := by unfold wrongC; rw [if_neg (by rw [b0]; decide), if_neg (by rw [b1]; decide), if_neg (by rw [b2]; decide), if_neg (by rw [b3]; decide), if_neg (by rw [b4]; decide), if_pos b5]
      rw [e] at qbad
      exact ⟨by show 1 ≤ 1000; decide, fun a na => err_out (x := x) (fun H' d sm nd ed => qbad (lit_ne (by decide +kernel)) H' d ((((((s1.trans s2).trans s3).trans s4).trans s5).trans s6).trans sm) ((((((s1.trans s2).trans s3).trans s4).trans s5).trans s6).free nd) ed) a na⟩
    have e : wrongC CO CP CC H v0 v1 v2 v3 v4 v5 = Str.ofString "" := by unfold wrongC; rw [if_neg (by rw [b0]; decide), if_neg (by rw [b1]; decide), if_neg (by rw [b2]; decide), if_neg (by rw [b3]; decide), if_neg (by rw [b4]; decide), if_neg (by rw [b5]; decide)]
    have S6 : Same H H6 := ((((s1.trans s2).trans s3).trans s4).trans s5).trans s6
    have ex6 := S6 _ _ ex
    have L1 := (lv_of w1' b1).same S6
    have L2 := (lv_of w2' b2).same S6
    have L3 := (lv_of w3' b3).same S6
    have L4 := (lv_of w4' b4).same S6
    have G3 := grp_items w3' b3
    refine fld_var rfl rfl ex6 T.cl T.n0 (by decide) ?_
    rw [show putF (Str.ofString "own_name") v0 [] = [(Str.ofString "own_name", v0)] from rfl]
    have B7 : But x H (upd H6 x (.ins CC dx [(Str.ofString "own_name", v0)])) := fun b ob nb eb => by rw [upd_ne nb]; exact S6 _ _ eb
    have C7 : But x H6 (upd H6 x (.ins CC dx [(Str.ofString "own_name", v0)])) := But.upd _ _ _
    have ex7 : (upd H6 x (.ins CC dx [(Str.ofString "own_name", v0)])) x = some (.ins CC dx [(Str.ofString "own_name", v0)]) := upd_same
    revert B7 C7 ex7
    generalize upd H6 x (.ins CC dx [(Str.ofString "own_name", v0)]) = H7
    intro B7 C7 ex7
    refine fld_list rfl rfl (L1.but C7 ex6) ex7 T.cl T.n1 (by show 1 < 1000; decide) (fun H8 lo s8 n8 e8 => ?_)
    have no : H lo = none := but_none B7 ex7 n8
    have nxo : lo ≠ x := fun z => by rw [z, ex7] at n8; cases n8
    rw [putF_new (fs := [(Str.ofString "own_name", v0)]) (by show Str.ofString "own_options" ∉ [Str.ofString "own_name"]; decide +kernel)]
    simp only [List.cons_append, List.nil_append]
    have B9 : But x H (upd H8 x (.ins CC dx [(Str.ofString "own_name", v0), (Str.ofString "own_options", .ref lo)])) := fun b ob nb eb => by rw [upd_ne nb]; exact s8 _ _ (B7 b ob nb eb)
    have C9 : But x H8 (upd H8 x (.ins CC dx [(Str.ofString "own_name", v0), (Str.ofString "own_options", .ref lo)])) := But.upd _ _ _
    have ex9 : (upd H8 x (.ins CC dx [(Str.ofString "own_name", v0), (Str.ofString "own_options", .ref lo)])) x = some (.ins CC dx [(Str.ofString "own_name", v0), (Str.ofString "own_options", .ref lo)]) := upd_same
    revert B9 C9 ex9
    generalize upd H8 x (.ins CC dx [(Str.ofString "own_name", v0), (Str.ofString "own_options", .ref lo)]) = H9
    intro B9 C9 ex9
    have eo9 := C9 _ _ nxo e8
    have D9 : But x H6 H9 := fun b ob nb eb => C9 _ _ nb (s8 _ _ (C7 _ _ nb eb))
    refine fld_list rfl rfl (L2.but D9 ex6) ex9 T.cl T.n2 (by show 2 < 1000; decide) (fun H10 lp s10 n10 e10 => ?_)
    have np : H lp = none := but_none B9 ex9 n10
    have nxp : lp ≠ x := fun z => by rw [z, ex9] at n10; cases n10
    rw [putF_new (fs := [(Str.ofString "own_name", v0), (Str.ofString "own_options", .ref lo)]) (by show Str.ofString "own_places" ∉ [Str.ofString "own_name", Str.ofString "own_options"]; decide +kernel)]
    simp only [List.cons_append, List.nil_append]
    have B11 : But x H (upd H10 x (.ins CC dx [(Str.ofString "own_name", v0), (Str.ofString "own_options", .ref lo), (Str.ofString "own_places", .ref lp)])) := fun b ob nb eb => by rw [upd_ne nb]; exact s10 _ _ (B9 b ob nb eb)
    have C11 : But x H10 (upd H10 x (.ins CC dx [(Str.ofString "own_name", v0), (Str.ofString "own_options", .ref lo), (Str.ofString "own_places", .ref lp)])) := But.upd _ _ _
    have ex11 : (upd H10 x (.ins CC dx [(Str.ofString "own_name", v0), (Str.ofString "own_options", .ref lo), (Str.ofString "own_places", .ref lp)])) x = some (.ins CC dx [(Str.ofString "own_name", v0), (Str.ofString "own_options", .ref lo), (Str.ofString "own_places", .ref lp)]) := upd_same
    revert B11 C11 ex11
    generalize upd H10 x (.ins CC dx [(Str.ofString "own_name", v0), (Str.ofString "own_options", .ref lo), (Str.ofString "own_places", .ref lp)]) = H11
    intro B11 C11 ex11
    have eo11 := C11 _ _ nxo (s10 _ _ eo9)
    have ep11 := C11 _ _ nxp e10
    have D11 : But x H6 H11 := fun b ob nb eb => C11 _ _ nb (s10 _ _ (D9 _ _ nb eb))
    have lis := w3'.items.1
    refine fld_cop (gss := (its H v3).map (its H)) rfl rfl (L3.but D11 ex6) (by rw [List.length_map]) lis (fun i y e => ?_) ex11 T.cl T.n3 (by show 3 < 1000; decide) (fun H12 lg s12 g12 => ?_)
    · obtain ⟨b, g, e1, e2, e3⟩ := G3 i y e
      exact ⟨b, g, e1, B11 _ _ (fun z => by rw [z, ex] at e2; cases e2) e2, e3⟩
    have g0 : GL H H12 lg ((its H v3).map (its H)) := g12.base (fun b n => but_none B11 ex11 n)
    have hx : H x ≠ none := by rw [ex]; simp
    rw [putF_new (fs := [(Str.ofString "own_name", v0), (Str.ofString "own_options", .ref lo), (Str.ofString "own_places", .ref lp)]) (by show Str.ofString "own_groups" ∉ [Str.ofString "own_name", Str.ofString "own_options", Str.ofString "own_places"]; decide +kernel)]
    simp only [List.cons_append, List.nil_append]
    have B13 : But x H (upd H12 x (.ins CC dx [(Str.ofString "own_name", v0), (Str.ofString "own_options", .ref lo), (Str.ofString "own_places", .ref lp), (Str.ofString "own_groups", .ref lg)])) := fun b ob nb eb => by rw [upd_ne nb]; exact s12 _ _ (B11 b ob nb eb)
    have C13 : But x H12 (upd H12 x (.ins CC dx [(Str.ofString "own_name", v0), (Str.ofString "own_options", .ref lo), (Str.ofString "own_places", .ref lp), (Str.ofString "own_groups", .ref lg)])) := But.upd _ _ _
    have ex13 : (upd H12 x (.ins CC dx [(Str.ofString "own_name", v0), (Str.ofString "own_options", .ref lo), (Str.ofString "own_places", .ref lp), (Str.ofString "own_groups", .ref lg)])) x = some (.ins CC dx [(Str.ofString "own_name", v0), (Str.ofString "own_options", .ref lo), (Str.ofString "own_places", .ref lp), (Str.ofString "own_groups", .ref lg)]) := upd_same
    revert B13 C13 ex13
    generalize upd H12 x (.ins CC dx [(Str.ofString "own_name", v0), (Str.ofString "own_options", .ref lo), (Str.ofString "own_places", .ref lp), (Str.ofString "own_groups", .ref lg)]) = H13
    intro B13 C13 ex13
    have eo13 := C13 _ _ nxo (s12 _ _ eo11)
    have ep13 := C13 _ _ nxp (s12 _ _ ep11)
    have g13 := g0.but C13 hx
    have D13 : But x H6 H13 := fun b ob nb eb => C13 _ _ nb (s12 _ _ (D11 _ _ nb eb))
    refine fld_list rfl rfl (L4.but D13 ex6) ex13 T.cl T.n4 (by show 4 < 1000; decide) (fun H14 lc s14 n14 e14 => ?_)
    have nc : H lc = none := but_none B13 ex13 n14
    have nxc : lc ≠ x := fun z => by rw [z, ex13] at n14; cases n14
    have g14 : GL H H14 lg ((its H v3).map (its H)) := g13.but (x := x) (fun b ob _ e => s14 _ _ e) hx
    rw [putF_new (fs := [(Str.ofString "own_name", v0), (Str.ofString "own_options", .ref lo), (Str.ofString "own_places", .ref lp), (Str.ofString "own_groups", .ref lg)]) (by show Str.ofString "own_commands" ∉ [Str.ofString "own_name", Str.ofString "own_options", Str.ofString "own_places", Str.ofString "own_groups"]; decide +kernel)]
    simp only [List.cons_append, List.nil_append]
    have B15 : But x H (upd H14 x (.ins CC dx [(Str.ofString "own_name", v0), (Str.ofString "own_options", .ref lo), (Str.ofString "own_places", .ref lp), (Str.ofString "own_groups", .ref lg), (Str.ofString "own_commands", .ref lc)])) := fun b ob nb eb => by rw [upd_ne nb]; exact s14 _ _ (B13 b ob nb eb)
    have C15 : But x H14 (upd H14 x (.ins CC dx [(Str.ofString "own_name", v0), (Str.ofString "own_options", .ref lo), (Str.ofString "own_places", .ref lp), (Str.ofString "own_groups", .ref lg), (Str.ofString "own_commands", .ref lc)])) := But.upd _ _ _
    have ex15 : (upd H14 x (.ins CC dx [(Str.ofString "own_name", v0), (Str.ofString "own_options", .ref lo), (Str.ofString "own_places", .ref lp), (Str.ofString "own_groups", .ref lg), (Str.ofString "own_commands", .ref lc)])) x = some (.ins CC dx [(Str.ofString "own_name", v0), (Str.ofString "own_options", .ref lo), (Str.ofString "own_places", .ref lp), (Str.ofString "own_groups", .ref lg), (Str.ofString "own_commands", .ref lc)]) := upd_same
    revert B15 C15 ex15
    generalize upd H14 x (.ins CC dx [(Str.ofString "own_name", v0), (Str.ofString "own_options", .ref lo), (Str.ofString "own_places", .ref lp), (Str.ofString "own_groups", .ref lg), (Str.ofString "own_commands", .ref lc)]) = H15
    intro B15 C15 ex15
    have eo15 := C15 _ _ nxo (s14 _ _ eo13)
    have ep15 := C15 _ _ nxp (s14 _ _ ep13)
    have g15 := g14.but C15 hx
    have ec15 := C15 _ _ nxc e14
    refine ⟨v5, rfl, .ref x, rfl, x, CC, dx, _, rfl, ex15, T.cl, T.n5, by show 5 < 1000; decide, ?_⟩
    rw [putF_new (fs := [(Str.ofString "own_name", v0), (Str.ofString "own_options", .ref lo), (Str.ofString "own_places", .ref lp), (Str.ofString "own_groups", .ref lg), (Str.ofString "own_commands", .ref lc)]) (by show Str.ofString "own_about" ∉ [Str.ofString "own_name", Str.ofString "own_options", Str.ofString "own_places", Str.ofString "own_groups", Str.ofString "own_commands"]; decide +kernel)]
    simp only [List.cons_append, List.nil_append]
    have B16 : But x H (upd H15 x (.ins CC dx [(Str.ofString "own_name", v0), (Str.ofString "own_options", .ref lo), (Str.ofString "own_places", .ref lp), (Str.ofString "own_groups", .ref lg), (Str.ofString "own_commands", .ref lc), (Str.ofString "own_about", v5)])) := fun b ob nb eb => by rw [upd_ne nb]; exact B15 b ob nb eb
    have C16 : But x H15 (upd H15 x (.ins CC dx [(Str.ofString "own_name", v0), (Str.ofString "own_options", .ref lo), (Str.ofString "own_places", .ref lp), (Str.ofString "own_groups", .ref lg), (Str.ofString "own_commands", .ref lc), (Str.ofString "own_about", v5)])) := But.upd _ _ _
    have ex16 : (upd H15 x (.ins CC dx [(Str.ofString "own_name", v0), (Str.ofString "own_options", .ref lo), (Str.ofString "own_places", .ref lp), (Str.ofString "own_groups", .ref lg), (Str.ofString "own_commands", .ref lc), (Str.ofString "own_about", v5)])) x = some (.ins CC dx [(Str.ofString "own_name", v0), (Str.ofString "own_options", .ref lo), (Str.ofString "own_places", .ref lp), (Str.ofString "own_groups", .ref lg), (Str.ofString "own_commands", .ref lc), (Str.ofString "own_about", v5)]) := upd_same
    revert B16 C16 ex16
    generalize upd H15 x (.ins CC dx [(Str.ofString "own_name", v0), (Str.ofString "own_options", .ref lo), (Str.ofString "own_places", .ref lp), (Str.ofString "own_groups", .ref lg), (Str.ofString "own_commands", .ref lc), (Str.ofString "own_about", v5)]) = H16
    intro B16 C16 ex16
    exact qok e H16 B16 ⟨dx, lo, lp, lg, lc, ex16, ⟨no, C16 _ _ nxo eo15⟩, ⟨np, C16 _ _ nxp ep15⟩, g15.but C16 hx, ⟨nc, C16 _ _ nxc ec15⟩⟩
end
end WB

set_option Elab.async false
set_option linter.all false
set_option maxRecDepth 100000
set_option maxHeartbeats 4000000
namespace WB
open PySem PySem.Spec PyProof.Rows L2 WG
open TL (tl)
abbrev st_Command_name : Stmt := inClass (topS 58) 1
theorem sc_Command_name : FnScope ["self"] ["self"] (defScope st_Command_name) := ⟨rfl, rfl, rfl, by decide +kernel, rfl, by decide +kernel, by decide +kernel⟩
abbrev st_Command_options : Stmt := inClass (topS 58) 2
theorem sc_Command_options : FnScope ["self"] ["self"] (defScope st_Command_options) := ⟨rfl, rfl, rfl, by decide +kernel, rfl, by decide +kernel, by decide +kernel⟩
abbrev st_Command_places : Stmt := inClass (topS 58) 3
theorem sc_Command_places : FnScope ["self"] ["self"] (defScope st_Command_places) := ⟨rfl, rfl, rfl, by decide +kernel, rfl, by decide +kernel, by decide +kernel⟩
abbrev st_Command_groups : Stmt := inClass (topS 58) 4
theorem sc_Command_groups : FnScope ["self"] ["self"] (defScope st_Command_groups) := ⟨rfl, rfl, rfl, by decide +kernel, rfl, by decide +kernel, by decide +kernel⟩
abbrev st_Command_commands : Stmt := inClass (topS 58) 5
theorem sc_Command_commands : FnScope ["self"] ["self"] (defScope st_Command_commands) := ⟨rfl, rfl, rfl, by decide +kernel, rfl, by decide +kernel, by decide +kernel⟩
abbrev st_Command_about : Stmt := inClass (topS 58) 6
theorem sc_Command_about : FnScope ["self"] ["self"] (defScope st_Command_about) := ⟨rfl, rfl, rfl, by decide +kernel, rfl, by decide +kernel, by decide +kernel⟩
section
variable {v0 v5 : V} {lo lp lg lc : Addr}
theorem cmd_look : (cmdF v0 lo lp lg lc v5).lookup ("own_name" : Str) = some v0 ∧ (cmdF v0 lo lp lg lc v5).lookup ("own_options" : Str) = some (.ref lo) ∧ (cmdF v0 lo lp lg lc v5).lookup ("own_places" : Str) = some (.ref lp) ∧ (cmdF v0 lo lp lg lc v5).lookup ("own_groups" : Str) = some (.ref lg) ∧ (cmdF v0 lo lp lg lc v5).lookup ("own_commands" : Str) = some (.ref lc) ∧ (cmdF v0 lo lp lg lc v5).lookup ("own_about" : Str) = some v5 := ⟨rfl, rfl, rfl, rfl, rfl, rfl⟩
theorem cmd_none {m : Str} (h : m ∉ [("own_name" : Str), "own_options", "own_places", "own_groups", "own_commands", "own_about"]) : (cmdF v0 lo lp lg lc v5).lookup m = none := by
  unfold cmdF
  simp only [List.mem_cons, List.not_mem_nil, or_false, not_or] at h
  obtain ⟨h1, h2, h3, h4, h5, h6⟩ := h
  simp only [List.lookup, beq_false_of_ne h1, beq_false_of_ne h2, beq_false_of_ne h3, beq_false_of_ne h4, beq_false_of_ne h5, beq_false_of_ne h6]
end
/-- a command as it stands -/
structure Cm (CC : Addr) (H : Hp) (x dx lo lp lg lc : Addr) (v0 : V) (os ps : List V) (as : List Addr) (gss : List (List V)) (cs : List V) (v5 : V) : Prop where
  ex : H x = some (.ins CC dx (cmdF v0 lo lp lg lc v5))
  o : H lo = some (.lst os)
  p : H lp = some (.lst ps)
  g : H lg = some (.lst (as.map V.ref))
  gl : as.length = gss.length
  ge : ∀ (i : Nat) (a : Addr), as[i]? = some a → ∃ g, gss[i]? = some g ∧ H a = some (.lst g)
  c : H lc = some (.lst cs)
theorem CmdAt.cm {CC : Addr} {H0 H : Hp} {x : Addr} {v0 : V} {os ps : List V} {gss : List (List V)} {cs : List V} {v5 : V} (h : CmdAt CC H0 H x v0 os ps gss cs v5) : ∃ dx lo lp lg lc as, Cm CC H x dx lo lp lg lc v0 os ps as gss cs v5 ∧ H0 lo = none ∧ H0 lp = none ∧ H0 lg = none ∧ H0 lc = none ∧ ∀ a ∈ as, H0 a = none := by
  obtain ⟨dx, lo, lp, lg, lc, ex, ⟨n1, e1⟩, ⟨n2, e2⟩, ⟨n3, as, e3, le, ha, nd⟩, ⟨n4, e4⟩⟩ := h.ex
  refine ⟨dx, lo, lp, lg, lc, as, ⟨ex, e1, e2, e3, le, fun i a e => ?_, e4⟩, n1, n2, n3, n4, fun a hm => ?_⟩
  · obtain ⟨_, _, g, h1, h2⟩ := ha i a e
    exact ⟨g, h1, h2⟩
  · obtain ⟨j, hj, e⟩ := List.mem_iff_getElem.mp hm
    exact (ha j a (by rw [List.getElem?_eq_getElem hj, e])).1
theorem Cm.keep {CC : Addr} {H H' : Hp} {x dx lo lp lg lc : Addr} {v0 : V} {os ps : List V} {as : List Addr} {gss : List (List V)} {cs : List V} {v5 : V} (h : Cm CC H x dx lo lp lg lc v0 os ps as gss cs v5) (k : ∀ b o, (b = x ∨ b = lo ∨ b = lp ∨ b = lg ∨ b = lc ∨ b ∈ as) → H b = some o → H' b = some o) : Cm CC H' x dx lo lp lg lc v0 os ps as gss cs v5 := by
  refine ⟨k _ _ (.inl rfl) h.ex, k _ _ (.inr (.inl rfl)) h.o, k _ _ (.inr (.inr (.inl rfl))) h.p, k _ _ (.inr (.inr (.inr (.inl rfl)))) h.g, h.gl, fun i a e => ?_, k _ _ (.inr (.inr (.inr (.inr (.inl rfl))))) h.c⟩
  obtain ⟨g, h1, h2⟩ := h.ge i a e
  exact ⟨g, h1, k _ _ (.inr (.inr (.inr (.inr (.inr (List.mem_of_getElem? e)))))) h2⟩
theorem Cm.same {CC : Addr} {H H' : Hp} {x dx lo lp lg lc : Addr} {v0 : V} {os ps : List V} {as : List Addr} {gss : List (List V)} {cs : List V} {v5 : V} (h : Cm CC H x dx lo lp lg lc v0 os ps as gss cs v5) (s : Same H H') : Cm CC H' x dx lo lp lg lc v0 os ps as gss cs v5 := h.keep (fun b o _ e => s b o e)
section
variable {P : Program} {w : World} {K : PySem.W.Frag} {mg : Str → Option Value} {base : Heap}
def spGetV (CC : Addr) (f : Str) : Sp := fun xs H Q _ => ∃ (x dx : Addr) (fs : List (Str × V)) (v : V), xs = [.ref x] ∧ H x = some (.ins CC dx fs) ∧ fs.lookup f = some v ∧ Q v H
def spGetL (CC : Addr) (f : Str) : Sp := fun xs H Q _ => ∃ (x dx : Addr) (fs : List (Str × V)) (a : Addr) (ys : List V), xs = [.ref x] ∧ H x = some (.ins CC dx fs) ∧ fs.lookup f = some (.ref a) ∧ H a = some (.lst ys) ∧ ∀ l, H l = none → Q (.ref l) (upd H l (.lst ys))
def spGetG (CC : Addr) : Sp := fun xs H Q _ => ∃ (x dx : Addr) (fs : List (Str × V)) (a : Addr) (as : List Addr) (gss : List (List V)), xs = [.ref x] ∧ H x = some (.ins CC dx fs) ∧ fs.lookup ("own_groups" : Str) = some (.ref a) ∧ H a = some (.lst (as.map V.ref)) ∧ as.length = gss.length ∧ as.length ≤ 1000 ∧ (∀ (i : Nat) (b : Addr), as[i]? = some b → ∃ g, gss[i]? = some g ∧ H b = some (.lst g)) ∧ ∀ H' l, Same H H' → GL H H' l gss → Q (.ref l) H'
theorem ok_cname {CC f : Addr} {fd : FuncData} {k : Nat} (F : Fun K "name" "Command.name" st_Command_name f fd) (T : ClsC K CC) : FnOk P w K mg base CX0 (k + 1) f fd ["self"] (spGetV CC "own_name") := by
  refine F.ok sc_Command_name (fun vs H Q E h => ?_) (fun cdv A outer s H vs Q E hr h => ?_)
  · obtain ⟨x, dx, fs, v, rfl, _⟩ := h
    rfl
  · obtain ⟨x, dx, fs, v, rfl, ex, el, q⟩ := h
    refine ⟨_, pss_one (ps_ret (pe_fld (pv 0) rfl)), ?_⟩
    exact ⟨.ref x, rfl, x, CC, dx, fs, v, rfl, ex, T.cl, T.n0, el, q⟩
theorem ok_cabout {CC f : Addr} {fd : FuncData} {k : Nat} (F : Fun K "about" "Command.about" st_Command_about f fd) (T : ClsC K CC) : FnOk P w K mg base CX0 (k + 1) f fd ["self"] (spGetV CC "own_about") := by
  refine F.ok sc_Command_about (fun vs H Q E h => ?_) (fun cdv A outer s H vs Q E hr h => ?_)
  · obtain ⟨x, dx, fs, v, rfl, _⟩ := h
    rfl
  · obtain ⟨x, dx, fs, v, rfl, ex, el, q⟩ := h
    refine ⟨_, pss_one (ps_ret (pe_fld (pv 0) rfl)), ?_⟩
    exact ⟨.ref x, rfl, x, CC, dx, fs, v, rfl, ex, T.cl, T.n5, el, q⟩
theorem ok_coptions {CC f : Addr} {fd : FuncData} {k : Nat} (F : Fun K "options" "Command.options" st_Command_options f fd) (T : ClsC K CC) (m_list : mg "list" = none) : FnOk P w K mg base CX0 (k + 1) f fd ["self"] (spGetL CC "own_options") := by
  refine F.ok sc_Command_options (fun vs H Q E h => ?_) (fun cdv A outer s H vs Q E hr h => ?_)
  · obtain ⟨x, dx, fs, a, ys, rfl, _⟩ := h
    rfl
  · obtain ⟨x, dx, fs, a, ys, rfl, ex, el, ea, q⟩ := h
    refine ⟨_, pss_one (ps_ret (pe_callTy (r := rListOf K) call_listOf (by rfl) m_list (by decide +kernel) (pa_cons (pe_fld (pv 0) rfl) pa_nil))), ?_⟩
    exact ⟨.ref x, rfl, x, CC, dx, fs, .ref a, rfl, ex, T.cl, T.n1, el, a, ys, rfl, .inl (SqL.of ea), q⟩
theorem ok_cplaces {CC f : Addr} {fd : FuncData} {k : Nat} (F : Fun K "places" "Command.places" st_Command_places f fd) (T : ClsC K CC) (m_list : mg "list" = none) : FnOk P w K mg base CX0 (k + 1) f fd ["self"] (spGetL CC "own_places") := by
  refine F.ok sc_Command_places (fun vs H Q E h => ?_) (fun cdv A outer s H vs Q E hr h => ?_)
  · obtain ⟨x, dx, fs, a, ys, rfl, _⟩ := h
    rfl
  · obtain ⟨x, dx, fs, a, ys, rfl, ex, el, ea, q⟩ := h
    refine ⟨_, pss_one (ps_ret (pe_callTy (r := rListOf K) call_listOf (by rfl) m_list (by decide +kernel) (pa_cons (pe_fld (pv 0) rfl) pa_nil))), ?_⟩
    exact ⟨.ref x, rfl, x, CC, dx, fs, .ref a, rfl, ex, T.cl, T.n2, el, a, ys, rfl, .inl (SqL.of ea), q⟩
theorem ok_ccommands {CC f : Addr} {fd : FuncData} {k : Nat} (F : Fun K "commands" "Command.commands" st_Command_commands f fd) (T : ClsC K CC) (m_list : mg "list" = none) : FnOk P w K mg base CX0 (k + 1) f fd ["self"] (spGetL CC "own_commands") := by
  refine F.ok sc_Command_commands (fun vs H Q E h => ?_) (fun cdv A outer s H vs Q E hr h => ?_)
  · obtain ⟨x, dx, fs, a, ys, rfl, _⟩ := h
    rfl
  · obtain ⟨x, dx, fs, a, ys, rfl, ex, el, ea, q⟩ := h
    refine ⟨_, pss_one (ps_ret (pe_callTy (r := rListOf K) call_listOf (by rfl) m_list (by decide +kernel) (pa_cons (pe_fld (pv 0) rfl) pa_nil))), ?_⟩
    exact ⟨.ref x, rfl, x, CC, dx, fs, .ref a, rfl, ex, T.cl, T.n4, el, a, ys, rfl, .inl (SqL.of ea), q⟩
theorem ok_cgroups {CC f fC : Addr} {fd fdC : FuncData} {k : Nat} (F : Fun K "groups" "Command.groups" st_Command_groups f fd) (T : ClsC K CC) (D_copied_groups : Df K mg "copied_groups" st_copied_groups ["groups"] fC fdC) (m_list : mg "list" = none) : FnOk P w K mg base CX0 (k + 2) f fd ["self"] (spGetG CC) := by
  have G_copied_groups : FnOk P w K mg base CX0 (k + 1) fC fdC ["groups"] spCopied := ok_copied D_copied_groups.F m_list
  refine F.ok sc_Command_groups (fun vs H Q E h => ?_) (fun cdv A outer s H vs Q E hr h => ?_)
  · obtain ⟨x, dx, fs, a, as, gss, rfl, _⟩ := h
    rfl
  · obtain ⟨x, dx, fs, a, as, gss, rfl, ex, el, ea, le, l3, ha, q⟩ := h
    refine ⟨_, pss_one (ps_ret (pe_call G_copied_groups hr (by rfl) D_copied_groups.g D_copied_groups.F.kp D_copied_groups.b .nil pass0 (pa_cons (pe_fld (pv 0) rfl) pa_nil))), ?_⟩
    refine ⟨.ref x, rfl, x, CC, dx, fs, .ref a, rfl, ex, T.cl, T.n3, el, a, _, gss, rfl, ea, by rw [List.length_map]; exact le, by rw [List.length_map]; exact l3, fun i y e => ?_, q⟩
    rw [List.getElem?_map] at e
    obtain ⟨b, h1, h2⟩ := Option.map_eq_some_iff.mp e
    obtain ⟨g, h3, h4⟩ := ha i b h1
    exact ⟨b, g, h2.symm, h4, h3⟩
end
end WB

set_option Elab.async false
set_option linter.all false
set_option maxRecDepth 100000
set_option maxHeartbeats 4000000
namespace WB
open PySem PySem.Spec PyProof.Rows L2 WG
open TL (tl)
/-! ### repr of a list of instances, where the context is not named -/
def RpOk (P : Program) (w : World) (K : PySem.W.Frag) (mg : Str → Option Value) (base : Heap) (n : Nat) (H : Hp) (a : Addr) (t : Str) : Prop := ∀ X : Cx, X.prog = P → X.w = w → X.K = K → X.mg = mg → X.base = base → RpI X n H a t
def rReprM (P : Program) (w : World) (K : PySem.W.Frag) (mg : Str → Option Value) (base : Heap) (n : Nat) : List V → Hp → VK → Prop := fun xs H Q => ∃ (l : Addr) (as : List Addr) (ts : List Str), xs = [.ref l] ∧ H l = some (.lst (as.map V.ref)) ∧ ts.length = as.length ∧
  (∀ (i : Nat) (a : Addr), as[i]? = some a → ∃ t, ts[i]? = some t ∧ RpOk P w K mg base n H a t) ∧ (listText ts).length ≤ sizeLine ∧ ∀ H', Same H H' → Q (.str (listText ts)) H'
theorem call_reprM {X : Cx} {n : Nat} (hg : X.A.guards = some []) (hr : Room (n + 2) X.A) : CallR X (.builtin "repr") (rReprM X.prog X.w X.K X.mg X.base n) := by
  intro pins s σ H xs us Q I rels ask
  obtain ⟨l, as, ts, e, el, hlen, hT, hsz, q⟩ := ask
  cases as with
  | cons a r => exact call_reprIs hg hr pins s σ H xs us Q I rels ⟨l, a :: r, ts, e, el, by simp, hlen, fun i x hx => by obtain ⟨t, h1, h2⟩ := hT i x hx; exact ⟨t, h1, h2 X rfl rfl rfl rfl rfl⟩, hsz, q⟩
  | nil =>
    subst e
    obtain ⟨u, rfl, rel⟩ := vals1 rels
    cases rel
    have t0 : ts = [] := List.length_eq_zero_iff.mp hlen
    subst t0
    obtain ⟨_, its, n', rv, g⟩ := (show ObjOk _ _ H s.heap l (.lst []) from I.hok l _ el)
    cases rv
    refine call_repr_slot (T := "list") (idr := "list.__repr__") (by have := hr.un; omega) ⟨_, g, rfl⟩ F.slot_list_repr.toG ?_
    exact call_list_repr_empty ⟨_, g, rfl⟩ g rfl ⟨_, _, rfl, .str (listText []), H, I.tok _, ⟨_, rfl⟩, q H (Same.refl _)⟩
/-! ### what instances hold -/
def heldV (H : Hp) : V → List V
  | .ref a => match H a with
    | some (.ins _ _ fs) => match fs.lookup ("held" : Str) with
      | some (.ref t) => match H t with
        | some (.tup vs) => vs
        | _ => []
      | _ => []
    | _ => []
  | _ => []
theorem held_of {H : Hp} {C a : Addr} {vs : List V} (h : IsT H C a vs) : heldV H (.ref a) = vs := by
  obtain ⟨_, dx, t, e1, e2⟩ := h
  unfold heldV
  simp only [e1, held_look, e2]
/-- an instance of C, that holds at most eight things -/
def Ins (C : Addr) (H : Hp) (v : V) : Prop := ∃ a vs, v = .ref a ∧ IsT H C a vs ∧ vs.length ≤ 8
theorem Ins.same {C : Addr} {H H' : Hp} {v : V} (h : Ins C H v) (s : Same H H') : Ins C H' v := by
  obtain ⟨a, vs, e, t, l⟩ := h
  exact ⟨a, vs, e, t.same s, l⟩
theorem Ins.held {C : Addr} {H H' : Hp} {v : V} (h : Ins C H v) (s : Same H H') : heldV H' v = heldV H v := by
  obtain ⟨a, vs, rfl, t, l⟩ := h
  rw [held_of t, held_of (t.same s)]
def sh (nm : String) (H : Hp) (v : V) : Str := shw nm (heldV H v)
def tx (nm : String) (H : Hp) (xs : List V) : Str := listText (xs.map (sh nm H))
theorem tx_same {C : Addr} {nm : String} {H H' : Hp} {xs : List V} (h : ∀ x ∈ xs, Ins C H x) (s : Same H H') : tx nm H' xs = tx nm H xs := by
  unfold tx
  congr 1
  exact List.map_congr_left fun x hx => by unfold sh; rw [(h x hx).held s]
theorem textFrom_le : ∀ (ts : List Str) (k : Nat) (acc : Str) (m : Nat), (∀ t ∈ ts, t.length ≤ m) → (textFrom k acc ts).length ≤ acc.length + ts.length * (m + 2)
  | [], k, acc, m, _ => by show acc.length ≤ _; omega
  | t :: r, k, acc, m, h => by
    have ih := textFrom_le r (k + 1) (acc ++ (if k > 0 then ", " else "" : String) ++ t) m (fun x hx => h x (List.mem_cons_of_mem _ hx))
    have h1 := h t List.mem_cons_self
    have h2 : (Str.ofString (if k > 0 then ", " else "" : String)).length ≤ 2 := by
      split
      · decide +kernel
      · decide +kernel
    have e : (acc ++ (if k > 0 then ", " else "" : String) ++ t : Str).length = acc.length + (Str.ofString (if k > 0 then ", " else "" : String)).length + t.length := by
      rw [Str.length_append, Str.length_append]
    show (textFrom (k + 1) (acc ++ (if k > 0 then ", " else "" : String) ++ t) r).length ≤ _
    rw [List.length_cons, Nat.succ_mul]
    omega
theorem listText_le {ts : List Str} {m : Nat} (h : ∀ t ∈ ts, t.length ≤ m) : (listText ts).length ≤ ts.length * (m + 2) + 2 := by
  have e := textFrom_le ts 0 "[" m h
  have e2 : (Str.ofString "[").length = 1 := by decide +kernel
  have e3 : (Str.ofString "]").length = 1 := by decide +kernel
  show (textFrom 0 (Str.ofString "[") ts ++ Str.ofString "]").length ≤ _
  rw [Str.length_append]
  have e' : (textFrom 0 (Str.ofString "[") ts).length ≤ (Str.ofString "[").length + ts.length * (m + 2) := e
  omega
theorem shw_le {nm : String} {vs : List V} (h : AllFl vs) (l : vs.length ≤ 8) (hn : (Str.empty ++ Str.ofString nm).length ≤ 10) : (shw nm vs).length ≤ 70020 := by
  have l1 := cj_len h (by omega)
  have l3 : (Str.ofString ")").length = 1 := by decide +kernel
  unfold shw
  rw [Str.length_append, Str.length_append, l3]
  omega
theorem tx_le {C : Addr} {nm : String} {H : Hp} {xs : List V} (h : ∀ x ∈ xs, Ins C H x) (l : xs.length ≤ 20) (hn : (Str.empty ++ Str.ofString nm).length ≤ 10) : (tx nm H xs).length ≤ 1500000 := by
  have e := listText_le (ts := xs.map (sh nm H)) (m := 70020) (fun t ht => by
    obtain ⟨x, hx, rfl⟩ := List.mem_map.mp ht
    obtain ⟨a, vs, rfl, ti, lv⟩ := h x hx
    show (shw nm (heldV H (.ref a))).length ≤ 70020
    rw [held_of ti]
    exact shw_le ti.1 lv hn)
  rw [List.length_map] at e
  unfold tx
  have : xs.length * (70020 + 2) ≤ 20 * (70020 + 2) := Nat.mul_le_mul_right _ l
  omega
/-- an own repr, as the written part tells it -/
def RpD (P : Program) (w : World) (K : PySem.W.Frag) (mg : Str → Option Value) (base : Heap) (n : Nat) (C : Addr) (nm : String) : Prop := ∃ f fd, FnOk P w K mg base CX0 n f fd ["self"] (spRepr C nm) ∧ Binds K fd ["self"] [] ∧ PySem.W.findIn K (.ref C) "__repr__" = some (some (.ref f)) ∧ PySem.W.isFn K (.ref f) = true
theorem RpD.ok {P : Program} {w : World} {K : PySem.W.Frag} {mg : Str → Option Value} {base : Heap} {n : Nat} {C a : Addr} {nm : String} {H : Hp} {vs : List V} (r : RpD P w K mg base n C nm) (h : IsT H C a vs) (l : vs.length ≤ 8) : RpOk P w K mg base n H a (shw nm vs) := by
  rintro X rfl rfl rfl rfl rfl
  obtain ⟨f, fd, h1, h2, h3, h4⟩ := r
  obtain ⟨_, dx, t, ea, _⟩ := id h
  exact ⟨C, f, dx, fd, _, _, h1, h2, h3, h4, ea, fun H1 s1 => ⟨a, vs, rfl, h.same s1, by omega, fun H' s' => ⟨rfl, s'⟩⟩⟩
theorem refs_of {C : Addr} {H : Hp} : ∀ {xs : List V}, (∀ x ∈ xs, Ins C H x) → ∃ as : List Addr, xs = as.map V.ref
  | [], _ => ⟨[], rfl⟩
  | x :: r, h => by
    obtain ⟨a, vs, rfl, _⟩ := h x List.mem_cons_self
    obtain ⟨as, e⟩ := refs_of (xs := r) fun y hy => h y (List.mem_cons_of_mem _ hy)
    exact ⟨a :: as, by rw [e]; rfl⟩
/-- what is asked by repr of a list of such instances -/
theorem reprM_of {P : Program} {w : World} {K : PySem.W.Frag} {mg : Str → Option Value} {base : Heap} {n : Nat} {C l : Addr} {nm : String} {H : Hp} {xs : List V} {Q : VK} (r : RpD P w K mg base n C nm) (hn : (Str.empty ++ Str.ofString nm).length ≤ 10) (el : H l = some (.lst xs)) (h : ∀ x ∈ xs, Ins C H x) (le : xs.length ≤ 20) (q : ∀ H', Same H H' → Q (.str (tx nm H xs)) H') : rReprM P w K mg base n [.ref l] H Q := by
  have sl : sizeLine = 16777216 := sizeLine_eq
  obtain ⟨as, rfl⟩ := refs_of h
  have e := tx_le h le hn
  refine ⟨l, as, (as.map V.ref).map (sh nm H), rfl, el, by rw [List.length_map, List.length_map], fun i a hx => ?_, by show (tx nm H (as.map V.ref)).length ≤ _; omega, q⟩
  have hm : V.ref a ∈ as.map V.ref := List.mem_map.mpr ⟨a, List.mem_of_getElem? hx, rfl⟩
  obtain ⟨a', vs, e1, t, lv⟩ := h _ hm
  cases e1
  refine ⟨shw nm vs, ?_, r.ok t lv⟩
  rw [List.getElem?_map, List.getElem?_map, hx]
  show some (shw nm (heldV H (.ref a))) = _
  rw [held_of t]
end WB

set_option Elab.async false
set_option linter.all false
set_option maxRecDepth 100000
set_option maxHeartbeats 4000000
namespace WB
open PySem PySem.Spec PyProof.Rows L2 WG
open TL (tl)
open Builtin.Str (reprChar)
/-! ### signs of shown texts -/
def P8 (z : Str) : Prop := ∀ c ∈ tl z, c < 256
theorem P8.app {x y : Str} (h : P8 x) (k : P8 y) : P8 (x ++ y) := fun c hc => by
  rw [TL.tl_append] at hc
  rcases List.mem_append.mp hc with z | z
  · exact h c z
  · exact k c z
theorem fold_repr (q : Nat) : ∀ (l : List Nat) (acc : Array Nat), (l.foldl (fun out c => out ++ (reprChar q c).toArray) acc).toList = acc.toList ++ l.flatMap (reprChar q)
  | [], acc => by simp
  | c :: r, acc => by
    rw [List.foldl_cons, fold_repr q r, List.flatMap_cons]
    simp
theorem tl_repr (x : Str) : tl (reprText x) = reprQuote x :: ((tl x).flatMap (reprChar (reprQuote x)) ++ [reprQuote x]) := by
  unfold reprText
  show ((x.cps.foldl (fun out c => out ++ (reprChar (reprQuote x) c).toArray) #[reprQuote x]).push (reprQuote x)).toList = _
  rw [Array.toList_push, ← Array.foldl_toList, fold_repr]
  rfl
theorem quote_cases (x : Str) : reprQuote x = 34 ∨ reprQuote x = 39 := by
  unfold reprQuote
  split
  · exact .inl rfl
  · exact .inr rfl
theorem char8 : ∀ q ∈ [34, 39], ∀ c, c < 256 → ∀ d ∈ reprChar q c, d < 256 := by decide +kernel
theorem repr8 {z : Str} (h : P8 z) : P8 (reprText z) := fun c hc => by
  rw [tl_repr] at hc
  have q : reprQuote z ∈ [34, 39] := by rcases quote_cases z with q | q <;> rw [q] <;> decide
  have q8 : reprQuote z < 256 := by rcases quote_cases z with q | q <;> rw [q] <;> decide
  rcases List.mem_cons.mp hc with z1 | z1
  · rw [z1]
    exact q8
  · rcases List.mem_append.mp z1 with z2 | z2
    · obtain ⟨d, hd, hx⟩ := List.mem_flatMap.mp z2
      exact char8 _ q d (h d hd) c hx
    · rw [List.mem_singleton.mp z2]
      exact q8
theorem rp8 {v : V} (h : Fl v) : P8 (rp v) := by
  cases h with
  | non => show P8 (Str.ofString "None"); intro c hc; revert c; decide +kernel
  | bl b => cases b <;> (intro c hc; revert c; decide +kernel)
  | str h => exact repr8 h.pl
theorem cj8 {vs : List V} (h : AllFl vs) : P8 (cj vs) := fun c hc => by
  unfold cj at hc
  rw [TL.join_eq, TL.tl_join] at hc
  rcases mem_joinL _ _ c hc with h1 | ⟨p, hp, h1⟩
  · exact (by decide +kernel : ∀ c ∈ tl (Str.ofString ", "), c < 256) c h1
  · obtain ⟨x, hx, rfl⟩ := List.mem_map.mp hp
    obtain ⟨v, hv, rfl⟩ := List.mem_map.mp hx
    exact rp8 (h v hv) c h1
theorem shw8 {nm : String} {vs : List V} (hn : ∀ c ∈ tl (Str.ofString nm), c < 256) (h : AllFl vs) : P8 (shw nm vs) := by
  unfold shw
  exact P8.app (P8.app (P8.app (fun c hc => by cases hc) hn) (cj8 h)) (by intro c hc; revert c; decide +kernel)
theorem textFrom8 : ∀ (ts : List Str) (k : Nat) (acc : Str), P8 acc → (∀ t ∈ ts, P8 t) → P8 (textFrom k acc ts)
  | [], k, acc, h, _ => h
  | t :: r, k, acc, h, ht => by
    have hs : P8 (Str.ofString (if k > 0 then ", " else "" : String)) := by
      split
      · intro c hc; revert c; decide +kernel
      · intro c hc; revert c; decide +kernel
    exact textFrom8 r (k + 1) _ ((h.app hs).app (ht t List.mem_cons_self)) (fun x hx => ht x (List.mem_cons_of_mem _ hx))
theorem tx8 {C : Addr} {nm : String} {H : Hp} {xs : List V} (hn : ∀ c ∈ tl (Str.ofString nm), c < 256) (h : ∀ x ∈ xs, Ins C H x) : P8 (tx nm H xs) := by
  refine P8.app (x := textFrom 0 (Str.ofString "[") (xs.map (sh nm H))) (y := Str.ofString "]") (textFrom8 _ 0 _ (by intro c hc; revert c; decide +kernel) fun t ht => ?_) (by intro c hc; revert c; decide +kernel)
  obtain ⟨x, hx, rfl⟩ := List.mem_map.mp ht
  obtain ⟨a, vs, rfl, ti, lv⟩ := h x hx
  show P8 (shw nm (heldV H (.ref a)))
  rw [held_of ti]
  exact shw8 hn ti.1
/-! ### data in new lists -/
mutual
inductive DN (H0 H : Hp) : V → PyData → Prop
  | str {z : Str} (h : P8 z) : DN H0 H (.str z) (.str z)
  | lst {a : Addr} {xs : List V} {ds : List PyData} (n : H0 a = none) (e : H a = some (.lst xs)) (h : DNs H0 H xs ds) : DN H0 H (.ref a) (.list ds)
inductive DNs (H0 H : Hp) : List V → List PyData → Prop
  | nil : DNs H0 H [] []
  | cons {v : V} {vs : List V} {d : PyData} {ds : List PyData} (h : DN H0 H v d) (t : DNs H0 H vs ds) : DNs H0 H (v :: vs) (d :: ds)
end
section
variable {K : PySem.W.Frag} {H0 H1 H H' : Hp}
mutual
theorem DN.dp : ∀ {v : V} {d : PyData}, DN H0 H v d → Dp K H v d
  | _, _, .str _ => .str _
  | _, _, .lst n e h => .lst (SqL.of e) (DNs.dp h)
theorem DNs.dp : ∀ {vs : List V} {ds : List PyData}, DNs H0 H vs ds → DpAll K H vs ds
  | _, _, .nil => .nil
  | _, _, .cons h t => .cons (DN.dp h) (DNs.dp t)
end
mutual
theorem DN.keep (k : ∀ b o, H0 b = none → H b = some o → H' b = some o) : ∀ {v : V} {d : PyData}, DN H0 H v d → DN H0 H' v d
  | _, _, .str h => .str h
  | _, _, .lst n e h => .lst n (k _ _ n e) (DNs.keep k h)
theorem DNs.keep (k : ∀ b o, H0 b = none → H b = some o → H' b = some o) : ∀ {vs : List V} {ds : List PyData}, DNs H0 H vs ds → DNs H0 H' vs ds
  | _, _, .nil => .nil
  | _, _, .cons h t => .cons (DN.keep k h) (DNs.keep k t)
end
mutual
theorem DN.base (k : ∀ b, H1 b = none → H0 b = none) : ∀ {v : V} {d : PyData}, DN H1 H v d → DN H0 H v d
  | _, _, .str h => .str h
  | _, _, .lst n e h => .lst (k _ n) e (DNs.base k h)
theorem DNs.base (k : ∀ b, H1 b = none → H0 b = none) : ∀ {vs : List V} {ds : List PyData}, DNs H1 H vs ds → DNs H0 H vs ds
  | _, _, .nil => .nil
  | _, _, .cons h t => .cons (DN.base k h) (DNs.base k t)
end
mutual
theorem DN.lay : ∀ {v : V} {d : PyData}, DN H0 H v d → d.canLay0 = true
  | _, _, .str h => by simp [PyData.canLay0, strOk_of h]
  | _, _, .lst n e h => by
    have := DNs.lay h
    simp [PyData.canLay0, this]
theorem DNs.lay : ∀ {vs : List V} {ds : List PyData}, DNs H0 H vs ds → PyData.canLayAll0 ds = true
  | _, _, .nil => by simp [PyData.canLayAll0]
  | _, _, .cons h t => by
    have h1 := DN.lay h
    have h2 := DNs.lay t
    simp [PyData.canLayAll0, h1, h2]
end
theorem DNs.app {vs ws : List V} {ds es : List PyData} (h : DNs H0 H vs ds) (k : DNs H0 H ws es) : DNs H0 H (vs ++ ws) (ds ++ es) := by
  cases h with
  | nil => exact k
  | cons h t => exact .cons h (DNs.app t k)
end
end WB

set_option Elab.async false
set_option linter.all false
set_option maxRecDepth 100000
set_option maxHeartbeats 4000000
namespace WB
open PySem PySem.Spec PyProof.Rows L2 WG
open TL (tl)
abbrev st_Option_long : Stmt := inClass (topS 42) 1
theorem sc_Option_long : FnScope ["self"] ["self"] (defScope st_Option_long) := ⟨rfl, rfl, rfl, by decide +kernel, rfl, by decide +kernel, by decide +kernel⟩
abbrev st_Option_short : Stmt := inClass (topS 42) 2
theorem sc_Option_short : FnScope ["self"] ["self"] (defScope st_Option_short) := ⟨rfl, rfl, rfl, by decide +kernel, rfl, by decide +kernel, by decide +kernel⟩
abbrev st_Option_needed : Stmt := inClass (topS 42) 6
theorem sc_Option_needed : FnScope ["self"] ["self"] (defScope st_Option_needed) := ⟨rfl, rfl, rfl, by decide +kernel, rfl, by decide +kernel, by decide +kernel⟩
abbrev st_Place_name : Stmt := inClass (topS 43) 1
theorem sc_Place_name : FnScope ["self"] ["self"] (defScope st_Place_name) := ⟨rfl, rfl, rfl, by decide +kernel, rfl, by decide +kernel, by decide +kernel⟩
abbrev st_Place_many : Stmt := inClass (topS 43) 2
theorem sc_Place_many : FnScope ["self"] ["self"] (defScope st_Place_many) := ⟨rfl, rfl, rfl, by decide +kernel, rfl, by decide +kernel, by decide +kernel⟩
/-! ### commands as they are told -/
structure OT where
  long : Str
  short : Str
  takes : Str
  maker : Str
  dflt : V
  need : Bool
  off : Bool
  about : Str
structure PL where
  name : Str
  many : Str
  maker : Str
  dflt : V
  about : Str
def OT.vs (o : OT) : List V := [.str o.long, .str o.short, .str o.takes, .str o.maker, o.dflt, .bl o.need, .bl o.off, .str o.about]
def PL.vs (o : PL) : List V := [.str o.name, .str o.many, .str o.maker, o.dflt, .str o.about]
inductive Ct where
  | mk (name : Str) (os : List OT) (ps : List PL) (gs : List (List Str)) (cs : List Ct) (about : Str) : Ct
def Ct.name : Ct → Str | .mk n _ _ _ _ _ => n
def Ct.os : Ct → List OT | .mk _ o _ _ _ _ => o
def Ct.ps : Ct → List PL | .mk _ _ p _ _ _ => p
def Ct.gs : Ct → List (List Str) | .mk _ _ _ g _ _ => g
def Ct.cs : Ct → List Ct | .mk _ _ _ _ c _ => c
def Ct.about : Ct → Str | .mk _ _ _ _ _ a => a
/-- at each of the addresses there is what the list tells there -/
def All2 {α : Type} (R : Addr → α → Prop) (as : List Addr) (xs : List α) : Prop := as.length = xs.length ∧ ∀ (i : Nat) (a : Addr), as[i]? = some a → ∃ x, xs[i]? = some x ∧ R a x
theorem All2.mono {α : Type} {R S : Addr → α → Prop} {as : List Addr} {xs : List α} (h : All2 R as xs) (k : ∀ a x, R a x → S a x) : All2 S as xs := ⟨h.1, fun i a e => by obtain ⟨x, h1, h2⟩ := h.2 i a e; exact ⟨x, h1, k a x h2⟩⟩
theorem All2.nil {α : Type} {R : Addr → α → Prop} : All2 R [] [] := ⟨rfl, fun i a e => by cases e⟩
theorem All2.cons {α : Type} {R : Addr → α → Prop} {a : Addr} {x : α} {as : List Addr} {xs : List α} (h : R a x) (t : All2 R as xs) : All2 R (a :: as) (x :: xs) := ⟨by rw [List.length_cons, List.length_cons, t.1], fun i b e => by
  cases i with
  | zero => cases e; exact ⟨x, rfl, h⟩
  | succ i => exact t.2 i b e⟩
theorem All2.get {α : Type} {R : Addr → α → Prop} {as : List Addr} {xs : List α} (h : All2 R as xs) {i : Nat} {x : α} (e : xs[i]? = some x) : ∃ a, as[i]? = some a ∧ R a x := by
  have hi : i < as.length := by rw [h.1]; exact (List.getElem?_eq_some_iff.mp e).1
  obtain ⟨y, h1, h2⟩ := h.2 i as[i] (List.getElem?_eq_getElem hi)
  rw [e] at h1
  cases h1
  exact ⟨as[i], List.getElem?_eq_getElem hi, h2⟩
theorem All2.tail {α : Type} {R : Addr → α → Prop} {a : Addr} {x : α} {as : List Addr} {xs : List α} (h : All2 R (a :: as) (x :: xs)) : R a x ∧ All2 R as xs := by
  obtain ⟨y, e, r⟩ := h.2 0 a rfl
  cases e
  exact ⟨r, by have := h.1; simpa using this, fun i b e => h.2 (i + 1) b e⟩
theorem All2.snoc {α : Type} {R : Addr → α → Prop} {a : Addr} {x : α} {as : List Addr} {xs : List α} (t : All2 R as xs) (h : R a x) : All2 R (as ++ [a]) (xs ++ [x]) := by
  refine ⟨by rw [List.length_append, List.length_append, t.1]; rfl, fun i b e => ?_⟩
  by_cases q : i < as.length
  · rw [List.getElem?_append_left q] at e
    obtain ⟨y, h1, h2⟩ := t.2 i b e
    exact ⟨y, by rw [List.getElem?_append_left (by rw [← t.1]; exact q)]; exact h1, h2⟩
  · rw [List.getElem?_append_right (by omega)] at e
    rw [List.getElem?_append_right (by rw [← t.1]; omega), ← t.1]
    cases j : i - as.length with
    | zero => rw [j] at e; cases e; exact ⟨x, rfl, h⟩
    | succ n => rw [j] at e; cases e
/-- a list of texts -/
def StrsAt (H : Hp) (a : Addr) (g : List Str) : Prop := H a = some (.lst (g.map V.str)) ∧ g.length ≤ 1000 ∧ ∀ z ∈ g, P8 z
inductive CdAt (CO CP CC : Addr) (H : Hp) : Nat → Addr → Ct → Prop
  | mk {d : Nat} {x dx lo lp lg lc : Addr} {n ab : Str} {os : List OT} {ps : List PL} {gs : List (List Str)} {cs : List Ct} {ao ap ag ac : List Addr} (ex : H x = some (.ins CC dx (cmdF (.str n) lo lp lg lc (.str ab)))) (tn : P8 n) (ta : P8 ab)
      (o : H lo = some (.lst (ao.map V.ref))) (lno : os.length ≤ 20) (ho : All2 (fun a (t : OT) => IsT H CO a t.vs) ao os) (p : H lp = some (.lst (ap.map V.ref))) (lnp : ps.length ≤ 20) (hp : All2 (fun a (t : PL) => IsT H CP a t.vs) ap ps)
      (g : H lg = some (.lst (ag.map V.ref))) (lng : gs.length ≤ 20) (hg : All2 (StrsAt H) ag gs) (c : H lc = some (.lst (ac.map V.ref))) (lnc : cs.length ≤ 20) (hl : ac.length = cs.length) (hc : ∀ (i : Nat) (a : Addr) (t : Ct), ac[i]? = some a → cs[i]? = some t → CdAt CO CP CC H d a t) : CdAt CO CP CC H (d + 1) x (.mk n os ps gs cs ab)
theorem CdAt.same {CO CP CC : Addr} {H H' : Hp} {d : Nat} {x : Addr} {t : Ct} (h : CdAt CO CP CC H d x t) (s : Same H H') : CdAt CO CP CC H' d x t := by
  induction h with
  | mk ex tn ta o lno ho p lnp hp g lng hg c lnc hl hc ih => exact .mk (s _ _ ex) tn ta (s _ _ o) lno (ho.mono fun a t h => h.same s) (s _ _ p) lnp (hp.mono fun a t h => h.same s) (s _ _ g) lng (hg.mono fun a t h => ⟨s _ _ h.1, h.2⟩) (s _ _ c) lnc hl ih
/-! ### methods of options and places -/
section
variable {P : Program} {w : World} {K : PySem.W.Frag} {mg : Str → Option Value} {base : Heap}
def spGetI (C : Addr) (j : Nat) : Sp := fun vs H Q _ => ∃ (x : Addr) (xs : List V) (v : V), vs = [.ref x] ∧ IsT H C x xs ∧ xs[j]? = some v ∧ Q v H
theorem ok_glong {C f : Addr} {fd : FuncData} {k : Nat} (F : Fun K "long" "Option.long" st_Option_long f fd) (T : ClsT K C) : FnOk P w K mg base CX0 (k + 1) f fd ["self"] (spGetI C 0) := by
  refine F.ok sc_Option_long (fun vs H Q E h => ?_) (fun cdv A outer s H vs Q E hr h => ?_)
  · obtain ⟨x, xs, v, rfl, _⟩ := h
    rfl
  · obtain ⟨x, xs, v, rfl, ⟨_, dx, t, ex, et⟩, ev, q⟩ := h
    refine ⟨_, pss_one (ps_ret (pe_ix ix_tup (pe_fld (pv 0) rfl) pe_int (fun _ _ => rfl))), ?_⟩
    exact ⟨.ref x, rfl, x, C, dx, _, .ref t, rfl, ex, T.cl, T.nh, held_look, t, xs, 0, v, rfl, rfl, SqT.of et, atI_nat (j := 0) ev, q⟩
theorem ok_gshort {C f : Addr} {fd : FuncData} {k : Nat} (F : Fun K "short" "Option.short" st_Option_short f fd) (T : ClsT K C) : FnOk P w K mg base CX0 (k + 1) f fd ["self"] (spGetI C 1) := by
  refine F.ok sc_Option_short (fun vs H Q E h => ?_) (fun cdv A outer s H vs Q E hr h => ?_)
  · obtain ⟨x, xs, v, rfl, _⟩ := h
    rfl
  · obtain ⟨x, xs, v, rfl, ⟨_, dx, t, ex, et⟩, ev, q⟩ := h
    refine ⟨_, pss_one (ps_ret (pe_ix ix_tup (pe_fld (pv 0) rfl) pe_int (fun _ _ => rfl))), ?_⟩
    exact ⟨.ref x, rfl, x, C, dx, _, .ref t, rfl, ex, T.cl, T.nh, held_look, t, xs, 1, v, rfl, rfl, SqT.of et, atI_nat (j := 1) ev, q⟩
theorem ok_gneed {C f : Addr} {fd : FuncData} {k : Nat} (F : Fun K "needed" "Option.needed" st_Option_needed f fd) (T : ClsT K C) : FnOk P w K mg base CX0 (k + 1) f fd ["self"] (spGetI C 5) := by
  refine F.ok sc_Option_needed (fun vs H Q E h => ?_) (fun cdv A outer s H vs Q E hr h => ?_)
  · obtain ⟨x, xs, v, rfl, _⟩ := h
    rfl
  · obtain ⟨x, xs, v, rfl, ⟨_, dx, t, ex, et⟩, ev, q⟩ := h
    refine ⟨_, pss_one (ps_ret (pe_ix ix_tup (pe_fld (pv 0) rfl) pe_int (fun _ _ => rfl))), ?_⟩
    exact ⟨.ref x, rfl, x, C, dx, _, .ref t, rfl, ex, T.cl, T.nh, held_look, t, xs, 5, v, rfl, rfl, SqT.of et, atI_nat (j := 5) ev, q⟩
theorem ok_gname {C f : Addr} {fd : FuncData} {k : Nat} (F : Fun K "name" "Place.name" st_Place_name f fd) (T : ClsT K C) : FnOk P w K mg base CX0 (k + 1) f fd ["self"] (spGetI C 0) := by
  refine F.ok sc_Place_name (fun vs H Q E h => ?_) (fun cdv A outer s H vs Q E hr h => ?_)
  · obtain ⟨x, xs, v, rfl, _⟩ := h
    rfl
  · obtain ⟨x, xs, v, rfl, ⟨_, dx, t, ex, et⟩, ev, q⟩ := h
    refine ⟨_, pss_one (ps_ret (pe_ix ix_tup (pe_fld (pv 0) rfl) pe_int (fun _ _ => rfl))), ?_⟩
    exact ⟨.ref x, rfl, x, C, dx, _, .ref t, rfl, ex, T.cl, T.nh, held_look, t, xs, 0, v, rfl, rfl, SqT.of et, atI_nat (j := 0) ev, q⟩
theorem ok_gmany {C f : Addr} {fd : FuncData} {k : Nat} (F : Fun K "many" "Place.many" st_Place_many f fd) (T : ClsT K C) : FnOk P w K mg base CX0 (k + 1) f fd ["self"] (spGetI C 1) := by
  refine F.ok sc_Place_many (fun vs H Q E h => ?_) (fun cdv A outer s H vs Q E hr h => ?_)
  · obtain ⟨x, xs, v, rfl, _⟩ := h
    rfl
  · obtain ⟨x, xs, v, rfl, ⟨_, dx, t, ex, et⟩, ev, q⟩ := h
    refine ⟨_, pss_one (ps_ret (pe_ix ix_tup (pe_fld (pv 0) rfl) pe_int (fun _ _ => rfl))), ?_⟩
    exact ⟨.ref x, rfl, x, C, dx, _, .ref t, rfl, ex, T.cl, T.nh, held_look, t, xs, 1, v, rfl, rfl, SqT.of et, atI_nat (j := 1) ev, q⟩
end
end WB

set_option Elab.async false
set_option linter.all false
set_option maxRecDepth 100000
set_option maxHeartbeats 4000000
namespace WB
open PySem PySem.Spec PyProof.Rows L2 WG
open TL (tl)
abbrev st_first_repeated : Stmt := topS 2
theorem sc_first_repeated : FnScope ["texts", "ahead", "seen", "text"] ["texts", "ahead"] (defScope st_first_repeated) := ⟨rfl, rfl, rfl, by decide +kernel, rfl, by decide +kernel, by decide +kernel⟩
abbrev st_long_names : Stmt := topS 3
theorem sc_long_names : FnScope ["command", "option"] ["command"] (defScope st_long_names) := ⟨rfl, rfl, rfl, by decide +kernel, rfl, by decide +kernel, by decide +kernel⟩
abbrev st_long_clash : Stmt := topS 4
theorem sc_long_clash : FnScope ["command"] ["command"] (defScope st_long_clash) := ⟨rfl, rfl, rfl, by decide +kernel, rfl, by decide +kernel, by decide +kernel⟩
abbrev st_short_clash : Stmt := topS 5
theorem sc_short_clash : FnScope ["command", "shorts", "option", "short"] ["command"] (defScope st_short_clash) := ⟨rfl, rfl, rfl, by decide +kernel, rfl, by decide +kernel, by decide +kernel⟩
abbrev st_name_clash : Stmt := topS 6
theorem sc_name_clash : FnScope ["command", "place"] ["command"] (defScope st_name_clash) := ⟨rfl, rfl, rfl, by decide +kernel, rfl, by decide +kernel, by decide +kernel⟩
abbrev st_may_stand_behind : Stmt := topS 7
theorem sc_may_stand_behind : FnScope ["many", "ahead"] ["many", "ahead"] (defScope st_may_stand_behind) := ⟨rfl, rfl, rfl, by decide +kernel, rfl, by decide +kernel, by decide +kernel⟩
abbrev st_order_clash : Stmt := topS 8
theorem sc_order_clash : FnScope ["command", "ahead", "place"] ["command"] (defScope st_order_clash) := ⟨rfl, rfl, rfl, by decide +kernel, rfl, by decide +kernel, by decide +kernel⟩
abbrev st_both_clash : Stmt := topS 9
theorem sc_both_clash : FnScope ["command"] ["command"] (defScope st_both_clash) := ⟨rfl, rfl, rfl, by decide +kernel, rfl, by decide +kernel, by decide +kernel⟩
abbrev st_group_clash : Stmt := topS 10
theorem sc_group_clash : FnScope ["command", "groupable", "ahead", "group", "text", "option"] ["command"] (defScope st_group_clash) := ⟨rfl, rfl, rfl, by decide +kernel, rfl, by decide +kernel, by decide +kernel⟩
abbrev st_command_clash : Stmt := topS 11
theorem sc_command_clash : FnScope ["command", "beneath"] ["command"] (defScope st_command_clash) := ⟨rfl, rfl, rfl, by decide +kernel, rfl, by decide +kernel, by decide +kernel⟩
/-! ### the mathematics of clashes -/
def optV : Option Str → V
  | none => .non
  | some z => .str z
def inS (z : Str) (ys : List Str) : Bool := inV (.str z) (ys.map V.str)
def firstRep : List Str → List Str → Option Str
  | [], _ => none
  | y :: r, seen => if inS y seen = true then some y else firstRep r (seen ++ [y])
def mayStand (m : Str) (ahead : List Str) : Bool := !(inS (Str.ofString "some") ahead || inS (Str.ofString "any") ahead) && (!inS (Str.ofString "maybe") ahead || inS m [Str.ofString "maybe", Str.ofString "any"])
def orderBad : List PL → List Str → Option Str
  | [], _ => none
  | p :: r, ahead => if mayStand p.many ahead = true then orderBad r (ahead ++ [p.many]) else some p.name
def groupBad (ok : List Str) : List Str → List Str → Option Str
  | [], _ => none
  | z :: r, ahead => if (!inS z ok || inS z ahead) = true then some z else groupBad ok r (ahead ++ [z])
def longsC (t : Ct) : List Str := t.os.map OT.long
def shortsC (t : Ct) : List Str := (t.os.map OT.short).filter fun z => !decide (V.str z = V.str (Str.ofString ""))
def freeC (t : Ct) : List Str := (t.os.filter fun o => !o.need).map OT.long
def bothC (t : Ct) : Option Str := if 0 < t.ps.length ∧ 0 < t.cs.length then some t.name else none
theorem flat_strs (ys : List Str) : (ys.map V.str).all flatV = true := by
  rw [List.all_map]
  exact List.all_eq_true.mpr fun _ _ => rfl
/-- a command, opened -/
structure CdO (CO CP CC : Addr) (H : Hp) (x : Addr) (t : Ct) (dx lo lp lg lc : Addr) (ao ap ag ac : List Addr) : Prop where
  ex : H x = some (.ins CC dx (cmdF (.str t.name) lo lp lg lc (.str t.about)))
  o : H lo = some (.lst (ao.map V.ref))
  ho : All2 (fun a (t : OT) => IsT H CO a t.vs) ao t.os
  p : H lp = some (.lst (ap.map V.ref))
  hp : All2 (fun a (t : PL) => IsT H CP a t.vs) ap t.ps
  g : H lg = some (.lst (ag.map V.ref))
  hg : All2 (StrsAt H) ag t.gs
  c : H lc = some (.lst (ac.map V.ref))
  hl : ac.length = t.cs.length
  no : t.os.length ≤ 20
  np : t.ps.length ≤ 20
  ng : t.gs.length ≤ 20
  nc : t.cs.length ≤ 20
  tn : P8 t.name
  ta : P8 t.about
theorem CdAt.op {CO CP CC : Addr} {H : Hp} {d : Nat} {x : Addr} {t : Ct} (h : CdAt CO CP CC H d x t) : ∃ dx lo lp lg lc ao ap ag ac, CdO CO CP CC H x t dx lo lp lg lc ao ap ag ac ∧ ∀ (i : Nat) (a : Addr) (u : Ct), ac[i]? = some a → t.cs[i]? = some u → ∃ e, d = e + 1 ∧ CdAt CO CP CC H e a u := by
  cases h with
  | mk ex tn ta o lno ho p lnp hp g lng hg c lnc hl hc => exact ⟨_, _, _, _, _, _, _, _, _, ⟨ex, o, ho, p, hp, g, hg, c, hl, lno, lnp, lng, lnc, tn, ta⟩, fun i a u h1 h2 => ⟨_, rfl, hc i a u h1 h2⟩⟩
theorem CdO.same {CO CP CC : Addr} {H H' : Hp} {x : Addr} {t : Ct} {dx lo lp lg lc : Addr} {ao ap ag ac : List Addr} (h : CdO CO CP CC H x t dx lo lp lg lc ao ap ag ac) (s : Same H H') : CdO CO CP CC H' x t dx lo lp lg lc ao ap ag ac :=
  ⟨s _ _ h.ex, s _ _ h.o, h.ho.mono fun a t h => h.same s, s _ _ h.p, h.hp.mono fun a t h => h.same s, s _ _ h.g, h.hg.mono fun a t h => ⟨s _ _ h.1, h.2⟩, s _ _ h.c, h.hl, h.no, h.np, h.ng, h.nc, h.tn, h.ta⟩
theorem fresh_of {H H' : Hp} {r : Addr} (s : Same H H') (n : H' r = none) : H r = none := by
  cases e : H r with
  | none => rfl
  | some o => rw [s _ _ e] at n; cases n
section
variable {P : Program} {w : World} {K : PySem.W.Frag} {mg : Str → Option Value} {base : Heap}
def MG (P : Program) (w : World) (K : PySem.W.Frag) (mg : Str → Option Value) (base : Heap) (n : Nat) (C : Addr) (m : Str) (sp : Sp) : Prop := ∃ f fd, Meth K C m f ∧ FnOk P w K mg base CX0 n f fd ["self"] sp ∧ Binds K fd ["self"] []
/-- the methods of the three classes -/
structure Gets (P : Program) (w : World) (K : PySem.W.Frag) (mg : Str → Option Value) (base : Heap) (n : Nat) (CO CP CC : Addr) : Prop where
  T : ClsC K CC
  TO : ClsT K CO
  TP : ClsT K CP
  name : MG P w K mg base n CC "name" (spGetV CC "own_name")
  about : MG P w K mg base n CC "about" (spGetV CC "own_about")
  options : MG P w K mg base n CC "options" (spGetL CC "own_options")
  places : MG P w K mg base n CC "places" (spGetL CC "own_places")
  commands : MG P w K mg base n CC "commands" (spGetL CC "own_commands")
  groups : MG P w K mg base n CC "groups" (spGetG CC)
  long : MG P w K mg base n CO "long" (spGetI CO 0)
  short : MG P w K mg base n CO "short" (spGetI CO 1)
  needed : MG P w K mg base n CO "needed" (spGetI CO 5)
  pname : MG P w K mg base n CP "name" (spGetI CP 0)
  many : MG P w K mg base n CP "many" (spGetI CP 1)
theorem IsT.no {H : Hp} {C x : Addr} {vs : List V} (h : IsT H C x vs) {m : Str} (hm : m ≠ "held") : ∃ dx fs, H x = some (.ins C dx fs) ∧ fs.lookup m = none := by
  obtain ⟨_, dx, t, e1, _⟩ := h
  refine ⟨dx, _, e1, ?_⟩
  have e : (m == ("held" : Str)) = false := by simpa using hm
  simp [List.lookup, e]
def spRep : Sp := fun vs H Q _ => ∃ (a b : Addr) (ys zs : List Str), vs = [.ref a, .ref b] ∧ H a = some (.lst (ys.map V.str)) ∧ H b = some (.lst (zs.map V.str)) ∧ ys.length ≤ 1000 ∧ zs.length ≤ 1000 ∧ ∀ H', Same H H' → Q (optV (firstRep ys zs)) H'
theorem ok_rep {f : Addr} {fd : FuncData} {k : Nat} (F : Fun K "first_repeated" "first_repeated" st_first_repeated f fd) (m_list : mg "list" = none) : FnOk P w K mg base CX0 (k + 1) f fd ["texts", "ahead"] spRep := by
  refine F.ok sc_first_repeated (fun vs H Q E h => ?_) (fun cdv A outer s H vs Q E hr h => ?_)
  · obtain ⟨a, b, ys, zs, rfl, _⟩ := h
    rfl
  · obtain ⟨a, b, ys, zs, rfl, ea, eb, ly, lz, q⟩ := h
    have sl : sizeLine = 16777216 := sizeLine_eq
    refine ⟨_, pss_cons (ps_set (i := 2) sc_first_repeated.nd rfl (.inl rfl) (pe_callTy (r := rListOf K) call_listOf (by rfl) m_list (by decide +kernel) (pa_cons (pv 1) pa_nil)))
      (pss_cons (ps_for PassesOwn.never rfl (pi_list (pv 0)) (pg_name (i := 3) sc_first_repeated.nd rfl (Or.inl rfl)) (pss_cons (ps_if (pt_cmpR op_in_seq (pv 3) (pv 2) (by rfl)) (pss_one (ps_ret (pv 3))) pss_nil)
      (pss_one (ps_expr (pe_bm PySem.F.plainAttrs_list PySem.F.slot_list_append PySem.F.type_list_append mt_append (pv 2) (pa_cons (pv 3) pa_nil))))))
      (pss_one (ps_ret pe_non))), ?_⟩
    refine ⟨.ref b, rfl, b, _, rfl, .inl (SqL.of eb), fun l nl => ?_⟩
    have s1 := same_upd (o := .lst (zs.map V.str)) nl
    have e1 : (upd H l (.lst (zs.map V.str))) l = some (.lst (zs.map V.str)) := upd_same
    revert s1 e1
    generalize upd H l (.lst (zs.map V.str)) = H1
    intro s1 e1
    refine ⟨.ref a, rfl, a, rfl, ⟨_, SqL.of (s1 _ _ ea)⟩, ?_⟩
    refine for_list (K := K) (a := a) (xs := ys.map V.str) (fun i σ Hc => Same H Hc ∧ (∃ seen : List Str, Hc l = some (.lst (seen.map V.str)) ∧ seen.length = zs.length + i ∧ firstRep ys zs = firstRep (ys.drop i) seen) ∧ ∃ x3, σ = [some (.ref a), some (.ref b), some (.ref l), x3])
      ⟨s1, ⟨zs, e1, rfl, rfl⟩, none, rfl⟩ (fun i σ Hc _ h => SqL.of (h.1 _ _ ea)) ?_ ?_
    · rintro i v σ Hc hv ⟨sc, ⟨seen, es, ls, er⟩, x3, rfl⟩
      rw [List.getElem?_map] at hv
      obtain ⟨y, hy, rfl⟩ := Option.map_eq_some_iff.mp hv
      have hi : i < ys.length := (List.getElem?_eq_some_iff.mp hy).1
      have hd : ys.drop i = y :: ys.drop (i + 1) := by
        rw [List.drop_eq_getElem_cons hi]
        congr 1
        exact (List.getElem?_eq_some_iff.mp hy).2
      rw [hd] at er
      refine ⟨.str y, rfl, .ref l, rfl, l, _, rfl, .inl (SqL.of es), rfl, flat_strs seen, _, rfl, ite2 (fun e => ?_) (fun e => ?_)⟩
      · have er' : firstRep ys zs = some y := by
          rw [er]
          unfold firstRep
          rw [if_pos (show inS y seen = true from e)]
        rw [er'] at q
        exact ⟨_, rfl, q _ sc⟩
      · have er' : firstRep ys zs = firstRep (ys.drop (i + 1)) (seen ++ [y]) := by
          rw [er]
          conv => lhs; unfold firstRep
          rw [if_neg (show ¬ inS y seen = true from e)]
        refine ⟨.ref l, rfl, Or.inl ⟨rfl, _, SqL.of es⟩, .str y, rfl, l, _, _, rfl, rfl, es, by rw [List.length_map]; omega, fun b' o e' => ?_, ⟨seen ++ [y], ?_, by rw [List.length_append, ls]; show _ + 1 = _; omega, er'⟩, _, rfl⟩
        · rw [upd_ne (ne_of_none e' nl)]
          exact sc _ _ e'
        · rw [upd_same, List.map_append]
          rfl
    · rintro σ Hc ⟨sc, ⟨seen, es, ls, er⟩, x3, rfl⟩
      rw [List.length_map, List.drop_length] at er
      rw [er] at q
      exact q _ sc
def spStrs (CO CP CC : Addr) (d : Nat) (g : Ct → List Str) : Sp := fun vs H Q _ => ∃ (x : Addr) (t : Ct), vs = [.ref x] ∧ CdAt CO CP CC H d x t ∧ ∀ H' l, Same H H' → H l = none → H' l = some (.lst ((g t).map V.str)) → Q (.ref l) H'
theorem ok_longs {CO CP CC f : Addr} {fd : FuncData} {k d : Nat} (F : Fun K "long_names" "long_names" st_long_names f fd) (M : Gets P w K mg base (k + 2) CO CP CC) : FnOk P w K mg base CX0 (k + 3) f fd ["command"] (spStrs CO CP CC d longsC) := by
  obtain ⟨f_options, fd_options, m_options, G_options, b_options⟩ := M.options
  obtain ⟨f_long, fd_long, m_long, G_long, b_long⟩ := M.long
  refine F.ok sc_long_names (fun vs H Q E h => ?_) (fun cdv A outer s H vs Q E hr h => ?_)
  · obtain ⟨x, t, rfl, _⟩ := h
    rfl
  · obtain ⟨x, t, rfl, cd, q⟩ := h
    have sl : sizeLine = 16777216 := sizeLine_eq
    refine ⟨_, pss_one (ps_ret (pe_lc (own := [("option", 1)]) (g := gName 1) (tt := tYes) rfl sc_long_names.nd (pi_list (pe_meth0 (pv 0) M.T.cl m_options G_options (hr.mono (by omega)) b_options .nil pass0)) (blkOk_by (N := ["command", "option"]) (sc := defScope st_long_names) (by decide +kernel)) (fun _ _ _ _ _ => (pg_name (i := 1) sc_long_names.nd rfl (Or.inl rfl))) (fun _ _ _ _ _ => pts_nil) (fun _ _ _ _ _ => (pe_meth0 (pv 1) M.TO.cl m_long G_long (hr.mono (by omega)) b_long .nil pass0)))), ?_⟩
    obtain ⟨dx, lo, lp, lg, lc, ao, ap, ag, ac, op, _⟩ := cd.op
    refine ⟨.ref x, rfl, x, dx, _, rfl, op.ex, rfl, x, dx, _, lo, _, rfl, op.ex, rfl, op.o, fun l nl => ?_⟩
    have s1 := same_upd (o := .lst (ao.map V.ref)) nl
    have e1 : (upd H l (.lst (ao.map V.ref))) l = some (.lst (ao.map V.ref)) := upd_same
    revert s1 e1
    generalize upd H l (.lst (ao.map V.ref)) = H1
    intro s1 e1
    refine ⟨l, rfl, ⟨_, SqL.of e1⟩, fun D nD => ?_⟩
    refine lc_list (K := K) (a := l) (xs := ao.map V.ref) (fun i Hc => Same H1 Hc ∧ Hc D = some (.lst (((t.os.take i).map OT.long).map V.str))) ⟨same_upd nD, upd_same⟩ (fun i Hc _ h => SqL.of (h.1 _ _ e1)) (fun i v Hc hv ⟨sc, eD⟩ => ?_) (fun Hc ⟨sc, eD⟩ => ?_)
    · rw [List.getElem?_map] at hv
      obtain ⟨a, ha, rfl⟩ := Option.map_eq_some_iff.mp hv
      obtain ⟨o, ho, it⟩ := op.ho.2 i a ha
      have it' := (it.same s1).same sc
      obtain ⟨dx', fs, ex', no'⟩ := it'.no (m := "long") (by decide +kernel)
      have hi : i < t.os.length := (List.getElem?_eq_some_iff.mp ho).1
      have no := op.no
      refine ⟨rfl, .ref a, rfl, a, dx', fs, rfl, ex', no', a, _, .str o.long, rfl, it', rfl, _, eD, ?_, fun b u e => ?_, ?_⟩
      · rw [List.length_map, List.length_map, List.length_take]
        omega
      · rw [upd_ne (ne_of_none e nD)]
        exact sc _ _ e
      · rw [upd_same, List.take_add_one, ho, List.map_append, List.map_append]
        rfl
    · have le : (ao.map V.ref).length = t.os.length := by rw [List.length_map]; exact op.ho.1
      rw [le, List.take_length] at eD
      exact q _ D (s1.trans sc) (fresh_of s1 nD) eD
end
end WB

set_option Elab.async false
set_option linter.all false
set_option maxRecDepth 100000
set_option maxHeartbeats 4000000
namespace WB
open PySem PySem.Spec PyProof.Rows L2 WG
open TL (tl)
section
variable {P : Program} {w : World} {K : PySem.W.Frag} {mg : Str → Option Value} {base : Heap}
def spLook (CO CP CC : Addr) (d : Nat) (g : Ct → Option Str) : Sp := fun vs H Q _ => ∃ (x : Addr) (t : Ct), vs = [.ref x] ∧ CdAt CO CP CC H d x t ∧ ∀ H', Same H H' → Q (optV (g t)) H'
theorem filt_on {α : Type} {ys : List α} {i : Nat} {z : α} {p : α → Bool} (h : ys[i]? = some z) (e : p z = true) : (ys.take (i + 1)).filter p = (ys.take i).filter p ++ [z] := by
  rw [List.take_add_one, h, List.filter_append]
  simp [e]
theorem filt_off {α : Type} {ys : List α} {i : Nat} {z : α} {p : α → Bool} (h : ys[i]? = some z) (e : p z = false) : (ys.take (i + 1)).filter p = (ys.take i).filter p := by
  rw [List.take_add_one, h, List.filter_append]
  simp [e]
theorem CdAt.nos {CO CP CC : Addr} {H : Hp} {d : Nat} {x : Addr} {t : Ct} (h : CdAt CO CP CC H d x t) : (longsC t).length ≤ 20 := by
  obtain ⟨_, _, _, _, _, _, _, _, _, op, _⟩ := h.op
  unfold longsC
  rw [List.length_map]
  exact op.no
theorem ok_longC {CO CP CC f fR fL : Addr} {fd fdR fdL : FuncData} {k d : Nat} (F : Fun K "long_clash" "long_clash" st_long_clash f fd) (M : Gets P w K mg base (k + 2) CO CP CC) (D_first_repeated : Df K mg "first_repeated" st_first_repeated ["texts", "ahead"] fR fdR) (D_long_names : Df K mg "long_names" st_long_names ["command"] fL fdL) (m_list : mg "list" = none) :
    FnOk P w K mg base CX0 (k + 4) f fd ["command"] (spLook CO CP CC d fun t => firstRep (longsC t) []) := by
  have G_first_repeated : FnOk P w K mg base CX0 (k + 3) fR fdR ["texts", "ahead"] spRep := ok_rep D_first_repeated.F m_list
  have G_long_names : FnOk P w K mg base CX0 (k + 3) fL fdL ["command"] (spStrs CO CP CC d longsC) := ok_longs D_long_names.F M
  refine F.ok sc_long_clash (fun vs H Q E h => ?_) (fun cdv A outer s H vs Q E hr h => ?_)
  · obtain ⟨x, t, rfl, _⟩ := h
    rfl
  · obtain ⟨x, t, rfl, cd, q⟩ := h
    refine ⟨_, pss_one (ps_ret (pe_call G_first_repeated hr (by rfl) D_first_repeated.g D_first_repeated.F.kp D_first_repeated.b .nil pass0 (pa_cons (pe_call G_long_names hr (by rfl) D_long_names.g D_long_names.F.kp D_long_names.b .nil pass0 (pa_cons (pv 0) pa_nil)) (pa_cons (pe_lst pa_nil) pa_nil)))), ?_⟩
    have ln := cd.nos
    refine ⟨.ref x, rfl, x, t, rfl, cd, fun H1 l s1 nl el => ⟨by show 0 ≤ sizeLine; decide, fun l0 n0 => ?_⟩⟩
    have s2 := same_upd (o := .lst []) n0
    exact ⟨l, l0, longsC t, [], rfl, s2 _ _ el, upd_same, by omega, by decide, fun H' s' => q _ ((s1.trans s2).trans s')⟩
theorem ok_shortC {CO CP CC f fR : Addr} {fd fdR : FuncData} {k d : Nat} (F : Fun K "short_clash" "short_clash" st_short_clash f fd) (M : Gets P w K mg base (k + 2) CO CP CC) (D_first_repeated : Df K mg "first_repeated" st_first_repeated ["texts", "ahead"] fR fdR) (m_list : mg "list" = none) :
    FnOk P w K mg base CX0 (k + 4) f fd ["command"] (spLook CO CP CC d fun t => firstRep (shortsC t) []) := by
  have G_first_repeated : FnOk P w K mg base CX0 (k + 3) fR fdR ["texts", "ahead"] spRep := ok_rep D_first_repeated.F m_list
  obtain ⟨f_options, fd_options, m_options, G_options, b_options⟩ := M.options
  obtain ⟨f_short, fd_short, m_short, G_short, b_short⟩ := M.short
  refine F.ok sc_short_clash (fun vs H Q E h => ?_) (fun cdv A outer s H vs Q E hr h => ?_)
  · obtain ⟨x, t, rfl, _⟩ := h
    rfl
  · obtain ⟨x, t, rfl, cd, q⟩ := h
    have sl : sizeLine = 16777216 := sizeLine_eq
    refine ⟨_, pss_cons (ps_setLc (i := 1) (own := [("option", 2)]) (g := gName 2) (tt := tYes)  rfl sc_short_clash.nd rfl rfl (sw_true rfl rfl rfl (by decide +kernel)) (pi_list (pe_meth0 (pv 0) M.T.cl m_options G_options (hr.mono (by omega)) b_options .nil pass0)) (blkOk_by (N := ["command", "shorts", "option", "short"]) (sc := defScope st_short_clash) (by decide +kernel)) (fun _ _ _ _ _ => (pg_name (i := 2) sc_short_clash.nd rfl (Or.inl rfl))) (fun _ _ _ _ _ => pts_nil) (fun _ _ _ _ _ => (pe_meth0 (pv 2) M.TO.cl m_short G_short (hr.mono (by omega)) b_short .nil pass0)))
      (pss_one (ps_ret (pe_call G_first_repeated hr (by rfl) D_first_repeated.g D_first_repeated.F.kp D_first_repeated.b .nil pass0 (pa_cons (pe_lc (own := [("short", 3)]) (g := gName 3) rfl sc_short_clash.nd (pi_list (pv 1)) (blkOk_by (N := ["command", "shorts", "option", "short"]) (sc := defScope st_short_clash) (by decide +kernel)) (fun _ _ _ _ _ => (pg_name (i := 3) sc_short_clash.nd rfl (Or.inl rfl))) (fun _ _ _ _ _ => pts_one (pt_cmpR op_ne (pv 3) pe_str (nomark _))) (fun _ _ _ _ _ => (pv 3))) (pa_cons (pe_lst pa_nil) pa_nil))))), ?_⟩
    obtain ⟨dx, lo, lp, lg, lc, ao, ap, ag, ac, op, _⟩ := cd.op
    have no := op.no
    refine ⟨.ref x, rfl, x, dx, _, rfl, op.ex, rfl, x, dx, _, lo, _, rfl, op.ex, rfl, op.o, fun l nl => ?_⟩
    have s1 := same_upd (o := .lst (ao.map V.ref)) nl
    have e1 : (upd H l (.lst (ao.map V.ref))) l = some (.lst (ao.map V.ref)) := upd_same
    revert s1 e1
    generalize upd H l (.lst (ao.map V.ref)) = H1
    intro s1 e1
    refine ⟨l, rfl, ⟨_, SqL.of e1⟩, fun D nD => ?_⟩
    refine lc_list (K := K) (a := l) (xs := ao.map V.ref) (fun i Hc => Same H1 Hc ∧ Hc D = some (.lst (((t.os.take i).map OT.short).map V.str))) ⟨same_upd nD, upd_same⟩ (fun i Hc _ h => SqL.of (h.1 _ _ e1)) (fun i v Hc hv ⟨sc, eD⟩ => ?_) (fun H2 ⟨s2, eD⟩ => ?_)
    · rw [List.getElem?_map] at hv
      obtain ⟨a, ha, rfl⟩ := Option.map_eq_some_iff.mp hv
      obtain ⟨o, ho, it⟩ := op.ho.2 i a ha
      have it' := (it.same s1).same sc
      obtain ⟨dx', fs, ex', no'⟩ := it'.no (m := "short") (by decide +kernel)
      have hi : i < t.os.length := (List.getElem?_eq_some_iff.mp ho).1
      refine ⟨rfl, .ref a, rfl, a, dx', fs, rfl, ex', no', a, _, .str o.short, rfl, it', rfl, _, eD, ?_, fun b u e => ?_, ?_⟩
      · rw [List.length_map, List.length_map, List.length_take]
        omega
      · rw [upd_ne (ne_of_none e nD)]
        exact sc _ _ e
      · rw [upd_same, List.take_add_one, ho, List.map_append, List.map_append]
        rfl
    have le : (ao.map V.ref).length = t.os.length := by rw [List.length_map]; exact op.ho.1
    rw [le, List.take_length] at eD
    refine ⟨.ref D, rfl, D, rfl, ⟨_, SqL.of eD⟩, fun D2 nD2 => ?_⟩
    refine lc_list (K := K) (a := D) (xs := (t.os.map OT.short).map V.str) (fun i Hc => Same H2 Hc ∧ Hc D2 = some (.lst ((((t.os.map OT.short).take i).filter fun z => !decide (V.str z = V.str (Str.ofString ""))).map V.str))) ⟨same_upd nD2, upd_same⟩ (fun i Hc _ h => SqL.of (h.1 _ _ eD)) (fun i v Hc hv ⟨sc, eD2⟩ => ?_) (fun H3 ⟨s3, eD2⟩ => ?_)
    · rw [List.getElem?_map] at hv
      obtain ⟨z, hz, rfl⟩ := Option.map_eq_some_iff.mp hv
      have hi : i < t.os.length := by have := (List.getElem?_eq_some_iff.mp hz).1; rwa [List.length_map] at this
      refine ⟨rfl, .str z, rfl, rfl, _, rfl, ite2 (fun e => ?_) (fun e => ?_)⟩
      · refine ⟨.str z, rfl, _, eD2, ?_, fun b u e' => ?_, ?_⟩
        · rw [List.length_map]
          have := List.length_filter_le (fun z => !decide (V.str z = V.str (Str.ofString ""))) ((t.os.map OT.short).take i)
          rw [List.length_take] at this
          omega
        · rw [upd_ne (ne_of_none e' nD2)]
          exact sc _ _ e'
        · rw [upd_same, filt_on hz e, List.map_append]
          rfl
      · refine ⟨sc, ?_⟩
        rw [filt_off hz (Bool.eq_false_iff.mpr e)]
        exact eD2
    rw [List.length_map, List.take_length] at eD2
    refine ⟨by show 0 ≤ sizeLine; decide, fun l0 n0 => ?_⟩
    have s4 := same_upd (o := .lst []) n0
    refine ⟨D2, l0, shortsC t, [], rfl, s4 _ _ eD2, upd_same, ?_, by decide, fun H' s' => q _ ((((s1.trans s2).trans s3).trans s4).trans s')⟩
    have := List.length_filter_le (fun z => !decide (V.str z = V.str (Str.ofString ""))) (t.os.map OT.short)
    unfold shortsC
    rw [List.length_map] at this
    omega
theorem ok_nameC {CO CP CC f fR fL : Addr} {fd fdR fdL : FuncData} {k d : Nat} (F : Fun K "name_clash" "name_clash" st_name_clash f fd) (M : Gets P w K mg base (k + 2) CO CP CC) (D_first_repeated : Df K mg "first_repeated" st_first_repeated ["texts", "ahead"] fR fdR) (D_long_names : Df K mg "long_names" st_long_names ["command"] fL fdL) (m_list : mg "list" = none) :
    FnOk P w K mg base CX0 (k + 4) f fd ["command"] (spLook CO CP CC d fun t => firstRep (t.ps.map PL.name) (longsC t)) := by
  have G_first_repeated : FnOk P w K mg base CX0 (k + 3) fR fdR ["texts", "ahead"] spRep := ok_rep D_first_repeated.F m_list
  have G_long_names : FnOk P w K mg base CX0 (k + 3) fL fdL ["command"] (spStrs CO CP CC d longsC) := ok_longs D_long_names.F M
  obtain ⟨f_places, fd_places, m_places, G_places, b_places⟩ := M.places
  obtain ⟨f_pname, fd_pname, m_pname, G_pname, b_pname⟩ := M.pname
  refine F.ok sc_name_clash (fun vs H Q E h => ?_) (fun cdv A outer s H vs Q E hr h => ?_)
  · obtain ⟨x, t, rfl, _⟩ := h
    rfl
  · obtain ⟨x, t, rfl, cd, q⟩ := h
    have sl : sizeLine = 16777216 := sizeLine_eq
    refine ⟨_, pss_one (ps_ret (pe_call G_first_repeated hr (by rfl) D_first_repeated.g D_first_repeated.F.kp D_first_repeated.b .nil pass0 (pa_cons (pe_lc (own := [("place", 1)]) (g := gName 1) (tt := tYes) rfl sc_name_clash.nd (pi_list (pe_meth0 (pv 0) M.T.cl m_places G_places (hr.mono (by omega)) b_places .nil pass0)) (blkOk_by (N := ["command", "place"]) (sc := defScope st_name_clash) (by decide +kernel)) (fun _ _ _ _ _ => (pg_name (i := 1) sc_name_clash.nd rfl (Or.inl rfl))) (fun _ _ _ _ _ => pts_nil) (fun _ _ _ _ _ => (pe_meth0 (pv 1) M.TP.cl m_pname G_pname (hr.mono (by omega)) b_pname .nil pass0))) (pa_cons (pe_call G_long_names hr (by rfl) D_long_names.g D_long_names.F.kp D_long_names.b .nil pass0 (pa_cons (pv 0) pa_nil)) pa_nil)))), ?_⟩
    obtain ⟨dx, lo, lp, lg, lc, ao, ap, ag, ac, op, _⟩ := cd.op
    have np := op.np
    have ln := cd.nos
    refine ⟨.ref x, rfl, x, dx, _, rfl, op.ex, rfl, x, dx, _, lp, _, rfl, op.ex, rfl, op.p, fun l nl => ?_⟩
    have s1 := same_upd (o := .lst (ap.map V.ref)) nl
    have e1 : (upd H l (.lst (ap.map V.ref))) l = some (.lst (ap.map V.ref)) := upd_same
    revert s1 e1
    generalize upd H l (.lst (ap.map V.ref)) = H1
    intro s1 e1
    refine ⟨l, rfl, ⟨_, SqL.of e1⟩, fun D nD => ?_⟩
    refine lc_list (K := K) (a := l) (xs := ap.map V.ref) (fun i Hc => Same H1 Hc ∧ Hc D = some (.lst (((t.ps.take i).map PL.name).map V.str))) ⟨same_upd nD, upd_same⟩ (fun i Hc _ h => SqL.of (h.1 _ _ e1)) (fun i v Hc hv ⟨sc, eD⟩ => ?_) (fun H2 ⟨s2, eD⟩ => ?_)
    · rw [List.getElem?_map] at hv
      obtain ⟨a, ha, rfl⟩ := Option.map_eq_some_iff.mp hv
      obtain ⟨o, ho, it⟩ := op.hp.2 i a ha
      have it' := (it.same s1).same sc
      obtain ⟨dx', fs, ex', no'⟩ := it'.no (m := "name") (by decide +kernel)
      have hi : i < t.ps.length := (List.getElem?_eq_some_iff.mp ho).1
      refine ⟨rfl, .ref a, rfl, a, dx', fs, rfl, ex', no', a, _, .str o.name, rfl, it', rfl, _, eD, ?_, fun b u e => ?_, ?_⟩
      · rw [List.length_map, List.length_map, List.length_take]
        omega
      · rw [upd_ne (ne_of_none e nD)]
        exact sc _ _ e
      · rw [upd_same, List.take_add_one, ho, List.map_append, List.map_append]
        rfl
    have le : (ap.map V.ref).length = t.ps.length := by rw [List.length_map]; exact op.hp.1
    rw [le, List.take_length] at eD
    have S2 := s1.trans s2
    exact ⟨.ref x, rfl, x, t, rfl, cd.same S2, fun H3 l3 s3 n3 e3 => ⟨D, l3, t.ps.map PL.name, longsC t, rfl, s3 _ _ eD, e3, by rw [List.length_map]; omega, by omega, fun H' s' => q _ ((S2.trans s3).trans s')⟩⟩
def spMay : Sp := fun vs H Q _ => ∃ (m : Str) (b : Addr) (zs : List Str), vs = [.str m, .ref b] ∧ H b = some (.lst (zs.map V.str)) ∧ ∀ H', Same H H' → Q (.bl (mayStand m zs)) H'
theorem ok_may {f : Addr} {fd : FuncData} {k : Nat} (F : Fun K "may_stand_behind" "may_stand_behind" st_may_stand_behind f fd) : FnOk P w K mg base CX0 (k + 1) f fd ["many", "ahead"] spMay := by
  refine F.ok sc_may_stand_behind (fun vs H Q E h => ?_) (fun cdv A outer s H vs Q E hr h => ?_)
  · obtain ⟨m, b, zs, rfl, _⟩ := h
    rfl
  · obtain ⟨m, b, zs, rfl, eb, q⟩ := h
    refine ⟨_, pss_cons (ps_if (PW.pt (pw_or (pt_cmpR op_in_seq pe_str (pv 1) (by rfl)) (pw_or1 (pt_cmpR op_in_seq pe_str (pv 1) (by rfl))))) (pss_one (ps_ret pe_bl)) pss_nil)
      (pss_one (ps_ret (pe_or (pe_cmpR op_notIn_seq pe_str (pv 1) (by rfl)) (pe_one (pe_cmpR op_in_seq (pv 0) (pe_tup (pa_cons pe_str (pa_cons pe_str pa_nil))) (by rfl)))))), ?_⟩
    unfold mayStand at q
    refine ⟨.ref b, rfl, b, _, rfl, .inl (SqL.of eb), rfl, flat_strs zs, _, rfl, ite2 (fun e => ?_) (fun e => ?_)⟩
    · rw [show inS (Str.ofString "some") zs = true from e] at q
      exact q _ (Same.refl _)
    have n1 : inS (Str.ofString "some") zs = false := by
      cases h : inS (Str.ofString "some") zs with
      | false => rfl
      | true => exact absurd h e
    refine ⟨.ref b, rfl, b, _, rfl, .inl (SqL.of eb), rfl, flat_strs zs, _, rfl, ite2 (fun e2 => ?_) (fun e2 => ?_)⟩
    · rw [n1, show inS (Str.ofString "any") zs = true from e2] at q
      exact q _ (Same.refl _)
    have n2 : inS (Str.ofString "any") zs = false := by
      cases h : inS (Str.ofString "any") zs with
      | false => rfl
      | true => exact absurd h e2
    rw [n1, n2] at q
    refine ⟨.ref b, rfl, b, _, rfl, .inl (SqL.of eb), rfl, flat_strs zs, _, rfl, ite2 (fun e3 => ?_) (fun e3 => ?_)⟩
    · have e3' : (!inS (Str.ofString "maybe") zs) = true := e3
      rw [e3'] at q
      exact q _ (Same.refl _)
    have n3 : inS (Str.ofString "maybe") zs = true := by
      cases h : inS (Str.ofString "maybe") zs with
      | true => rfl
      | false => exact absurd (show (!inS (Str.ofString "maybe") zs) = true by rw [h]; rfl) e3
    rw [n3] at q
    refine ⟨.str m, rfl, by show 2 ≤ sizeLine; decide, fun l nl => ⟨l, _, rfl, .inr (SqT.of upd_same), rfl, rfl, ?_⟩⟩
    exact q _ (same_upd nl)
end
end WB

set_option Elab.async false
set_option linter.all false
set_option maxRecDepth 100000
set_option maxHeartbeats 4000000
namespace WB
open PySem PySem.Spec PyProof.Rows L2 WG
open TL (tl)
theorem orderBad_cons {p : PL} {r : List PL} {ahead : List Str} : orderBad (p :: r) ahead = if mayStand p.many ahead = true then orderBad r (ahead ++ [p.many]) else some p.name := rfl
theorem groupBad_cons {ok r ahead : List Str} {z : Str} : groupBad ok (z :: r) ahead = if (!inS z ok || inS z ahead) = true then some z else groupBad ok r (ahead ++ [z]) := rfl
theorem drop_at {α : Type} {ys : List α} {i : Nat} {y : α} (hy : ys[i]? = some y) : ys.drop i = y :: ys.drop (i + 1) := by
  have hi : i < ys.length := (List.getElem?_eq_some_iff.mp hy).1
  rw [List.drop_eq_getElem_cons hi]
  congr 1
  exact (List.getElem?_eq_some_iff.mp hy).2
section
variable {P : Program} {w : World} {K : PySem.W.Frag} {mg : Str → Option Value} {base : Heap}
theorem ok_orderC {CO CP CC f fM : Addr} {fd fdM : FuncData} {k d : Nat} (F : Fun K "order_clash" "order_clash" st_order_clash f fd) (M : Gets P w K mg base (k + 2) CO CP CC) (D_may_stand_behind : Df K mg "may_stand_behind" st_may_stand_behind ["many", "ahead"] fM fdM) :
    FnOk P w K mg base CX0 (k + 4) f fd ["command"] (spLook CO CP CC d fun t => orderBad t.ps []) := by
  have G_may_stand_behind : FnOk P w K mg base CX0 (k + 3) fM fdM ["many", "ahead"] spMay := ok_may D_may_stand_behind.F
  obtain ⟨f_places, fd_places, m_places, G_places, b_places⟩ := M.places
  obtain ⟨f_pname, fd_pname, m_pname, G_pname, b_pname⟩ := M.pname
  obtain ⟨f_many, fd_many, m_many, G_many, b_many⟩ := M.many
  refine F.ok sc_order_clash (fun vs H Q E h => ?_) (fun cdv A outer s H vs Q E hr h => ?_)
  · obtain ⟨x, t, rfl, _⟩ := h
    rfl
  · obtain ⟨x, t, rfl, cd, q⟩ := h
    have sl : sizeLine = 16777216 := sizeLine_eq
    refine ⟨_, pss_cons (ps_set (i := 1) sc_order_clash.nd rfl (.inl rfl) (pe_lst pa_nil))
      (pss_cons (ps_for PassesOwn.never rfl (pi_list (pe_meth0 (pv 0) M.T.cl m_places G_places (hr.mono (by omega)) b_places .nil pass0)) (pg_name (i := 2) sc_order_clash.nd rfl (Or.inl rfl)) (pss_cons (ps_if (pt_not (pt_val (pe_call G_may_stand_behind hr (by rfl) D_may_stand_behind.g D_may_stand_behind.F.kp D_may_stand_behind.b .nil pass0 (pa_cons (pe_meth0 (pv 2) M.TP.cl m_many G_many (hr.mono (by omega)) b_many .nil pass0) (pa_cons (pv 1) pa_nil))))) (pss_one (ps_ret (pe_meth0 (pv 2) M.TP.cl m_pname G_pname (hr.mono (by omega)) b_pname .nil pass0))) pss_nil)
      (pss_one (ps_expr (pe_bm PySem.F.plainAttrs_list PySem.F.slot_list_append PySem.F.type_list_append mt_append (pv 1) (pa_cons (pe_meth0 (pv 2) M.TP.cl m_many G_many (hr.mono (by omega)) b_many .nil pass0) pa_nil))))))
      (pss_one (ps_ret pe_non))), ?_⟩
    obtain ⟨dx, lo, lp, lg, lc, ao, ap, ag, ac, op, _⟩ := cd.op
    have np := op.np
    refine ⟨by show 0 ≤ sizeLine; decide, fun la na => ?_⟩
    have s0 := same_upd (o := .lst []) na
    have ea : (upd H la (.lst [])) la = some (.lst []) := upd_same
    revert s0 ea
    generalize upd H la (.lst []) = H0
    intro s0 ea
    have op0 := op.same s0
    refine ⟨.ref x, rfl, x, dx, _, rfl, op0.ex, rfl, x, dx, _, lp, _, rfl, op0.ex, rfl, op0.p, fun l nl => ?_⟩
    have s1 := same_upd (o := .lst (ap.map V.ref)) nl
    have e1 : (upd H0 l (.lst (ap.map V.ref))) l = some (.lst (ap.map V.ref)) := upd_same
    have ea1 : (upd H0 l (.lst (ap.map V.ref))) la = some (.lst []) := s1 _ _ ea
    have nla : l ≠ la := (ne_of_none ea nl).symm
    revert s1 e1 ea1
    generalize upd H0 l (.lst (ap.map V.ref)) = H1
    intro s1 e1 ea1
    refine ⟨l, rfl, ⟨_, SqL.of e1⟩, ?_⟩
    refine for_list (K := K) (a := l) (xs := ap.map V.ref) (fun i σ Hc => Same H Hc ∧ Hc l = some (.lst (ap.map V.ref)) ∧ Hc la = some (.lst (((t.ps.take i).map PL.many).map V.str)) ∧ orderBad t.ps [] = orderBad (t.ps.drop i) ((t.ps.take i).map PL.many) ∧ ∃ x2, σ = [some (.ref x), some (.ref la), x2])
      ⟨s0.trans s1, e1, ea1, rfl, none, rfl⟩ (fun i σ Hc _ h => SqL.of h.2.1) ?_ ?_
    · rintro i v σ Hc hv ⟨sc, ec, eac, er, x2, rfl⟩
      rw [List.getElem?_map] at hv
      obtain ⟨a, ha, rfl⟩ := Option.map_eq_some_iff.mp hv
      obtain ⟨o, ho, it⟩ := op.hp.2 i a ha
      have hi : i < t.ps.length := (List.getElem?_eq_some_iff.mp ho).1
      rw [drop_at ho] at er
      have it' := it.same sc
      obtain ⟨dx', fs, ex', no'⟩ := it'.no (m := "many") (by decide +kernel)
      refine ⟨.ref a, rfl, a, dx', fs, rfl, ex', no', a, _, .str o.many, rfl, it', rfl, .ref la, rfl, o.many, la, _, rfl, eac, fun H2 s2 => ⟨_, rfl, ?_⟩⟩
      rw [orderBad_cons] at er
      cases b : mayStand o.many ((t.ps.take i).map PL.many) with
      | false =>
        rw [if_neg (by rw [b]; decide)] at er
        have er' : (fun t : Ct => orderBad t.ps []) t = some o.name := er
        rw [er'] at q
        have it2 := it'.same s2
        obtain ⟨dx2, fs2, ex2, no2⟩ := it2.no (m := "name") (by decide +kernel)
        exact ⟨.ref a, rfl, a, dx2, fs2, rfl, ex2, no2, a, _, .str o.name, rfl, it2, rfl, q _ (sc.trans s2)⟩
      | true =>
        rw [if_pos b] at er
        have it2 := it'.same s2
        obtain ⟨dx2, fs2, ex2, no2⟩ := it2.no (m := "many") (by decide +kernel)
        refine ⟨.ref la, rfl, Or.inl ⟨rfl, _, SqL.of (s2 _ _ eac)⟩, .ref a, rfl, a, dx2, fs2, rfl, ex2, no2, a, _, .str o.many, rfl, it2, rfl, la, _, _, rfl, rfl, s2 _ _ eac, by rw [List.length_map, List.length_map, List.length_take]; omega, fun b' o' e' => ?_, ?_, ?_, ?_, _, rfl⟩
        · rw [upd_ne (ne_of_none e' na)]
          exact s2 _ _ (sc _ _ e')
        · rw [upd_ne nla]
          exact s2 _ _ ec
        · rw [upd_same, List.take_add_one, ho, List.map_append, List.map_append]
          rfl
        · rw [List.take_add_one, ho, List.map_append]
          exact er
    · rintro σ Hc ⟨sc, ec, eac, er, x2, rfl⟩
      have le : (ap.map V.ref).length = t.ps.length := by rw [List.length_map]; exact op.hp.1
      rw [le, List.drop_length] at er
      have er' : (fun t : Ct => orderBad t.ps []) t = none := er
      rw [er'] at q
      exact q _ sc
theorem ok_bothC {CO CP CC f : Addr} {fd : FuncData} {k d : Nat} (F : Fun K "both_clash" "both_clash" st_both_clash f fd) (M : Gets P w K mg base (k + 2) CO CP CC) (m_len : mg "len" = none) :
    FnOk P w K mg base CX0 (k + 4) f fd ["command"] (spLook CO CP CC d bothC) := by
  obtain ⟨f_places, fd_places, m_places, G_places, b_places⟩ := M.places
  obtain ⟨f_commands, fd_commands, m_commands, G_commands, b_commands⟩ := M.commands
  obtain ⟨f_name, fd_name, m_name, G_name, b_name⟩ := M.name
  refine F.ok sc_both_clash (fun vs H Q E h => ?_) (fun cdv A outer s H vs Q E hr h => ?_)
  · obtain ⟨x, t, rfl, _⟩ := h
    rfl
  · obtain ⟨x, t, rfl, cd, q⟩ := h
    refine ⟨_, pss_cons (ps_if (PW.pt (pw_and (pt_cmpR op_gt (pe_callB call_len_seq (by rfl) m_len PySem.boot_len (pa_cons (pe_meth0 (pv 0) M.T.cl m_places G_places (hr.mono (by omega)) b_places .nil pass0) pa_nil)) pe_int (nomark _)) (pw_and1 (pt_cmpR op_gt (pe_callB call_len_seq (by rfl) m_len PySem.boot_len (pa_cons (pe_meth0 (pv 0) M.T.cl m_commands G_commands (hr.mono (by omega)) b_commands .nil pass0) pa_nil)) pe_int (nomark _))))) (pss_one (ps_ret (pe_meth0 (pv 0) M.T.cl m_name G_name (hr.mono (by omega)) b_name .nil pass0))) pss_nil)
      (pss_one (ps_ret pe_non)), ?_⟩
    obtain ⟨dx, lo, lp, lg, lc, ao, ap, ag, ac, op, _⟩ := cd.op
    have l1 := op.hp.1
    have l2 := op.hl
    unfold bothC at q
    refine ⟨.ref x, rfl, x, dx, _, rfl, op.ex, rfl, x, dx, _, lp, _, rfl, op.ex, rfl, op.p, fun l nl => ?_⟩
    have s1 := same_upd (o := .lst (ap.map V.ref)) nl
    refine ⟨l, _, rfl, .inl (SqL.of upd_same), _, _, rfl, rfl, _, rfl, ite2 (fun e => ?_) (fun e => ?_)⟩
    · have e' : (((ap.map V.ref).length : Nat) : Int) > 0 := of_decide_eq_true e
      rw [List.length_map] at e'
      have op1 := op.same s1
      revert s1 op1
      generalize upd H l (.lst (ap.map V.ref)) = H1
      intro s1 op1
      refine ⟨.ref x, rfl, x, dx, _, rfl, op1.ex, rfl, x, dx, _, lc, _, rfl, op1.ex, rfl, op1.c, fun m nm => ?_⟩
      have s2 := same_upd (o := .lst (ac.map V.ref)) nm
      have op2 := op1.same s2
      refine ⟨m, _, rfl, .inl (SqL.of upd_same), _, _, rfl, rfl, _, rfl, ite2 (fun e2 => ?_) (fun e2 => ?_)⟩
      · have e2' : (((ac.map V.ref).length : Nat) : Int) > 0 := of_decide_eq_true e2
        rw [List.length_map] at e2'
        rw [if_pos ⟨by omega, by omega⟩] at q
        exact ⟨.ref x, rfl, x, dx, _, rfl, op2.ex, rfl, x, dx, _, .str t.name, rfl, op2.ex, rfl, q _ (s1.trans s2)⟩
      · have e2' : ¬ (((ac.map V.ref).length : Nat) : Int) > 0 := fun z => e2 (decide_eq_true z)
        rw [List.length_map] at e2'
        rw [if_neg (fun z => by omega)] at q
        exact q _ (s1.trans s2)
    · have e' : ¬ (((ap.map V.ref).length : Nat) : Int) > 0 := fun z => e (decide_eq_true z)
      rw [List.length_map] at e'
      rw [if_neg (fun z => by omega)] at q
      exact q _ s1
theorem ok_cmdC {CO CP CC f fR : Addr} {fd fdR : FuncData} {k d : Nat} (F : Fun K "command_clash" "command_clash" st_command_clash f fd) (M : Gets P w K mg base (k + 2) CO CP CC) (D_first_repeated : Df K mg "first_repeated" st_first_repeated ["texts", "ahead"] fR fdR) (m_list : mg "list" = none) :
    FnOk P w K mg base CX0 (k + 4) f fd ["command"] (spLook CO CP CC d fun t => firstRep (t.cs.map Ct.name) []) := by
  have G_first_repeated : FnOk P w K mg base CX0 (k + 3) fR fdR ["texts", "ahead"] spRep := ok_rep D_first_repeated.F m_list
  obtain ⟨f_commands, fd_commands, m_commands, G_commands, b_commands⟩ := M.commands
  obtain ⟨f_name, fd_name, m_name, G_name, b_name⟩ := M.name
  refine F.ok sc_command_clash (fun vs H Q E h => ?_) (fun cdv A outer s H vs Q E hr h => ?_)
  · obtain ⟨x, t, rfl, _⟩ := h
    rfl
  · obtain ⟨x, t, rfl, cd, q⟩ := h
    have sl : sizeLine = 16777216 := sizeLine_eq
    refine ⟨_, pss_one (ps_ret (pe_call G_first_repeated hr (by rfl) D_first_repeated.g D_first_repeated.F.kp D_first_repeated.b .nil pass0 (pa_cons (pe_lc (own := [("beneath", 1)]) (g := gName 1) (tt := tYes) rfl sc_command_clash.nd (pi_list (pe_meth0 (pv 0) M.T.cl m_commands G_commands (hr.mono (by omega)) b_commands .nil pass0)) (blkOk_by (N := ["command", "beneath"]) (sc := defScope st_command_clash) (by decide +kernel)) (fun _ _ _ _ _ => (pg_name (i := 1) sc_command_clash.nd rfl (Or.inl rfl))) (fun _ _ _ _ _ => pts_nil) (fun _ _ _ _ _ => (pe_meth0 (pv 1) M.T.cl m_name G_name (hr.mono (by omega)) b_name .nil pass0))) (pa_cons (pe_lst pa_nil) pa_nil)))), ?_⟩
    obtain ⟨dx, lo, lp, lg, lc, ao, ap, ag, ac, op, sub⟩ := cd.op
    have nc := op.nc
    refine ⟨.ref x, rfl, x, dx, _, rfl, op.ex, rfl, x, dx, _, lc, _, rfl, op.ex, rfl, op.c, fun l nl => ?_⟩
    have s1 := same_upd (o := .lst (ac.map V.ref)) nl
    have e1 : (upd H l (.lst (ac.map V.ref))) l = some (.lst (ac.map V.ref)) := upd_same
    revert s1 e1
    generalize upd H l (.lst (ac.map V.ref)) = H1
    intro s1 e1
    refine ⟨l, rfl, ⟨_, SqL.of e1⟩, fun D nD => ?_⟩
    refine lc_list (K := K) (a := l) (xs := ac.map V.ref) (fun i Hc => Same H1 Hc ∧ Hc D = some (.lst (((t.cs.take i).map Ct.name).map V.str))) ⟨same_upd nD, upd_same⟩ (fun i Hc _ h => SqL.of (h.1 _ _ e1)) (fun i v Hc hv ⟨sc, eD⟩ => ?_) (fun H2 ⟨s2, eD⟩ => ?_)
    · rw [List.getElem?_map] at hv
      obtain ⟨a, ha, rfl⟩ := Option.map_eq_some_iff.mp hv
      have hi : i < t.cs.length := by rw [← op.hl]; exact (List.getElem?_eq_some_iff.mp ha).1
      have hu : t.cs[i]? = some t.cs[i] := List.getElem?_eq_getElem hi
      obtain ⟨e, _, cu⟩ := sub i a _ ha hu
      obtain ⟨dy, _, _, _, _, _, _, _, _, opu, _⟩ := ((cu.same s1).same sc).op
      refine ⟨rfl, .ref a, rfl, a, dy, _, rfl, opu.ex, rfl, a, dy, _, .str (t.cs[i]).name, rfl, opu.ex, rfl, _, eD, ?_, fun b u e => ?_, ?_⟩
      · rw [List.length_map, List.length_map, List.length_take]
        omega
      · rw [upd_ne (ne_of_none e nD)]
        exact sc _ _ e
      · rw [upd_same, List.take_add_one, hu, List.map_append, List.map_append]
        rfl
    have le : (ac.map V.ref).length = t.cs.length := by rw [List.length_map]; exact op.hl
    rw [le, List.take_length] at eD
    refine ⟨by show 0 ≤ sizeLine; decide, fun l0 n0 => ?_⟩
    have s4 := same_upd (o := .lst []) n0
    exact ⟨D, l0, t.cs.map Ct.name, [], rfl, s4 _ _ eD, upd_same, by rw [List.length_map]; omega, by decide, fun H' s' => q _ (((s1.trans s2).trans s4).trans s')⟩
theorem ok_groupC {CO CP CC f : Addr} {fd : FuncData} {k d : Nat} (F : Fun K "group_clash" "group_clash" st_group_clash f fd) (M : Gets P w K mg base (k + 2) CO CP CC) :
    FnOk P w K mg base CX0 (k + 4) f fd ["command"] (spLook CO CP CC d fun t => groupBad (freeC t) t.gs.flatten []) := by
  obtain ⟨f_options, fd_options, m_options, G_options, b_options⟩ := M.options
  obtain ⟨f_long, fd_long, m_long, G_long, b_long⟩ := M.long
  obtain ⟨f_needed, fd_needed, m_needed, G_needed, b_needed⟩ := M.needed
  obtain ⟨f_groups, fd_groups, m_groups, G_groups, b_groups⟩ := M.groups
  refine F.ok sc_group_clash (fun vs H Q E h => ?_) (fun cdv A outer s H vs Q E hr h => ?_)
  · obtain ⟨x, t, rfl, _⟩ := h
    rfl
  · obtain ⟨x, t, rfl, cd, q⟩ := h
    have sl : sizeLine = 16777216 := sizeLine_eq
    refine ⟨_, pss_cons (ps_setLc (i := 1) (own := [("option", 5)]) (g := gName 5)  rfl sc_group_clash.nd rfl rfl (sw_true rfl rfl rfl (by decide +kernel)) (pi_list (pe_meth0 (pv 0) M.T.cl m_options G_options (hr.mono (by omega)) b_options .nil pass0)) (blkOk_by (N := ["command", "groupable", "ahead", "group", "text", "option"]) (sc := defScope st_group_clash) (by decide +kernel)) (fun _ _ _ _ _ => (pg_name (i := 5) sc_group_clash.nd rfl (Or.inl rfl))) (fun _ _ _ _ _ => pts_one (pt_not (pt_val (pe_meth0 (pv 5) M.TO.cl m_needed G_needed (hr.mono (by omega)) b_needed .nil pass0)))) (fun _ _ _ _ _ => (pe_meth0 (pv 5) M.TO.cl m_long G_long (hr.mono (by omega)) b_long .nil pass0)))
      (pss_cons (ps_set (i := 2) sc_group_clash.nd rfl (.inl rfl) (pe_lst pa_nil))
      (pss_cons (ps_for PassesOwn.never rfl (pi_list (pe_meth0 (pv 0) M.T.cl m_groups G_groups (hr.mono (by omega)) b_groups .nil pass0)) (pg_name (i := 3) sc_group_clash.nd rfl (Or.inl rfl)) (pss_one (ps_for PassesOwn.never rfl (pi_list (pv 3)) (pg_name (i := 4) sc_group_clash.nd rfl (Or.inl rfl)) (pss_cons (ps_if (PW.pt (pw_or (pt_cmpR op_notIn_seq (pv 4) (pv 1) (by rfl)) (pw_or1 (pt_cmpR op_in_seq (pv 4) (pv 2) (by rfl))))) (pss_one (ps_ret (pv 4))) pss_nil)
      (pss_one (ps_expr (pe_bm PySem.F.plainAttrs_list PySem.F.slot_list_append PySem.F.type_list_append mt_append (pv 2) (pa_cons (pv 4) pa_nil))))))))
      (pss_one (ps_ret pe_non)))), ?_⟩
    obtain ⟨dx, lo, lp, lg, lc, ao, ap, ag, ac, op, _⟩ := cd.op
    have no := op.no
    have ng := op.ng
    refine ⟨.ref x, rfl, x, dx, _, rfl, op.ex, rfl, x, dx, _, lo, _, rfl, op.ex, rfl, op.o, fun l nl => ?_⟩
    have s1 := same_upd (o := .lst (ao.map V.ref)) nl
    have e1 : (upd H l (.lst (ao.map V.ref))) l = some (.lst (ao.map V.ref)) := upd_same
    revert s1 e1
    generalize upd H l (.lst (ao.map V.ref)) = H1
    intro s1 e1
    refine ⟨l, rfl, ⟨_, SqL.of e1⟩, fun D nD => ?_⟩
    refine lc_list (K := K) (a := l) (xs := ao.map V.ref) (fun i Hc => Same H1 Hc ∧ Hc D = some (.lst ((((t.os.take i).filter fun o => !o.need).map OT.long).map V.str))) ⟨same_upd nD, upd_same⟩ (fun i Hc _ h => SqL.of (h.1 _ _ e1)) (fun i v Hc hv ⟨sc, eD⟩ => ?_) (fun H2 ⟨s2, eD⟩ => ?_)
    · rw [List.getElem?_map] at hv
      obtain ⟨a, ha, rfl⟩ := Option.map_eq_some_iff.mp hv
      obtain ⟨o, ho, it⟩ := op.ho.2 i a ha
      have it' := (it.same s1).same sc
      obtain ⟨dx', fs, ex', no'⟩ := it'.no (m := "needed") (by decide +kernel)
      have hi : i < t.os.length := (List.getElem?_eq_some_iff.mp ho).1
      refine ⟨rfl, .ref a, rfl, a, dx', fs, rfl, ex', no', a, _, .bl o.need, rfl, it', rfl, _, rfl, ?_⟩
      cases b : o.need with
      | true =>
        refine ⟨sc, ?_⟩
        rw [filt_off ho (by rw [b]; rfl)]
        exact eD
      | false =>
        obtain ⟨dx2, fs2, ex2, no2⟩ := it'.no (m := "long") (by decide +kernel)
        refine ⟨.ref a, rfl, a, dx2, fs2, rfl, ex2, no2, a, _, .str o.long, rfl, it', rfl, _, eD, ?_, fun b u e => ?_, ?_⟩
        · rw [List.length_map, List.length_map]
          have := List.length_filter_le (fun o : OT => !o.need) (t.os.take i)
          rw [List.length_take] at this
          omega
        · rw [upd_ne (ne_of_none e nD)]
          exact sc _ _ e
        · rw [upd_same, filt_on ho (by rw [b]; rfl), List.map_append, List.map_append]
          rfl
    have le : (ao.map V.ref).length = t.os.length := by rw [List.length_map]; exact op.ho.1
    rw [le, List.take_length] at eD
    have eG : H2 D = some (.lst ((freeC t).map V.str)) := eD
    have S2 := s1.trans s2
    refine ⟨by show 0 ≤ sizeLine; decide, fun la na => ?_⟩
    have s3 := same_upd (o := .lst []) na
    have ea : (upd H2 la (.lst [])) la = some (.lst []) := upd_same
    revert s3 ea
    generalize upd H2 la (.lst []) = H3
    intro s3 ea
    have S3 := S2.trans s3
    have op3 := op.same S3
    refine ⟨.ref x, rfl, x, dx, _, rfl, op3.ex, rfl, x, dx, _, lg, ag, t.gs.map (fun g => g.map V.str), rfl, op3.ex, rfl, op3.g, by rw [List.length_map]; exact op.hg.1, by rw [op.hg.1]; omega, fun i b e => ?_, fun H4 l4 s4 g4 => ?_⟩
    · obtain ⟨g, h1, h2⟩ := op3.hg.2 i b e
      exact ⟨g.map V.str, by rw [List.getElem?_map, h1]; rfl, h2.1⟩
    obtain ⟨n4, as4, e4, la4, ha4, nd4⟩ := g4
    have S4 := S3.trans s4
    have nal : la ≠ l4 := ne_of_none ea n4
    have lens : ∀ g ∈ t.gs, g.length ≤ 1000 := fun g hg => by
      obtain ⟨i, hi, e⟩ := List.mem_iff_getElem.mp hg
      obtain ⟨a, _, h⟩ := op.hg.get (i := i) (x := g) (by rw [List.getElem?_eq_getElem hi, e])
      exact h.2.1
    refine ⟨l4, rfl, ⟨_, SqL.of e4⟩, ?_⟩
    refine for_list (K := K) (a := l4) (xs := as4.map V.ref) (fun i σ Hc => Same H Hc ∧ (∀ b o, b ≠ la → H4 b = some o → Hc b = some o) ∧ (∃ al : List Str, Hc la = some (.lst (al.map V.str)) ∧ al.length ≤ 1000 * i ∧ groupBad (freeC t) t.gs.flatten [] = groupBad (freeC t) ((t.gs.drop i).flatten) al) ∧ ∃ x3 x4, σ = [some (.ref x), some (.ref D), some (.ref la), x3, x4, none])
      ⟨S4, fun b o _ e => e, ⟨[], s4 _ _ ea, Nat.le_refl _, rfl⟩, none, none, rfl⟩ (fun i σ Hc _ h => SqL.of (h.2.1 _ _ nal.symm e4)) ?_ ?_
    · rintro i v σ Hc hv ⟨sc, kc, ⟨al, eal, lal, er⟩, x3, x4, rfl⟩
      rw [List.getElem?_map] at hv
      obtain ⟨a, ha, rfl⟩ := Option.map_eq_some_iff.mp hv
      obtain ⟨na4, nal4, g', hg', eg⟩ := ha4 i a ha
      rw [List.getElem?_map] at hg'
      obtain ⟨g, hg, rfl⟩ := Option.map_eq_some_iff.mp hg'
      have hi : i < t.gs.length := (List.getElem?_eq_some_iff.mp hg).1
      have naa : a ≠ la := fun z => by rw [z, ea] at na4; cases na4
      have lg' := lens g (List.mem_of_getElem? hg)
      have egc := kc _ _ naa eg
      rw [drop_at hg, List.flatten_cons] at er
      refine ⟨.ref a, rfl, a, rfl, ⟨_, SqL.of egc⟩, ?_⟩
      refine for_list (K := K) (a := a) (xs := g.map V.str) (fun j σ Hd => Same H Hd ∧ (∀ b o, b ≠ la → H4 b = some o → Hd b = some o) ∧ (∃ al : List Str, Hd la = some (.lst (al.map V.str)) ∧ al.length ≤ 1000 * i + j ∧ groupBad (freeC t) t.gs.flatten [] = groupBad (freeC t) (g.drop j ++ (t.gs.drop (i + 1)).flatten) al) ∧ ∃ x4, σ = [some (.ref x), some (.ref D), some (.ref la), some (.ref a), x4, none])
        ⟨sc, kc, ⟨al, eal, by omega, er⟩, x4, rfl⟩ (fun j σ Hd _ h => SqL.of (h.2.1 _ _ naa eg)) ?_ ?_
      · rintro j v σ Hd hv ⟨sd, kd, ⟨al, eal, lal, er⟩, x4', rfl⟩
        rw [List.getElem?_map] at hv
        obtain ⟨z, hz, rfl⟩ := Option.map_eq_some_iff.mp hv
        have hj : j < g.length := (List.getElem?_eq_some_iff.mp hz).1
        rw [drop_at hz, List.cons_append] at er
        have eGd := kd _ _ (ne_of_none eG na) (s4 _ _ (s3 _ _ eG))
        rw [groupBad_cons] at er
        refine ⟨.str z, rfl, .ref D, rfl, D, _, rfl, .inl (SqL.of eGd), rfl, flat_strs _, _, rfl, ite2 (fun e => ?_) (fun e => ?_)⟩
        · have e' : (!inS z (freeC t)) = true := e
          rw [if_pos (by rw [e']; rfl)] at er
          have er' : (fun t : Ct => groupBad (freeC t) t.gs.flatten []) t = some z := er
          rw [er'] at q
          exact ⟨_, rfl, q _ sd⟩
        have n1 : (!inS z (freeC t)) = false := Bool.eq_false_iff.mpr e
        refine ⟨.str z, rfl, .ref la, rfl, la, _, rfl, .inl (SqL.of eal), rfl, flat_strs _, _, rfl, ite2 (fun e2 => ?_) (fun e2 => ?_)⟩
        · have e2' : inS z al = true := e2
          rw [if_pos (by rw [e2', Bool.or_true])] at er
          have er' : (fun t : Ct => groupBad (freeC t) t.gs.flatten []) t = some z := er
          rw [er'] at q
          exact ⟨_, rfl, q _ sd⟩
        have n2 : inS z al = false := Bool.eq_false_iff.mpr e2
        rw [if_neg (by rw [n1, n2]; decide)] at er
        refine ⟨.ref la, rfl, Or.inl ⟨rfl, _, SqL.of eal⟩, .str z, rfl, la, _, _, rfl, rfl, eal, by rw [List.length_map]; omega, fun b' o' e' => ?_, fun b' o' nb e' => ?_, ⟨al ++ [z], ?_, by rw [List.length_append]; show _ + 1 ≤ _; omega, er⟩, _, rfl⟩
        · rw [upd_ne (ne_of_none e' (fresh_of S2 na))]
          exact sd _ _ e'
        · rw [upd_ne nb]
          exact kd _ _ nb e'
        · rw [upd_same, List.map_append]
          rfl
      · rintro σ Hd ⟨sd, kd, ⟨al, eal, lal, er⟩, x4', rfl⟩
        rw [List.length_map] at lal er
        rw [List.drop_length, List.nil_append] at er
        exact ⟨sd, kd, ⟨al, eal, by omega, er⟩, _, _, rfl⟩
    · rintro σ Hc ⟨sc, kc, ⟨al, eal, lal, er⟩, x3, x4, rfl⟩
      have le4 : (as4.map V.ref).length = t.gs.length := by rw [List.length_map, la4, List.length_map]
      rw [le4, List.drop_length, List.flatten_nil] at er
      have er' : (fun t : Ct => groupBad (freeC t) t.gs.flatten []) t = none := er
      rw [er'] at q
      exact q _ sc
end
end WB

set_option Elab.async false
set_option linter.all false
set_option maxRecDepth 100000
set_option maxHeartbeats 4000000
namespace WB
open PySem PySem.Spec PyProof.Rows L2 WG
open TL (tl)
abbrev st_own_clash : Stmt := topS 13
theorem sc_own_clash : FnScope ["command", "path", "kind", "look", "who"] ["command", "path"] (defScope st_own_clash) := ⟨rfl, rfl, rfl, by decide +kernel, rfl, by decide +kernel, by decide +kernel⟩
abbrev st_clash_within : Stmt := topS 14
theorem sc_clash_within : FnScope ["command", "above", "path", "clash", "beneath"] ["command", "above"] (defScope st_clash_within) := ⟨rfl, rfl, rfl, by decide +kernel, rfl, by decide +kernel, by decide +kernel⟩
abbrev st_first_clash : Stmt := topS 15
theorem sc_first_clash : FnScope ["command"] ["command"] (defScope st_first_clash) := ⟨rfl, rfl, rfl, by decide +kernel, rfl, by decide +kernel, by decide +kernel⟩
/-! ### a local name that holds one of several defs -/
def tCallLS (i : Nat) (f : Addr) (sp : Sp) (E : L2.St → XK) (t : TA) : TE := fun σ H Q => σ[i]? = some (some (.ref f)) ∧ t σ H fun vs H1 => sp vs H1 Q (E σ)
theorem pe_callLS {X : Cx} {CX : CXT} {k i : Nat} {f : Addr} {fd : FuncData} {ps : List Str} {sp : Sp} {E : L2.St → XK} {nm : Str} {p pos : Pos} {e : Expr} {es : List Expr} {t : TA}
    (G : FnOk X.prog X.w X.K X.mg X.base CX k f fd ps sp) (room : Room k X.A) (at_ : X.N[i]? = some nm) (vis : Vis X.env.scope nm) (kp : PySem.W.keepIn X.K (.ref f) = true) (bnd : Binds X.K fd ps []) (out : ∀ σ, PassesAt CX X σ (E σ)) (args : PA X (e :: es) t)
    (n1 : (nm == ("__debug__" : Str)) = false := by decide) (n2 : (nm == ("__classdict__" : Str)) = false := by decide)
    (s1 : starEach (e :: es) X.env = (false, eval e X.env) :: starEach es X.env := by rfl) (s2 : (backTo pos (starEach es X.env)).any (·.1) = false := by rfl) : PE X (.Call (.Name nm p) (e :: es) [] pos) (tCallLS i f sp E t) := by
  constructor
  intro pins st σ H want inv ask
  refine wpAny_Call_Name_kw (thn ((pe_var (pos := p) at_ vis n1 n2).run pins st σ H (fun v H1 => v = .ref f ∧ H1 = H) inv ⟨.ref f, ask.1, rfl, rfl⟩) fun u st1 got => ?_)
  obtain ⟨v, H1, inv1, rel, rfl, rfl⟩ := got
  cases rel
  exact PySem.W.callWith_K (h₀ := X.base) inv.ok.mod.kin kp (thn (args.run pos pins st1 σ _ _ inv1 ask.2) fun us st2 ⟨vs, H2, inv2, rels, q⟩ => ⟨inv2.kIn, run_fnS G room bnd (out σ) inv2 rels q⟩) s1 s2
def tCallLM {ι : Type} (n : Nat) (f : ι → Addr) (sp : ι → Sp) (E : L2.St → XK) (t : TA) : TE := fun σ H Q => ∃ i, σ[n]? = some (some (.ref (f i))) ∧ t σ H fun vs H1 => sp i vs H1 Q (E σ)
theorem pe_callLM {ι : Type} {X : Cx} {CX : CXT} {k n : Nat} {f : ι → Addr} {fd : ι → FuncData} {ps : List Str} {sp : ι → Sp} {E : L2.St → XK} {nm : Str} {p pos : Pos} {e : Expr} {es : List Expr} {t : TA}
    (G : ∀ i, FnOk X.prog X.w X.K X.mg X.base CX k (f i) (fd i) ps (sp i)) (room : Room k X.A) (at_ : X.N[n]? = some nm) (vis : Vis X.env.scope nm) (kp : ∀ i, PySem.W.keepIn X.K (.ref (f i)) = true) (bnd : ∀ i, Binds X.K (fd i) ps []) (out : ∀ σ, PassesAt CX X σ (E σ)) (args : PA X (e :: es) t)
    (n1 : (nm == ("__debug__" : Str)) = false := by decide) (n2 : (nm == ("__classdict__" : Str)) = false := by decide)
    (s1 : starEach (e :: es) X.env = (false, eval e X.env) :: starEach es X.env := by rfl) (s2 : (backTo pos (starEach es X.env)).any (·.1) = false := by rfl) : PE X (.Call (.Name nm p) (e :: es) [] pos) (tCallLM n f sp E t) := by
  constructor
  intro pins st σ H want inv ask
  obtain ⟨i, hi, ask⟩ := ask
  exact (pe_callLS (G i) room at_ vis (kp i) (bnd i) out args n1 n2 s1 s2).run pins st σ H want inv ⟨hi, ask⟩
theorem passAt0 {X : Cx} (σ : L2.St) : PassesAt CX0 X σ ((fun _ => E0) σ) := fun _ _ _ _ _ _ h => h.elim
/-! ### the first clash -/
def kindF : Fin 7 → Str
  | 0 => Str.ofString "long"
  | 1 => Str.ofString "short"
  | 2 => Str.ofString "name"
  | 3 => Str.ofString "order"
  | 4 => Str.ofString "both"
  | 5 => Str.ofString "group"
  | 6 => Str.ofString "command"
def lookF : Fin 7 → Ct → Option Str
  | 0 => fun t => firstRep (longsC t) []
  | 1 => fun t => firstRep (shortsC t) []
  | 2 => fun t => firstRep (t.ps.map PL.name) (longsC t)
  | 3 => fun t => orderBad t.ps []
  | 4 => bothC
  | 5 => fun t => groupBad (freeC t) t.gs.flatten []
  | 6 => fun t => firstRep (t.cs.map Ct.name) []
def firstOf : List (Str × Option Str) → Option (Str × Str)
  | [] => none
  | (k, some z) :: _ => some (k, z)
  | (_, none) :: r => firstOf r
def looksC (t : Ct) : List (Str × Option Str) := List.ofFn fun i => (kindF i, lookF i t)
def ownC (t : Ct) (path : List Str) : Option (Str × Str) := if 4 < path.length then some (Str.ofString "deep", t.name) else firstOf (looksC t)
mutual
def clashIn (above : List Str) : Ct → Option (List Str × Str × Str)
  | .mk n os ps gs cs ab => match ownC (.mk n os ps gs cs ab) (above ++ [n]) with
    | some (k, z) => some (above ++ [n], k, z)
    | none => clashesIn (above ++ [n]) cs
def clashesIn (path : List Str) : List Ct → Option (List Str × Str × Str)
  | [] => none
  | c :: r => match clashIn path c with
    | some z => some z
    | none => clashesIn path r
end
theorem clashIn_eq (above : List Str) (t : Ct) : clashIn above t = match ownC t (above ++ [t.name]) with
    | some (k, z) => some (above ++ [t.name], k, z)
    | none => clashesIn (above ++ [t.name]) t.cs := by
  cases t with
  | mk n os ps gs cs ab =>
    rw [clashIn]
    rfl
section
variable {P : Program} {w : World} {K : PySem.W.Frag} {mg : Str → Option Value} {base : Heap}
def spOwn (CO CP CC : Addr) (d : Nat) : Sp := fun vs H Q _ => ∃ (x pa : Addr) (t : Ct) (path : List Str), vs = [.ref x, .ref pa] ∧ CdAt CO CP CC H d x t ∧ H pa = some (.lst (path.map V.str)) ∧
  (ownC t path = none → ∀ H', Same H H' → Q .non H') ∧ (∀ k z, ownC t path = some (k, z) → ∀ H' r, Same H H' → H r = none → H' r = some (.tup [.ref pa, .str k, .str z]) → Q (.ref r) H')
/-- what is looked for, as the written part tells it -/
structure Looked (K : PySem.W.Frag) (mg : Str → Option Value) (aL : Addr) (T fL : Fin 7 → Addr) : Prop where
  g : mg "LOOKED_FOR" = some (.ref aL)
  l : ∀ H : Hp, SqT K H aL (List.ofFn fun i => V.ref (T i))
  e : ∀ (H : Hp) (i : Fin 7), SqT K H (T i) [.str (kindF i), .ref (fL i)]
theorem ok_own {CO CP CC f aL : Addr} {fd : FuncData} {T fL : Fin 7 → Addr} {fdL : Fin 7 → FuncData} {u : Tok} {k d : Nat} (F : Fun K "own_clash" "own_clash" st_own_clash f fd) (M : Gets P w K mg base (k + 2) CO CP CC) (LK : Looked K mg aL T fL)
    (G_look : ∀ i, FnOk P w K mg base CX0 (k + 4) (fL i) (fdL i) ["command"] (spLook CO CP CC d (lookF i))) (kpL : ∀ i, PySem.W.keepIn K (.ref (fL i)) = true) (bL : ∀ i, Binds K (fdL i) ["command"] []) (c_MN : mg "MOST_NAMES_IN_PATH" = some (.int 4 u)) (m_len : mg "len" = none) :
    FnOk P w K mg base CX0 (k + 5) f fd ["command", "path"] (spOwn CO CP CC d) := by
  obtain ⟨f_name, fd_name, m_name, G_name, b_name⟩ := M.name
  have c_LF := LK.g
  refine F.ok sc_own_clash (fun vs H Q E h => ?_) (fun cdv A outer s H vs Q E hr h => ?_)
  · obtain ⟨x, pa, t, path, rfl, _⟩ := h
    rfl
  · obtain ⟨x, pa, t, path, rfl, cd, ep, q0, q1⟩ := h
    refine ⟨_, pss_cons (ps_if (pt_cmpR op_gt (pe_callB call_len_seq (by rfl) m_len PySem.boot_len (pa_cons (pv 1) pa_nil)) (pe_glob (v := .int 4) rfl c_MN ⟨_, rfl⟩) (nomark _)) (pss_one (ps_ret (pe_tup (pa_cons (pv 1) (pa_cons pe_str (pa_cons (pe_meth0 (pv 0) M.T.cl m_name G_name (hr.mono (by omega)) b_name .nil pass0) pa_nil)))))) pss_nil)
      (pss_cons (ps_for PassesOwn.never rfl (pi_tup (pe_glob (v := .ref aL) rfl c_LF rfl)) (pg_tup rfl (pgs_cons (pg_name (i := 2) sc_own_clash.nd rfl (Or.inl rfl)) (pgs_cons (pg_name (i := 3) sc_own_clash.nd rfl (Or.inl rfl)) pgs_nil))) (pss_cons (ps_set (i := 4) sc_own_clash.nd rfl (.inl rfl) (pe_callLM (n := 3) G_look hr rfl (by first | exact .inl rfl | exact .inr (.inl rfl)) kpL bL passAt0 (pa_cons (pv 0) pa_nil)))
      (pss_one (ps_if (pt_cmpR op_notN (pv 4) pe_non (nomark _)) (pss_one (ps_ret (pe_tup (pa_cons (pv 1) (pa_cons (pv 2) (pa_cons (pv 4) pa_nil)))))) pss_nil))))
      (pss_one (ps_ret pe_non))), ?_⟩
    obtain ⟨dx, lo, lp, lg, lc, ao, ap, ag, ac, op, _⟩ := cd.op
    unfold ownC at q0 q1
    refine ⟨.ref pa, rfl, pa, _, rfl, .inl (SqL.of ep), _, _, rfl, rfl, _, rfl, ite2 (fun e => ?_) (fun e => ?_)⟩
    · have e' : (((path.map V.str).length : Nat) : Int) > 4 := of_decide_eq_true e
      rw [List.length_map] at e'
      rw [if_pos (by omega)] at q1
      refine ⟨_, rfl, .ref x, rfl, x, dx, _, rfl, op.ex, rfl, x, dx, _, .str t.name, rfl, op.ex, rfl, by show 3 ≤ sizeLine; decide, fun r nr => ?_⟩
      exact q1 _ _ rfl _ r (same_upd nr) nr upd_same
    have e' : ¬ (((path.map V.str).length : Nat) : Int) > 4 := fun z => e (decide_eq_true z)
    rw [List.length_map] at e'
    rw [if_neg (by omega)] at q0 q1
    refine ⟨aL, rfl, ⟨_, LK.l H⟩, ?_⟩
    refine for_tup (K := K) (a := aL) (xs := List.ofFn fun i => V.ref (T i)) (fun i σ Hc => Same H Hc ∧ firstOf (looksC t) = firstOf ((looksC t).drop i) ∧ ∃ x2 x3 x4, σ = [some (.ref x), some (.ref pa), x2, x3, x4])
      ⟨Same.refl _, rfl, none, none, none, rfl⟩ (fun i σ Hc _ h => LK.l Hc) ?_ ?_
    · rintro i v σ Hc hv ⟨sc, er, x2, x3, x4, rfl⟩
      have hi : i < 7 := by
        have := (List.getElem?_eq_some_iff.mp hv).1
        rwa [List.length_ofFn] at this
      have ev : v = .ref (T ⟨i, hi⟩) := by
        rw [List.getElem?_ofFn, dif_pos hi] at hv
        exact (Option.some.inj hv).symm
      subst ev
      have hl : (looksC t)[i]? = some (kindF ⟨i, hi⟩, lookF ⟨i, hi⟩ t) := by
        unfold looksC
        rw [List.getElem?_ofFn, dif_pos hi]
      rw [drop_at hl] at er
      refine ⟨T ⟨i, hi⟩, _, rfl, LK.e Hc ⟨i, hi⟩, rfl, _, _, rfl, _, _, rfl, rfl, ?_⟩
      refine ⟨⟨i, hi⟩, rfl, .ref x, rfl, x, t, rfl, cd.same sc, fun H2 s2 => ?_⟩
      cases b : lookF ⟨i, hi⟩ t with
      | none =>
        rw [b] at er
        exact ⟨.non, rfl, rfl, _, rfl, sc.trans s2, er, _, _, _, rfl⟩
      | some z =>
        rw [b] at er
        have er' : firstOf (looksC t) = some (kindF ⟨i, hi⟩, z) := er
        refine ⟨.str z, rfl, rfl, _, rfl, ?_⟩
        refine ⟨_, rfl, _, rfl, _, rfl, by show 3 ≤ sizeLine; decide, fun r nr => ?_⟩
        exact q1 _ _ er' _ r ((sc.trans s2).trans (same_upd nr)) (fresh_of (sc.trans s2) nr) upd_same
    · rintro σ Hc ⟨sc, er, x2, x3, x4, rfl⟩
      have le : (looksC t).length = 7 := by unfold looksC; rw [List.length_ofFn]
      rw [List.length_ofFn, ← le, List.drop_length] at er
      exact q0 er _ sc
def spWithinC (CO CP CC : Addr) (d : Nat) : Sp := fun vs H Q _ => ∃ (x ab : Addr) (t : Ct) (above : List Str), vs = [.ref x, .ref ab] ∧ CdAt CO CP CC H d x t ∧ H ab = some (.lst (above.map V.str)) ∧ above.length ≤ 1000 - d ∧ d ≤ 100 ∧
  (clashIn above t = none → ∀ H', Same H H' → Q .non H') ∧ (∀ p k z, clashIn above t = some (p, k, z) → ∀ H' r l, Same H H' → H r = none → H l = none → r ≠ l → H' r = some (.tup [.ref l, .str k, .str z]) → H' l = some (.lst (p.map V.str)) → Q (.ref r) H')
theorem ok_withinC {CO CP CC f fO : Addr} {fd fdO : FuncData} {k : Nat} (M : Gets P w K mg base (k + 2) CO CP CC) (D_clash_within : Df K mg "clash_within" st_clash_within ["command", "above"] f fd) (D_own_clash : Df K mg "own_clash" st_own_clash ["command", "path"] fO fdO)
    (GO : ∀ d, FnOk P w K mg base CX0 (k + 5) fO fdO ["command", "path"] (spOwn CO CP CC d)) : ∀ d, FnOk P w K mg base CX0 (k + 6 + d) f fd ["command", "above"] (spWithinC CO CP CC d) := by
  obtain ⟨f_name, fd_name, m_name, G_name, b_name⟩ := M.name
  obtain ⟨f_commands, fd_commands, m_commands, G_commands, b_commands⟩ := M.commands
  intro d
  induction d with
  | zero =>
    refine D_clash_within.F.ok sc_clash_within (fun vs H Q E h => ?_) (fun cdv A outer s H vs Q E hr h => ?_)
    · obtain ⟨x, ab, t, above, rfl, _⟩ := h
      rfl
    · obtain ⟨x, ab, t, above, rfl, cd, _⟩ := h
      cases cd
  | succ d G_clash_within =>
    have G_own_clash : FnOk P w K mg base CX0 (k + 6 + d) fO fdO ["command", "path"] (spOwn CO CP CC (d + 1)) := (GO (d + 1)).mono (by omega)
    show FnOk P w K mg base CX0 ((k + 6 + d) + 1) f fd ["command", "above"] (spWithinC CO CP CC (d + 1))
    refine D_clash_within.F.ok sc_clash_within (fun vs H Q E h => ?_) (fun cdv A outer s H vs Q E hr h => ?_)
    · obtain ⟨x, ab, t, above, rfl, _⟩ := h
      rfl
    · obtain ⟨x, ab, t, above, rfl, cd, ea, la, ld, q0, q1⟩ := h
      have sl : sizeLine = 16777216 := sizeLine_eq
      refine ⟨_, pss_cons (ps_set (i := 2) sc_clash_within.nd rfl (.inl rfl) (pe_op op_cat (pv 1) (pe_lst (pa_cons (pe_meth0 (pv 0) M.T.cl m_name G_name (hr.mono (by omega)) b_name .nil pass0) pa_nil))))
      (pss_cons (ps_set (i := 3) sc_clash_within.nd rfl (.inl rfl) (pe_call G_own_clash hr (by rfl) D_own_clash.g D_own_clash.F.kp D_own_clash.b .nil pass0 (pa_cons (pv 0) (pa_cons (pv 2) pa_nil))))
      (pss_cons (ps_if (pt_cmpR op_notN (pv 3) pe_non (nomark _)) (pss_one (ps_ret (pv 3))) pss_nil)
      (pss_cons (ps_for PassesOwn.never rfl (pi_list (pe_meth0 (pv 0) M.T.cl m_commands G_commands (hr.mono (by omega)) b_commands .nil pass0)) (pg_name (i := 4) sc_clash_within.nd rfl (Or.inl rfl)) (pss_cons (ps_set (i := 3) sc_clash_within.nd rfl (.inl rfl) (pe_call G_clash_within hr (by rfl) D_clash_within.g D_clash_within.F.kp D_clash_within.b .nil pass0 (pa_cons (pv 4) (pa_cons (pv 2) pa_nil))))
      (pss_one (ps_if (pt_cmpR op_notN (pv 3) pe_non (nomark _)) (pss_one (ps_ret (pv 3))) pss_nil))))
      (pss_one (ps_ret pe_non))))), ?_⟩
      obtain ⟨dx, lo, lp, lg, lc, ao, ap, ag, ac, op, sub⟩ := cd.op
      rw [clashIn_eq] at q0 q1
      refine ⟨.ref ab, rfl, .ref x, rfl, x, dx, _, rfl, op.ex, rfl, x, dx, _, .str t.name, rfl, op.ex, rfl, by show 1 ≤ sizeLine; decide, fun l1 n1 => ?_⟩
      have s1 := same_upd (o := .lst [.str t.name]) n1
      have e1 : (upd H l1 (.lst [.str t.name])) l1 = some (.lst [.str t.name]) := upd_same
      revert s1 e1
      generalize upd H l1 (.lst [.str t.name]) = H1
      intro s1 e1
      refine ⟨ab, l1, _, _, rfl, rfl, s1 _ _ ea, e1, by rw [List.length_map]; show _ + 1 ≤ _; omega, fun pa np => ?_⟩
      rw [show above.map V.str ++ [V.str t.name] = (above ++ [t.name]).map V.str from by rw [List.map_append]; rfl]
      have s2 := same_upd (o := .lst ((above ++ [t.name]).map V.str)) np
      have ep : (upd H1 pa (.lst ((above ++ [t.name]).map V.str))) pa = some (.lst ((above ++ [t.name]).map V.str)) := upd_same
      revert s2 ep
      generalize upd H1 pa (.lst ((above ++ [t.name]).map V.str)) = H2
      intro s2 ep
      have S2 := s1.trans s2
      have npH : H pa = none := fresh_of s1 np
      have nxt : ∀ {r : Addr} {Hx : Hp}, Same H2 Hx → Hx r = none → r ≠ pa := fun {r Hx} sx nr => (ne_of_none (sx _ _ ep) nr).symm
      refine ⟨.ref x, rfl, .ref pa, rfl, x, pa, t, above ++ [t.name], rfl, cd.same S2, ep, fun ho H3 s3 => ?_, fun kk z ho H3 r s3 nr er => ?_⟩
      · rw [ho] at q0 q1
        have S3 := S2.trans s3
        have op3 := op.same S3
        have ep3 := s3 _ _ ep
        refine ⟨.non, rfl, rfl, _, rfl, ?_⟩
        refine ⟨.ref x, rfl, x, dx, _, rfl, op3.ex, rfl, x, dx, _, lc, _, rfl, op3.ex, rfl, op3.c, fun l nl => ?_⟩
        have s4 := same_upd (o := .lst (ac.map V.ref)) nl
        have e4 : (upd H3 l (.lst (ac.map V.ref))) l = some (.lst (ac.map V.ref)) := upd_same
        revert s4 e4
        generalize upd H3 l (.lst (ac.map V.ref)) = H4
        intro s4 e4
        have S4 := S3.trans s4
        have s24 := s3.trans s4
        refine ⟨l, rfl, ⟨_, SqL.of e4⟩, ?_⟩
        refine for_list (K := K) (a := l) (xs := ac.map V.ref) (fun i σ Hc => Same H4 Hc ∧ clashesIn (above ++ [t.name]) t.cs = clashesIn (above ++ [t.name]) (t.cs.drop i) ∧ ∃ x3 x4, σ = [some (.ref x), some (.ref ab), some (.ref pa), x3, x4])
          ⟨Same.refl _, rfl, _, none, rfl⟩ (fun i σ Hc _ h => SqL.of (h.1 _ _ e4)) ?_ ?_
        · rintro i v σ Hc hv ⟨sc, er, x3, x4, rfl⟩
          rw [List.getElem?_map] at hv
          obtain ⟨a, ha, rfl⟩ := Option.map_eq_some_iff.mp hv
          have hi : i < t.cs.length := by rw [← op.hl]; exact (List.getElem?_eq_some_iff.mp ha).1
          have hu : t.cs[i]? = some t.cs[i] := List.getElem?_eq_getElem hi
          obtain ⟨e, he, cu⟩ := sub i a _ ha hu
          have he' : e = d := by omega
          subst he'
          rw [drop_at hu, clashesIn] at er
          refine ⟨.ref a, rfl, .ref pa, rfl, a, pa, _, above ++ [t.name], rfl, (cu.same S4).same sc, sc _ _ (s4 _ _ ep3), by rw [List.length_append]; show _ + 1 ≤ _; omega, by omega, fun hn H5 s5 => ?_, fun p' k' z' hs H5 r l' s5 nr nl' hne er' el' => ?_⟩
          · rw [hn] at er
            exact ⟨.non, rfl, rfl, _, rfl, sc.trans s5, er, _, _, rfl⟩
          · rw [hs] at er
            refine ⟨.ref r, rfl, rfl, _, rfl, _, rfl, ?_⟩
            exact q1 p' k' z' er _ r l' ((S4.trans sc).trans s5) (fresh_of (S4.trans sc) nr) (fresh_of (S4.trans sc) nl') hne er' el'
        · rintro σ Hc ⟨sc, er, x3, x4, rfl⟩
          have le : (ac.map V.ref).length = t.cs.length := by rw [List.length_map]; exact op.hl
          rw [le, List.drop_length, clashesIn] at er
          exact q0 er _ (S4.trans sc)
      · rw [ho] at q1
        refine ⟨.ref r, rfl, rfl, _, rfl, _, rfl, ?_⟩
        exact q1 _ kk z rfl _ r pa (S2.trans s3) (fresh_of S2 nr) npH (ne_of_none ep nr).symm er (s3 _ _ ep)
def spFirst (CO CP CC : Addr) (d : Nat) : Sp := fun vs H Q _ => ∃ (x : Addr) (t : Ct), vs = [.ref x] ∧ CdAt CO CP CC H d x t ∧ d ≤ 100 ∧
  (clashIn [] t = none → ∀ H', Same H H' → Q .non H') ∧ (∀ p k z, clashIn [] t = some (p, k, z) → ∀ H' r l, Same H H' → H r = none → H l = none → r ≠ l → H' r = some (.tup [.ref l, .str k, .str z]) → H' l = some (.lst (p.map V.str)) → Q (.ref r) H')
theorem ok_first {CO CP CC f fW : Addr} {fd fdW : FuncData} {k d : Nat} (F : Fun K "first_clash" "first_clash" st_first_clash f fd) (D_clash_within : Df K mg "clash_within" st_clash_within ["command", "above"] fW fdW) (G_clash_within : FnOk P w K mg base CX0 k fW fdW ["command", "above"] (spWithinC CO CP CC d)) :
    FnOk P w K mg base CX0 (k + 1) f fd ["command"] (spFirst CO CP CC d) := by
  refine F.ok sc_first_clash (fun vs H Q E h => ?_) (fun cdv A outer s H vs Q E hr h => ?_)
  · obtain ⟨x, t, rfl, _⟩ := h
    rfl
  · obtain ⟨x, t, rfl, cd, ld, q0, q1⟩ := h
    refine ⟨_, pss_one (ps_ret (pe_call G_clash_within hr (by rfl) D_clash_within.g D_clash_within.F.kp D_clash_within.b .nil pass0 (pa_cons (pv 0) (pa_cons (pe_lst pa_nil) pa_nil)))), ?_⟩
    refine ⟨.ref x, rfl, by show 0 ≤ sizeLine; decide, fun l0 n0 => ?_⟩
    have s0 := same_upd (o := .lst []) n0
    exact ⟨x, l0, t, [], rfl, cd.same s0, upd_same, Nat.zero_le _, ld, fun hn H' s' => q0 hn _ (s0.trans s'), fun p k z hs H' r l s' nr nl hne er el => q1 p k z hs _ r l (s0.trans s') (fresh_of s0 nr) (fresh_of s0 nl) hne er el⟩
end
end WB

set_option Elab.async false
set_option linter.all false
set_option maxRecDepth 100000
set_option maxHeartbeats 4000000
namespace WB
open PySem PySem.Spec PyProof.Rows L2 WG
open TL (tl)
abbrev st_unlike : Stmt := topS 64
theorem sc_unlike : FnScope ["_law_pot_here", "_law_seen", "_law_name_here", "_law_sign"] ["_law_pot_here", "_law_seen"] (defScope st_unlike) := ⟨rfl, rfl, rfl, by decide +kernel, rfl, by decide +kernel, by decide +kernel⟩
/-! ### what stands in the law's lists -/
structure OkO (o : OT) : Prop where
  long : nm (tl o.long) = true
  short : isSh (.str o.short) = true
  ts : Tx 300 o.short
  takes : among (.str o.takes) takesL = true
  tt : Tx 300 o.takes
  need : o.need = true → plain (.str o.takes) = false
  off : o.off = true → plain (.str o.takes) = true
  maker : o.maker = Str.ofString "word"
  dflt : o.dflt = .non
  about : o.about = Str.ofString ""
structure OkP (p : PL) : Prop where
  name : nm (tl p.name) = true
  many : among (.str p.many) WP.manies = true
  tm : Tx 300 p.many
  maker : p.maker = Str.ofString "word"
  dflt : p.dflt = .non
  about : p.about = Str.ofString ""
def OpAt (H : Hp) (a : Addr) (o : OT) : Prop := H a = some (.lst [.str o.long, .str o.short, .str o.takes, .bl o.need, .bl o.off]) ∧ OkO o
def PlAt (H : Hp) (a : Addr) (p : PL) : Prop := H a = some (.lst [.str p.name, .str p.many]) ∧ OkP p
def GrAt (H : Hp) (a : Addr) (g : List Str) : Prop := H a = some (.lst (g.map V.str)) ∧ 2 ≤ g.length ∧ g.length ≤ 6 ∧ ∀ z ∈ g, Tx 300 z
/-- what an address is for -/
inductive Rl where
  | no | node (r w : Nat) | ops | op | pls | pl | grs | gr | bel (r w : Nat)
def RlOk (ϕ : Nat) (κ : Addr → Rl) (H : Hp) (a : Addr) : Rl → Prop
  | .no => True
  | .node r w => ∃ (n : Str) (ao ap ag ab : Addr) (r' w' : Nat), (r = r' + 1 ∧ w = w' + 1) ∧ H a = some (.lst [.str n, .ref ao, .ref ap, .ref ag, .ref ab]) ∧ nm (tl n) = true ∧ κ ao = .ops ∧ κ ap = .pls ∧ κ ag = .grs ∧ κ ab = .bel r' w'
  | .ops => ∃ xs : List Addr, H a = some (.lst (xs.map V.ref)) ∧ xs.length ≤ 12 ∧ ∀ x ∈ xs, κ x = .op
  | .op => ∃ o, OpAt H a o
  | .pls => ∃ xs : List Addr, H a = some (.lst (xs.map V.ref)) ∧ xs.length ≤ 6 ∧ ∀ x ∈ xs, κ x = .pl
  | .pl => ∃ p, PlAt H a p
  | .grs => ∃ xs : List Addr, H a = some (.lst (xs.map V.ref)) ∧ xs.length ≤ 4 ∧ ∀ x ∈ xs, κ x = .gr
  | .gr => ∃ g, GrAt H a g
  | .bel r w => ∃ (xs : List Addr) (ws : List Nat), H a = some (.lst (xs.map V.ref)) ∧ xs.length ≤ 8 ∧ All2 (fun x u => κ x = .node r u) xs ws ∧ ws.sum + ϕ ≤ w
def TH (ϕ : Nat) (κ : Addr → Rl) (H : Hp) : Prop := ∀ a, RlOk ϕ κ H a (κ a)
theorem RlOk.keep {ϕ : Nat} {κ κ' : Addr → Rl} {H H' : Hp} {a : Addr} {r : Rl} (h : RlOk ϕ κ H a r) (k : ∀ b, κ b ≠ .no → κ' b = κ b) (e : ∀ o, H a = some o → H' a = some o) : RlOk ϕ κ' H' a r := by
  have kk : ∀ {b : Addr} {s : Rl}, κ b = s → s ≠ .no → κ' b = s := fun {b s} h1 h2 => by rw [k b (by rw [h1]; exact h2), h1]
  cases r with
  | no => trivial
  | node r w =>
    obtain ⟨n, ao, ap, ag, ab, r', w', h1, h2, h3, h4, h5, h6, h7⟩ := h
    exact ⟨n, ao, ap, ag, ab, r', w', h1, e _ h2, h3, kk h4 (by simp), kk h5 (by simp), kk h6 (by simp), kk h7 (by simp)⟩
  | ops =>
    obtain ⟨xs, h1, h2, h3⟩ := h
    exact ⟨xs, e _ h1, h2, fun x hx => kk (h3 x hx) (by simp)⟩
  | op =>
    obtain ⟨o, h1, h2⟩ := h
    exact ⟨o, e _ h1, h2⟩
  | pls =>
    obtain ⟨xs, h1, h2, h3⟩ := h
    exact ⟨xs, e _ h1, h2, fun x hx => kk (h3 x hx) (by simp)⟩
  | pl =>
    obtain ⟨o, h1, h2⟩ := h
    exact ⟨o, e _ h1, h2⟩
  | grs =>
    obtain ⟨xs, h1, h2, h3⟩ := h
    exact ⟨xs, e _ h1, h2, fun x hx => kk (h3 x hx) (by simp)⟩
  | gr =>
    obtain ⟨o, h1, h2⟩ := h
    exact ⟨o, e _ h1, h2⟩
  | bel r w =>
    obtain ⟨xs, ws, h1, h2, h3, h4⟩ := h
    exact ⟨xs, ws, e _ h1, h2, h3.mono fun x u hx => kk hx (by simp), h4⟩
theorem RlOk.some {ϕ : Nat} {κ : Addr → Rl} {H : Hp} {a : Addr} {r : Rl} (h : RlOk ϕ κ H a r) (n : r ≠ .no) : ∃ xs, H a = some (.lst xs) := by
  cases r with
  | no => exact absurd rfl n
  | node r w => obtain ⟨n, ao, ap, ag, ab, r', w', h1, h2, _⟩ := h; exact ⟨_, h2⟩
  | ops => obtain ⟨xs, h1, _⟩ := h; exact ⟨_, h1⟩
  | op => obtain ⟨o, h1, _⟩ := h; exact ⟨_, h1⟩
  | pls => obtain ⟨xs, h1, _⟩ := h; exact ⟨_, h1⟩
  | pl => obtain ⟨o, h1, _⟩ := h; exact ⟨_, h1⟩
  | grs => obtain ⟨xs, h1, _⟩ := h; exact ⟨_, h1⟩
  | gr => obtain ⟨o, h1, _⟩ := h; exact ⟨_, h1⟩
  | bel r w => obtain ⟨xs, ws, h1, _⟩ := h; exact ⟨_, h1⟩
theorem TH.fresh {ϕ : Nat} {κ : Addr → Rl} {H : Hp} {a : Addr} (h : TH ϕ κ H) (n : H a = none) : κ a = .no := by
  have := h a
  cases e : κ a with
  | no => rfl
  | _ =>
    rw [e] at this
    obtain ⟨xs, ex⟩ := this.some (by simp)
    rw [n] at ex
    cases ex
/-- a pot is for nothing else -/
theorem TH.pot {ϕ : Nat} {κ : Addr → Rl} {H : Hp} {p : Addr} (h : TH ϕ κ H) (hp : Pot H p) : κ p = .no := by
  obtain ⟨x, y, ep, _⟩ := hp
  have hh := h p
  cases e : κ p with
  | no => rfl
  | node r w => rw [e] at hh; obtain ⟨n, ao, ap, ag, ab, r', w', h1, h2, _⟩ := hh; rw [ep] at h2; cases h2
  | ops => rw [e] at hh; obtain ⟨xs, h1, _⟩ := hh; rw [ep] at h1; cases xs <;> cases h1
  | op => rw [e] at hh; obtain ⟨o, h1, _⟩ := hh; rw [ep] at h1; cases h1
  | pls => rw [e] at hh; obtain ⟨xs, h1, _⟩ := hh; rw [ep] at h1; cases xs <;> cases h1
  | pl => rw [e] at hh; obtain ⟨o, h1, _⟩ := hh; rw [ep] at h1; cases h1
  | grs => rw [e] at hh; obtain ⟨xs, h1, _⟩ := hh; rw [ep] at h1; cases xs <;> cases h1
  | gr => rw [e] at hh; obtain ⟨o, h1, _⟩ := hh; rw [ep] at h1; cases o <;> cases h1
  | bel r w => rw [e] at hh; obtain ⟨xs, ws, h1, _⟩ := hh; rw [ep] at h1; cases xs <;> cases h1
/-- what is for something stays -/
theorem TH.keep {ϕ : Nat} {κ : Addr → Rl} {H H' : Hp} (h : TH ϕ κ H) (k : ∀ b o, κ b ≠ .no → H b = some o → H' b = some o) : TH ϕ κ H' := fun a => by
  cases e : κ a with
  | no => trivial
  | _ =>
    have := h a
    rw [e] at this
    exact this.keep (fun _ _ => rfl) (fun o eo => k a o (by rw [e]; simp) eo)
theorem TH.set {ϕ : Nat} {κ : Addr → Rl} {H : Hp} {a : Addr} {o : HO} (h : TH ϕ κ H) (k : RlOk ϕ κ (upd H a o) a (κ a)) : TH ϕ κ (upd H a o) := fun b => by
  by_cases z : b = a
  · rw [z]
    exact k
  · exact (h b).keep (fun _ _ => rfl) (fun u e => by rw [upd_ne z]; exact e)
def put (κ : Addr → Rl) (a : Addr) (r : Rl) : Addr → Rl := fun b => if b = a then r else κ b
theorem put_same {κ : Addr → Rl} {a : Addr} {r : Rl} : put κ a r a = r := if_pos rfl
theorem put_ne {κ : Addr → Rl} {a b : Addr} {r : Rl} (h : b ≠ a) : put κ a r b = κ b := if_neg h
/-- a list gets its use -/
theorem TH.put {ϕ : Nat} {κ : Addr → Rl} {H : Hp} {a : Addr} {r : Rl} (h : TH ϕ κ H) (n : κ a = .no) (k : RlOk ϕ κ H a r) : TH ϕ (WB.put κ a r) H := fun b => by
  have m : ∀ c, κ c ≠ .no → WB.put κ a r c = κ c := fun c hc => put_ne fun z => hc (by rw [z]; exact n)
  by_cases z : b = a
  · rw [z, put_same]
    exact k.keep m (fun _ e => e)
  · rw [put_ne z]
    exact (h b).keep m (fun _ e => e)
/-- from one state to a later one -/
structure Gw (m ϕ : Nat) (κ : Addr → Rl) (H : Hp) (κ' : Addr → Rl) (H' : Hp) : Prop where
  k : ∀ b, H b ≠ none → κ' b = κ b
  al : ∀ b, H b ≠ none → H' b ≠ none
  th : TH ϕ κ' H'
  nd : ∀ b r u, κ' b = .node r u → κ b = .node r u ∨ m ≤ r
theorem Gw.trans {m ϕ : Nat} {κ κ1 κ2 : Addr → Rl} {H H1 H2 : Hp} (u : Gw m ϕ κ H κ1 H1) (v : Gw m ϕ κ1 H1 κ2 H2) : Gw m ϕ κ H κ2 H2 := ⟨fun b h => by rw [v.k b (u.al b h), u.k b h], fun b h => v.al b (u.al b h), v.th, fun b r w e => (v.nd b r w e).elim (u.nd b r w) .inr⟩
theorem Gw.refl {m ϕ : Nat} {κ : Addr → Rl} {H H' : Hp} (al : ∀ b, H b ≠ none → H' b ≠ none) (th : TH ϕ κ H') : Gw m ϕ κ H κ H' := ⟨fun _ _ => rfl, al, th, fun _ _ _ e => .inl e⟩
theorem Gw.mono {m n ϕ : Nat} {κ κ' : Addr → Rl} {H H' : Hp} (u : Gw m ϕ κ H κ' H') (h : n ≤ m) : Gw n ϕ κ H κ' H' := ⟨u.k, u.al, u.th, fun b r w e => (u.nd b r w e).imp id (Nat.le_trans h)⟩
theorem Gw.rl {m ϕ : Nat} {κ κ' : Addr → Rl} {H H' : Hp} {a : Addr} {r : Rl} (u : Gw m ϕ κ H κ' H') (h : TH ϕ κ H) (e : κ a = r) (n : r ≠ .no) : κ' a = r := by
  rw [u.k a (fun z => n (by rw [← e]; exact h.fresh z)), e]
/-- only p and q turn -/
def But2 (p q : Addr) (H H' : Hp) : Prop := ∀ b o, b ≠ p → b ≠ q → H b = some o → H' b = some o
theorem But2.trans {p q : Addr} {H H1 H2 : Hp} (a : But2 p q H H1) (b : But2 p q H1 H2) : But2 p q H H2 := fun c o n m h => b c o n m (a c o n m h)
theorem But2.of {p q : Addr} {H H' : Hp} (a : But p H H') : But2 p q H H' := fun c o n _ h => a c o n h
theorem But2.same {p q : Addr} {H H' : Hp} (a : Same H H') : But2 p q H H' := fun c o _ _ h => a c o h
/-! ### names unlike those seen -/
theorem nm_put {cs : List Nat} {c : Nat} (h : nm cs = true) (hc : c ∈ tl nameSet) (n45 : c ≠ 45) : nm (cs.take 9 ++ [c]) = true := by
  unfold nm at h ⊢
  simp only [Bool.and_eq_true, decide_eq_true_eq, Bool.not_eq_true', decide_eq_false_iff_not] at h ⊢
  obtain ⟨⟨⟨⟨⟨h1, h2⟩, h3⟩, h4⟩, h5⟩, h6⟩ := h
  refine ⟨⟨⟨⟨⟨by simp, ?_⟩, ?_⟩, ?_⟩, ?_⟩, ?_⟩
  · rw [List.length_append, List.length_take]
    show _ + 1 ≤ _
    omega
  · cases cs with
    | nil => exact absurd rfl h1
    | cons a r => exact h3
  · rw [List.getLast?_append]
    simp
    exact n45
  · match cs, h1, h5 with
    | [a], _, _ =>
      intro z
      have z' : [a, c] = [110, 111, 45] := z
      cases z'
    | [a, b], _, _ =>
      intro z
      have z' : [a, b, c] = [110, 111, 45] := z
      simp at z'
      exact n45 z'.2.2
    | a :: b :: d :: r, _, h5 => exact h5
  · rw [List.all_append, Bool.and_eq_true]
    refine ⟨List.all_eq_true.mpr fun x hx => List.all_eq_true.mp h6 x (List.mem_of_mem_take hx), ?_⟩
    exact List.all_eq_true.mpr fun x hx => by rw [List.mem_singleton.mp hx]; exact decide_eq_true hc
theorem cut9 (z : Str) : tl (cutS z none (some 9)) = (tl z).take 9 := by
  show ((z.cps.toList.drop (HT.sIx z.length 0 none)).take (HT.sIx z.length z.length (some 9) - HT.sIx z.length 0 none)) = _
  rw [HT.sIx_none, show HT.sIx z.length z.length (some 9) = min 9 z.length from HT.sIx_nat z.length z.length 9, List.drop_zero, Nat.sub_zero]
  rw [TL.len_tl z]
  rw [← List.take_take, List.take_length]
theorem nm_len {y : Str} (h : nm (tl y) = true) : y.length ≤ 10 := by
  unfold nm at h
  simp only [Bool.and_eq_true, decide_eq_true_eq] at h
  rw [TL.len_tl]
  exact h.1.1.1.1.2
theorem nm_tx {y : Str} (h : nm (tl y) = true) : Tx 300 y := by
  refine ⟨by have := nm_len h; omega, fun c hc => ?_⟩
  unfold nm at h
  simp only [Bool.and_eq_true, decide_eq_true_eq] at h
  have := of_decide_eq_true (List.all_eq_true.mp h.2 c hc)
  exact (by decide +kernel : ∀ c ∈ tl nameSet, c < 256) c this
def unSigns : Str := Str.ofString "abcdefghijklmnopqrstuvwxyz0123456789"
theorem unSigns_in : ∀ c ∈ tl unSigns, c ∈ tl nameSet ∧ c ≠ 45 := by decide +kernel
section
variable {P : Program} {w : World} {K : PySem.W.Frag} {mg : Str → Option Value} {base : Heap}
def spUnlike : Sp := fun vs H Q _ => ∃ (p q : Addr) (seen : List Str), vs = [.ref p, .ref q] ∧ Pot H p ∧ q ≠ p ∧ H q = some (.lst (seen.map V.str)) ∧ seen.length ≤ 1000 ∧ ∀ H' (y : Str), But2 p q H H' → Pot H' p → H' q = some (.lst ((seen ++ [y]).map V.str)) → nm (tl y) = true → Q (.str y) H'
theorem ok_unlike {f fT fN : Addr} {fd fdT fdN : FuncData} {k : Nat} (F : Fun K "_law_unlike" "_law_unlike" st_unlike f fd) (D_take : Df K mg "_law_take" sTake ["_law_pot_here", "_law_room"] fT fdT) (D_name : Df K mg "_law_name" sName ["_law_pot_here"] fN fdN) (m_len : mg "len" = none) (m_range : mg "range" = none) :
    FnOk P w K mg base CX0 (k + 3) f fd ["_law_pot_here", "_law_seen"] spUnlike := by
  have G_name : FnOk P w K mg base CX0 (k + 2) fN fdN ["_law_pot_here"] spNm := ok_nm D_name.F D_take m_len m_range
  refine F.ok sc_unlike (fun vs H Q E h => ?_) (fun cdv A outer s H vs Q E hr h => ?_)
  · obtain ⟨p, q, seen, rfl, _⟩ := h
    rfl
  · obtain ⟨p, q, seen, rfl, hp, nqp, eq, ls, hq⟩ := h
    have sl : sizeLine = 16777216 := sizeLine_eq
    refine ⟨_, pss_cons (ps_set (i := 2) sc_unlike.nd rfl (.inl rfl) (pe_call G_name hr (by rfl) D_name.g D_name.F.kp D_name.b .nil pass0 (pa_cons (pv 0) pa_nil)))
      (pss_cons (ps_for PassesOwn.never rfl (pi_str pe_str) (pg_name (i := 3) sc_unlike.nd rfl (Or.inl rfl)) (pss_one (ps_if (pt_cmpR op_in_seq (pv 2) (pv 1) (by rfl)) (pss_one (ps_set (i := 2) sc_unlike.nd rfl (.inl rfl) (pe_op op_add_str (pe_slice sl_str (pv 2) po_none (po_some pe_int)) (pv 3)))) pss_nil)))
      (pss_cons (ps_expr (pe_bm PySem.F.plainAttrs_list PySem.F.slot_list_append PySem.F.type_list_append mt_append (pv 1) (pa_cons (pv 2) pa_nil)))
      (pss_one (ps_ret (pv 2))))), ?_⟩
    refine ⟨.ref p, rfl, p, rfl, hp, fun H1 y b1 p1 hy => ?_⟩
    have eq1 := b1 _ _ nqp eq
    refine ⟨unSigns, rfl, for_it walk_str (fun i σ Hc => Hc = H1 ∧ ∃ (y : Str) (x3 : Option V), nm (tl y) = true ∧ σ = [some (.ref p), some (.ref q), some (.str y), x3]) ⟨rfl, y, none, hy, rfl⟩ (fun _ _ _ _ _ => trivial) ?_ ?_⟩
    · rintro i v σ Hc Hd hi ⟨rfl, y', x3, hy', rfl⟩ ⟨rfl, c, hc, rfl⟩
      have cm : c ∈ tl unSigns := by
        have e : (tl unSigns)[i]? = some c := by
          rw [← hc]
          exact Array.getElem?_toList
        exact List.mem_of_getElem? e
      obtain ⟨c1, c2⟩ := unSigns_in c cm
      refine ⟨.str y', rfl, .ref q, rfl, q, _, rfl, .inl (SqL.of eq1), rfl, flat_strs seen, _, rfl, ite2 (fun e => ?_) (fun e => ?_)⟩
      · have l10 := nm_len hy'
        refine ⟨.str y', rfl, 9, rfl, y', rfl, by omega, .str ⟨#[c]⟩, rfl, _, _, rfl, rfl, ?_, rfl, _, _, ?_, rfl⟩
        · have := cutS_length y' none (some 9)
          show _ + 1 ≤ _
          omega
        · rw [TL.tl_append, cut9]
          exact nm_put hy' c1 c2
      · exact ⟨rfl, y', _, hy', rfl⟩
    · rintro σ Hc ⟨rfl, y', x3, hy', rfl⟩
      refine ⟨.ref q, rfl, Or.inl ⟨rfl, _, SqL.of eq1⟩, .str y', rfl, q, _, _, rfl, rfl, eq1, by rw [List.length_map]; omega, .str y', rfl, ?_⟩
      refine hq _ y' (fun b o n1 n2 e => ?_) ?_ ?_ hy'
      · rw [upd_ne n2]
        exact b1 _ _ n1 e
      · obtain ⟨x, y, e, h1, h2⟩ := p1
        exact ⟨x, y, by rw [upd_ne nqp.symm]; exact e, h1, h2⟩
      · rw [upd_same, List.map_append]
        rfl
end
end WB

set_option Elab.async false
set_option linter.all false
set_option maxRecDepth 100000
set_option maxHeartbeats 4000000
namespace WB
open PySem PySem.Spec PyProof.Rows L2 WG
open TL (tl)
abbrev st_places : Stmt := topS 65
theorem sc_places : FnScope ["_law_pot_here", "_law_seen", "_law_many", "_law_one"] ["_law_pot_here", "_law_seen"] (defScope st_places) := ⟨rfl, rfl, rfl, by decide +kernel, rfl, by decide +kernel, by decide +kernel⟩
theorem go {R : Hp → Prop} {H : Hp} {a : Addr} {o : HO} (n : H a = none) (h : ∀ H', Same H H' → H' a = some o → R H') : R (upd H a o) := h _ (same_upd n) upd_same
theorem goT {α : Type} {R : Hp → α → Prop} {Q : α} {H : Hp} {a : Addr} {o : HO} (n : H a = none) (h : ∀ H', Same H H' → H' a = some o → R H' Q) : R (upd H a o) Q := h _ (same_upd n) upd_same
theorem ev_gen {t : TE} {σ : L2.St} {H : Hp} (D : V → Hp → Prop) {R : VK} (e : ∀ R : VK, (∀ v H', D v H' → R v H') → t σ H R) (c : ∀ v H', D v H' → R v H') : t σ H R := e R c
theorem ts_gen {t : TS} {κ : L2.Ends} {σ : L2.St} {H : Hp} (D : L2.St → Hp → Prop) (e : ∀ κ : L2.Ends, (∀ σ' H', D σ' H' → κ.nx σ' H') → t κ σ H) (c : ∀ σ' H', D σ' H' → κ.nx σ' H') : t κ σ H := e κ c
theorem tt_gen {t : TT} {σ : L2.St} {H : Hp} {R : Bool → Hp → Prop} (D : Bool → Hp → Prop) (e : ∀ R : Bool → Hp → Prop, (∀ v H', D v H' → R v H') → t σ H R) (c : ∀ v H', D v H' → R v H') : t σ H R := e R c
theorem but_fresh {p c : Addr} {H H' : Hp} (b : But p H H') (hp : Pot H' p) (n : H' c = none) : H c = none := by
  cases e : H c with
  | none => rfl
  | some o =>
    rw [b _ _ (fun z => by
      obtain ⟨x, y, ep, _⟩ := id hp
      rw [z, ep] at n
      cases n) e] at n
    cases n
theorem but2_fresh {p q c : Addr} {H H' : Hp} (b : But2 p q H H') (ap : H' p ≠ none) (aq : H' q ≠ none) (n : H' c = none) : H c = none := by
  cases e : H c with
  | none => rfl
  | some o =>
    rw [b _ _ (fun z => ap (by rw [← z]; exact n)) (fun z => aq (by rw [← z]; exact n)) e] at n
    cases n
theorem Pot.al {H : Hp} {p : Addr} (h : Pot H p) : H p ≠ none := by
  obtain ⟨x, y, e, _⟩ := h
  rw [e]
  simp
theorem some_al {H : Hp} {p : Addr} {o : HO} (h : H p = some o) : H p ≠ none := by
  rw [h]
  simp
/-! ### new lists get their use -/
def puts (κ : Addr → Rl) (xs : List Addr) (r : Rl) : Addr → Rl := fun b => if b ∈ xs then r else κ b
theorem puts_in {κ : Addr → Rl} {xs : List Addr} {r : Rl} {a : Addr} (h : a ∈ xs) : puts κ xs r a = r := if_pos h
theorem puts_out {κ : Addr → Rl} {xs : List Addr} {r : Rl} {a : Addr} (h : a ∉ xs) : puts κ xs r a = κ a := if_neg h
theorem TH.puts {ϕ : Nat} {κ : Addr → Rl} {H : Hp} {xs : List Addr} {r : Rl} (h : TH ϕ κ H) (n : ∀ x ∈ xs, κ x = .no) (k : ∀ x ∈ xs, RlOk ϕ κ H x r) : TH ϕ (WB.puts κ xs r) H := fun b => by
  have m : ∀ c, κ c ≠ .no → WB.puts κ xs r c = κ c := fun c hc => puts_out fun z => hc (n c z)
  by_cases z : b ∈ xs
  · rw [puts_in z]
    exact (k b z).keep m (fun _ e => e)
  · rw [puts_out z]
    exact (h b).keep m (fun _ e => e)
theorem but2_al {p q : Addr} {H H' : Hp} (b : But2 p q H H') (ap : H' p ≠ none) (aq : H' q ≠ none) : ∀ c, H c ≠ none → H' c ≠ none := fun c h => by
  by_cases z1 : c = p
  · rw [z1]; exact ap
  · by_cases z2 : c = q
    · rw [z2]; exact aq
    · cases e : H c with
      | none => exact absurd e h
      | some o => exact some_al (b c o z1 z2 e)
theorem TH.but2 {ϕ : Nat} {κ : Addr → Rl} {p q : Addr} {H H' : Hp} (th : TH ϕ κ H) (b : But2 p q H H') (kp : κ p = .no) (kq : κ q = .no) : TH ϕ κ H' := th.keep fun c o hc e => b c o (fun z => hc (by rw [z]; exact kp)) (fun z => hc (by rw [z]; exact kq)) e
theorem new_list {ϕ : Nat} {κ : Addr → Rl} {H H' : Hp} {p q D : Addr} {xs : List Addr} {r1 r2 : Rl} (th : TH ϕ κ H) (b : But2 p q H H') (kp : κ p = .no) (kq : κ q = .no) (ap : H' p ≠ none) (aq : H' q ≠ none) (nD : H D = none) (nx : ∀ x ∈ xs, H x = none ∧ x ≠ D)
    (ok1 : ∀ κ', ∀ x ∈ xs, RlOk ϕ κ' H' x r1) (ok2 : ∀ κ' : Addr → Rl, (∀ x ∈ xs, κ' x = r1) → RlOk ϕ κ' H' D r2) (h1 : ∀ r u, r1 ≠ .node r u := by intro r u z; cases z) (h2 : ∀ r u, r2 ≠ .node r u := by intro r u z; cases z) : ∃ κ', Gw 1000 ϕ κ H κ' H' ∧ κ' D = r2 := by
  have th1 : TH ϕ κ H' := th.but2 b kp kq
  have th2 : TH ϕ (puts κ xs r1) H' := th1.puts (fun x hx => th.fresh (nx x hx).1) (ok1 κ)
  have nDx : D ∉ xs := fun h => (nx D h).2 rfl
  have th3 : TH ϕ (put (puts κ xs r1) D r2) H' := th2.put (by rw [puts_out nDx]; exact th.fresh nD) (ok2 _ fun x hx => puts_in hx)
  refine ⟨_, ⟨fun c hc => ?_, but2_al b ap aq, th3, fun c r u e => .inl ?_⟩, put_same⟩
  · have n1 : c ≠ D := fun z => hc (by rw [z]; exact nD)
    have n2 : c ∉ xs := fun z => hc (nx c z).1
    rw [put_ne n1, puts_out n2]
  · by_cases z1 : c = D
    · rw [z1, put_same] at e
      exact absurd e (h2 r u)
    · rw [put_ne z1] at e
      by_cases z2 : c ∈ xs
      · rw [puts_in z2] at e
        exact absurd e (h1 r u)
      · rw [puts_out z2] at e
        exact e
theorem rep_strs (k : Nat) (z : Str) : (List.replicate k [V.str z]).flatten = (List.replicate k z).map V.str := by
  induction k with
  | zero => rfl
  | succ k ih => rw [List.replicate_succ, List.flatten_cons, ih, List.replicate_succ]; rfl
theorem manies_ok : ∀ z ∈ WP.manies, among (.str z) WP.manies = true ∧ z.length ≤ 300 ∧ ∀ c ∈ tl z, c < 256 := by decide +kernel
/-- what a law's list of new things is asked for -/
def NewPost (ϕ : Nat) (p q : Addr) (κ : Addr → Rl) (n : Nat) (H : Hp) (r : Rl) (Q : VK) : Prop := ∀ H' l κ' (seen : List Str), But2 p q H H' → Pot H' p → H' q = some (.lst (seen.map V.str)) → seen.length ≤ n + 12 → Gw 1000 ϕ κ H κ' H' → κ' l = r → H l = none → Q (.ref l) H'
def spNewL (ϕ : Nat) (r : Rl) : Sp := fun vs H Q _ => ∃ (p q : Addr) (seen : List Str) (κ : Addr → Rl), vs = [.ref p, .ref q] ∧ Pot H p ∧ q ≠ p ∧ H q = some (.lst (seen.map V.str)) ∧ seen.length ≤ 500 ∧ TH ϕ κ H ∧ κ q = .no ∧ NewPost ϕ p q κ seen.length H r Q
section
variable {P : Program} {w : World} {K : PySem.W.Frag} {mg : Str → Option Value} {base : Heap}
theorem ok_places {f fT fN fU : Addr} {fd fdT fdN fdU : FuncData} {k ϕ : Nat} (F : Fun K "_law_places" "_law_places" st_places f fd) (D_take : Df K mg "_law_take" sTake ["_law_pot_here", "_law_room"] fT fdT) (D_name : Df K mg "_law_name" sName ["_law_pot_here"] fN fdN) (D_unlike : Df K mg "_law_unlike" st_unlike ["_law_pot_here", "_law_seen"] fU fdU) (m_len : mg "len" = none) (m_range : mg "range" = none) :
    FnOk P w K mg base CX0 (k + 4) f fd ["_law_pot_here", "_law_seen"] (spNewL ϕ .pls) := by
  have G_take : FnOk P w K mg base CX0 (k + 3) fT fdT ["_law_pot_here", "_law_room"] spTake := ok_take D_take.F
  have G_unlike : FnOk P w K mg base CX0 (k + 3) fU fdU ["_law_pot_here", "_law_seen"] spUnlike := ok_unlike D_unlike.F D_take D_name m_len m_range
  refine F.ok sc_places (fun vs H Q E h => ?_) (fun cdv A outer s H vs Q E hr h => ?_)
  · obtain ⟨p, q, seen, κ, rfl, _⟩ := h
    rfl
  · obtain ⟨p, q, seen, κ, rfl, hp, nqp, eq, ls, th, kq, hq⟩ := h
    have sl : sizeLine = 16777216 := sizeLine_eq
    have kp := th.pot hp
    refine ⟨_, pss_cons (ps_set (i := 2) sc_places.nd rfl (.inl rfl) (pe_op op_cat (pe_op op_rep (pe_lst (pa_cons pe_str pa_nil)) (pe_ix ix_list (pe_lst (pa_cons pe_int (pa_cons pe_int (pa_cons pe_int (pa_cons pe_int pa_nil))))) (pe_call G_take hr (by rfl) D_take.g D_take.F.kp D_take.b .nil pass0 (pa_cons (pv 0) (pa_cons pe_int pa_nil))) (fun _ _ => rfl))) (pe_op op_rep (pe_lst (pa_cons pe_str pa_nil)) (pe_ix ix_list (pe_lst (pa_cons pe_int (pa_cons pe_int (pa_cons pe_int pa_nil)))) (pe_call G_take hr (by rfl) D_take.g D_take.F.kp D_take.b .nil pass0 (pa_cons (pv 0) (pa_cons pe_int pa_nil))) (fun _ _ => rfl)))))
      (pss_cons (ps_if (pt_cmpR op_in_seq pe_str (pv 2) (by rfl)) (pss_one (ps_set (i := 2) sc_places.nd rfl (.inl rfl) (pe_op op_cat (pv 2) (pe_ix ix_list (pe_lst (pa_cons (pe_lst (pa_cons pe_str pa_nil)) (pa_cons (pe_lst pa_nil) pa_nil))) (pe_call G_take hr (by rfl) D_take.g D_take.F.kp D_take.b .nil pass0 (pa_cons (pv 0) (pa_cons pe_int pa_nil))) (fun _ _ => rfl))))) (pss_one (ps_set (i := 2) sc_places.nd rfl (.inl rfl) (pe_op op_cat (pv 2) (pe_ix ix_list (pe_lst (pa_cons (pe_lst (pa_cons pe_str pa_nil)) (pa_cons (pe_lst (pa_cons pe_str pa_nil)) (pa_cons (pe_lst pa_nil) pa_nil)))) (pe_call G_take hr (by rfl) D_take.g D_take.F.kp D_take.b .nil pass0 (pa_cons (pv 0) (pa_cons pe_int pa_nil))) (fun _ _ => rfl))))))
      (pss_one (ps_ret (pe_lc (own := [("_law_one", 3)]) (g := gName 3) (tt := tYes) rfl sc_places.nd (pi_list (pv 2)) (blkOk_by (N := ["_law_pot_here", "_law_seen", "_law_many", "_law_one"]) (sc := defScope st_places) (by decide +kernel)) (fun _ _ _ _ _ => (pg_name (i := 3) sc_places.nd rfl (Or.inl rfl))) (fun _ _ _ _ _ => pts_nil) (fun _ _ _ _ _ => (pe_lst (pa_cons (pe_call G_unlike hr (by rfl) D_unlike.g D_unlike.F.kp D_unlike.b .nil pass0 (pa_cons (pv 0) (pa_cons (pv 1) pa_nil))) (pa_cons (pv 3) pa_nil)))))))), ?_⟩
    dsimp only [tSeq, tAsg, gName]
    refine ev_gen (t := tOp _ _ _) (fun v H' => But p H H' ∧ Pot H' p ∧ ∃ (lm : Addr) (zs : List Str), v = .ref lm ∧ lm ≠ p ∧ H' lm = some (.lst (zs.map V.str)) ∧ zs.length ≤ 5 ∧ ∀ z ∈ zs, z ∈ WP.manies) (fun R c => ?_) ?_
    · refine ⟨by show 1 ≤ sizeLine; decide, fun l1 n1 => ?_⟩
      refine goT n1 fun H1 s1 e1 => ?_
      refine ⟨by show 4 ≤ sizeLine; decide, fun l2 n2 => ?_⟩
      refine goT n2 fun H2 s2 e2 => ?_
      have p2 := (hp.same s1).same s2
      have n1p : l1 ≠ p := (hp.ne n1).symm
      have n2p : l2 ≠ p := ((hp.same s1).ne n2).symm
      refine ⟨.ref p, rfl, p, 4, rfl, p2, by decide, by decide, fun H3 d3 b3 p3 d30 d31 => ?_⟩
      obtain ⟨m, hm, m3⟩ : ∃ m : Nat, atI [V.int 0, .int 0, .int 1, .int 3] d3 = some (.int m) ∧ m ≤ 3 := by
        obtain ⟨n, rfl⟩ := Int.eq_ofNat_of_zero_le d30
        have hn : n < 4 := by omega
        match n, hn with
        | 0, _ => exact ⟨0, rfl, by omega⟩
        | 1, _ => exact ⟨0, rfl, by omega⟩
        | 2, _ => exact ⟨1, rfl, by omega⟩
        | 3, _ => exact ⟨3, rfl, by omega⟩
      refine ⟨l2, _, d3, .int m, rfl, rfl, SqL.of (b3 _ _ n2p e2), hm, l1, m, _, rfl, rfl, b3 _ _ n1p (s2 _ _ e1), by omega, by omega, by show 1 * _ ≤ _; omega, fun l3 n3 => ?_⟩
      refine goT n3 fun H4 s4 e4 => ?_
      refine ⟨by show 1 ≤ sizeLine; decide, fun l5 n5 => ?_⟩
      refine goT n5 fun H5 s5 e5 => ?_
      refine ⟨by show 3 ≤ sizeLine; decide, fun l6 n6 => ?_⟩
      refine goT n6 fun H6 s6 e6 => ?_
      have p4 := p3.same s4
      have p5 := p4.same s5
      have p6 := p5.same s6
      have n3p : l3 ≠ p := (p3.ne n3).symm
      have n5p : l5 ≠ p := (p4.ne n5).symm
      have n6p : l6 ≠ p := (p5.ne n6).symm
      refine ⟨.ref p, rfl, p, 3, rfl, p6, by decide, by decide, fun H7 d7 b7 p7 d70 d71 => ?_⟩
      obtain ⟨m', hm', m2⟩ : ∃ m : Nat, atI [V.int 0, .int 1, .int 2] d7 = some (.int m) ∧ m ≤ 2 := by
        obtain ⟨n, rfl⟩ := Int.eq_ofNat_of_zero_le d70
        have hn : n < 3 := by omega
        match n, hn with
        | 0, _ => exact ⟨0, rfl, by omega⟩
        | 1, _ => exact ⟨1, rfl, by omega⟩
        | 2, _ => exact ⟨2, rfl, by omega⟩
      refine ⟨l6, _, d7, .int m', rfl, rfl, SqL.of (b7 _ _ n6p e6), hm', l5, m', _, rfl, rfl, b7 _ _ n5p (s6 _ _ e5), by omega, by omega, by show 1 * _ ≤ _; omega, fun l8 n8 => ?_⟩
      refine goT n8 fun H8 s8 e8 => ?_
      rw [rep_strs] at e4 e8
      have e4' := s8 _ _ (b7 _ _ n3p (s6 _ _ (s5 _ _ e4)))
      refine ⟨l3, l8, _, _, rfl, rfl, e4', e8, by rw [List.length_map, List.length_map, List.length_replicate, List.length_replicate]; omega, fun l9 n9 => ?_⟩
      refine c _ _ ⟨?_, (p7.same s8).new n9, l9, List.replicate m (Str.ofString "one") ++ List.replicate m' (Str.ofString "maybe"), rfl, ((p7.same s8).ne n9).symm, ?_, ?_, fun z hz => ?_⟩
      · exact (((((((But.of_same s1).trans (But.of_same s2)).trans b3).trans (But.of_same s4)).trans (But.of_same s5)).trans (But.of_same s6)).trans b7).trans ((But.of_same s8).trans (But.new n9))
      · rw [upd_same, List.map_append]
        rfl
      · rw [List.length_append, List.length_replicate, List.length_replicate]
        omega
      · rcases List.mem_append.mp hz with z | z
        · rw [(List.mem_replicate.mp z).2]
          decide +kernel
        · rw [(List.mem_replicate.mp z).2]
          decide +kernel
    rintro _ H1 ⟨b1, p1, lm, zs, rfl, nlm, elm, lzs, hzs⟩
    refine ts_gen (t := tIfS _ _ _) (fun σ' H' => But p H H' ∧ Pot H' p ∧ ∃ (lm : Addr) (zs : List Str), lm ≠ p ∧ H' lm = some (.lst (zs.map V.str)) ∧ zs.length ≤ 6 ∧ (∀ z ∈ zs, z ∈ WP.manies) ∧ H lm = none ∧ σ' = [some (.ref p), some (.ref q), some (.ref lm), none]) (fun κ' c => ?_) ?_
    · refine ⟨.ref lm, rfl, lm, _, rfl, .inl (SqL.of elm), rfl, flat_strs zs, _, rfl, ite2 (fun e => ?_) (fun e => ?_)⟩
      · refine ⟨.ref lm, rfl, by show 1 ≤ sizeLine; decide, fun l1 n1 => ?_⟩
        refine goT n1 fun H2 s2 e2 => ?_
        refine ⟨by show 0 ≤ sizeLine; decide, fun l2 n2 => ?_⟩
        refine goT n2 fun H3 s3 e3 => ?_
        refine ⟨by show 2 ≤ sizeLine; decide, fun l3 n3 => ?_⟩
        refine goT n3 fun H4 s4 e4 => ?_
        have p2 := p1.same s2
        have p3 := p2.same s3
        have p4 := p3.same s4
        have n1p : l1 ≠ p := (p1.ne n1).symm
        have n2p : l2 ≠ p := (p2.ne n2).symm
        have n3p : l3 ≠ p := (p3.ne n3).symm
        refine ⟨.ref p, rfl, p, 2, rfl, p4, by decide, by decide, fun H5 d5 b5 p5 d50 d51 => ?_⟩
        have f1 := b5 _ _ n1p (s4 _ _ (s3 _ _ e2))
        have f2 := b5 _ _ n2p (s4 _ _ e3)
        have flm := b5 _ _ nlm (s4 _ _ (s3 _ _ (s2 _ _ elm)))
        obtain ⟨l, ws, hl, el, lw, hw⟩ : ∃ (l : Addr) (ws : List Str), atI [V.ref l1, .ref l2] d5 = some (.ref l) ∧ H5 l = some (.lst (ws.map V.str)) ∧ ws.length ≤ 1 ∧ ∀ z ∈ ws, z ∈ WP.manies := by
          obtain ⟨n, rfl⟩ := Int.eq_ofNat_of_zero_le d50
          have hn : n < 2 := by omega
          match n, hn with
          | 0, _ => exact ⟨l1, [Str.ofString "any"], rfl, f1, by decide, fun z hz => by rw [List.mem_singleton.mp hz]; decide +kernel⟩
          | 1, _ => exact ⟨l2, [], rfl, f2, by decide, fun z hz => by cases hz⟩
        refine ⟨l3, _, d5, .ref l, rfl, rfl, SqL.of (b5 _ _ n3p e4), hl, lm, l, _, _, rfl, rfl, flm, el, by rw [List.length_map, List.length_map]; omega, fun l9 n9 => ?_⟩
        have B : But p H H5 := (((b1.trans (But.of_same s2)).trans (But.of_same s3)).trans (But.of_same s4)).trans b5
        refine c _ _ ⟨B.trans (But.new n9), p5.new n9, l9, zs ++ ws, (p5.ne n9).symm, ?_, by rw [List.length_append]; omega, fun z hz => (List.mem_append.mp hz).elim (hzs z) (hw z), but_fresh B p5 n9, rfl⟩
        rw [upd_same, List.map_append]
      · refine ⟨.ref lm, rfl, by show 1 ≤ sizeLine; decide, fun l1 n1 => ?_⟩
        refine goT n1 fun H2 s2 e2 => ?_
        refine ⟨by show 1 ≤ sizeLine; decide, fun l1' n1' => ?_⟩
        refine goT n1' fun H2' s2' e2' => ?_
        refine ⟨by show 0 ≤ sizeLine; decide, fun l2 n2 => ?_⟩
        refine goT n2 fun H3 s3 e3 => ?_
        refine ⟨by show 3 ≤ sizeLine; decide, fun l3 n3 => ?_⟩
        refine goT n3 fun H4 s4 e4 => ?_
        have p2 := p1.same s2
        have p2' := p2.same s2'
        have p3 := p2'.same s3
        have p4 := p3.same s4
        have n1p : l1 ≠ p := (p1.ne n1).symm
        have n1p' : l1' ≠ p := (p2.ne n1').symm
        have n2p : l2 ≠ p := (p2'.ne n2).symm
        have n3p : l3 ≠ p := (p3.ne n3).symm
        refine ⟨.ref p, rfl, p, 3, rfl, p4, by decide, by decide, fun H5 d5 b5 p5 d50 d51 => ?_⟩
        have f1 := b5 _ _ n1p (s4 _ _ (s3 _ _ (s2' _ _ e2)))
        have f1' := b5 _ _ n1p' (s4 _ _ (s3 _ _ e2'))
        have f2 := b5 _ _ n2p (s4 _ _ e3)
        have flm := b5 _ _ nlm (s4 _ _ (s3 _ _ (s2' _ _ (s2 _ _ elm))))
        obtain ⟨l, ws, hl, el, lw, hw⟩ : ∃ (l : Addr) (ws : List Str), atI [V.ref l1, .ref l1', .ref l2] d5 = some (.ref l) ∧ H5 l = some (.lst (ws.map V.str)) ∧ ws.length ≤ 1 ∧ ∀ z ∈ ws, z ∈ WP.manies := by
          obtain ⟨n, rfl⟩ := Int.eq_ofNat_of_zero_le d50
          have hn : n < 3 := by omega
          match n, hn with
          | 0, _ => exact ⟨l1, [Str.ofString "some"], rfl, f1, by decide, fun z hz => by rw [List.mem_singleton.mp hz]; decide +kernel⟩
          | 1, _ => exact ⟨l1', [Str.ofString "any"], rfl, f1', by decide, fun z hz => by rw [List.mem_singleton.mp hz]; decide +kernel⟩
          | 2, _ => exact ⟨l2, [], rfl, f2, by decide, fun z hz => by cases hz⟩
        refine ⟨l3, _, d5, .ref l, rfl, rfl, SqL.of (b5 _ _ n3p e4), hl, lm, l, _, _, rfl, rfl, flm, el, by rw [List.length_map, List.length_map]; omega, fun l9 n9 => ?_⟩
        have B : But p H H5 := ((((b1.trans (But.of_same s2)).trans (But.of_same s2')).trans (But.of_same s3)).trans (But.of_same s4)).trans b5
        refine c _ _ ⟨B.trans (But.new n9), p5.new n9, l9, zs ++ ws, (p5.ne n9).symm, ?_, by rw [List.length_append]; omega, fun z hz => (List.mem_append.mp hz).elim (hzs z) (hw z), but_fresh B p5 n9, rfl⟩
        rw [upd_same, List.map_append]
    clear elm hzs lzs
    rintro σ5 H2 ⟨b2, p2, lm, zs, nlm, elm, lzs, hzs, nlH, rfl⟩
    have eq2 := b2 _ _ nqp eq
    have nlq : lm ≠ q := fun z => by rw [z, eq] at nlH; cases nlH
    refine ⟨.ref lm, rfl, lm, rfl, ⟨_, SqL.of elm⟩, fun D nD => ?_⟩
    have nDp : D ≠ p := (p2.ne nD).symm
    have nDq : D ≠ q := (ne_of_none eq2 nD).symm
    have nDH : H D = none := but_fresh b2 p2 nD
    refine lc_list (K := K) (a := lm) (xs := zs.map V.str) (fun i Hc => But2 p q H2 Hc ∧ Pot Hc p ∧ (∃ sn : List Str, Hc q = some (.lst (sn.map V.str)) ∧ sn.length = seen.length + i) ∧ ∃ xs : List Addr, Hc D = some (.lst (xs.map V.ref)) ∧ xs.length = i ∧ ∀ x ∈ xs, H2 x = none ∧ x ≠ D ∧ ∃ pl, PlAt Hc x pl)
      ⟨But2.same (same_upd nD), p2.new nD, ⟨seen, same_upd nD _ _ eq2, rfl⟩, [], upd_same, rfl, fun x hx => by cases hx⟩ (fun i Hc _ h => SqL.of (h.1 _ _ nlm nlq elm)) (fun i v Hc hv ⟨bc, pc, ⟨sn, esn, lsn⟩, xs, eD, lx, hx⟩ => ?_) (fun Hc ⟨bc, pc, ⟨sn, esn, lsn⟩, xs, eD, lx, hx⟩ => ?_)
    · rw [List.getElem?_map] at hv
      obtain ⟨z, hz, rfl⟩ := Option.map_eq_some_iff.mp hv
      have hi : i < zs.length := (List.getElem?_eq_some_iff.mp hz).1
      obtain ⟨am, lz, hz8⟩ := manies_ok z (hzs z (List.mem_of_getElem? hz))
      refine ⟨rfl, .ref p, rfl, .ref q, rfl, p, q, sn, rfl, pc, nqp, esn, by omega, fun Hd y bd pd ed ny => ?_⟩
      refine ⟨.str z, rfl, by show 2 ≤ sizeLine; decide, fun r nr => ?_⟩
      have eDd := bd _ _ nDp nDq eD
      have nrD : r ≠ D := (ne_of_none eDd nr).symm
      have nrp : r ≠ p := (pd.ne nr).symm
      have nrq : r ≠ q := (ne_of_none ed nr).symm
      have nr2 : H2 r = none := but2_fresh (bc.trans bd) pd.al (some_al ed) nr
      refine ⟨_, same_upd nr _ _ eDd, by rw [List.length_map]; omega, fun b o n1 n2 e => ?_, ?_, ⟨sn ++ [y], ?_, by rw [List.length_append, lsn]; rfl⟩, xs ++ [r], ?_, by rw [List.length_append, lx]; rfl, fun x hx' => ?_⟩
      · rw [upd_ne (ne_of_none e nD), upd_ne (ne_of_none e nr2)]
        exact bd _ _ n1 n2 (bc _ _ n1 n2 e)
      · obtain ⟨x, y, e, h1, h2⟩ := pd
        exact ⟨x, y, by rw [upd_ne nDp.symm, upd_ne nrp.symm]; exact e, h1, h2⟩
      · rw [upd_ne nDq.symm, upd_ne nrq.symm]
        exact ed
      · rw [upd_same, List.map_append]
        rfl
      · rcases List.mem_append.mp hx' with h | h
        · obtain ⟨h1, h2, pl, h3, h4⟩ := hx x h
          have nxp : x ≠ p := fun z => by rw [z] at h1; exact p2.al h1
          have nxq : x ≠ q := fun z => by rw [z, eq2] at h1; cases h1
          have h3d := bd _ _ nxp nxq h3
          exact ⟨h1, h2, pl, by rw [upd_ne h2, upd_ne (ne_of_none h3d nr)]; exact h3d, h4⟩
        · rw [List.mem_singleton.mp h]
          exact ⟨nr2, nrD, ⟨y, z, Str.ofString "word", .non, Str.ofString ""⟩, by rw [upd_ne nrD, upd_same], ⟨ny, am, ⟨lz, hz8⟩, rfl, rfl, rfl⟩⟩
    · rw [List.length_map] at lx lsn
      have B : But2 p q H Hc := (But2.of b2).trans bc
      obtain ⟨κ', gw, kD⟩ := new_list (r1 := .pl) (r2 := .pls) th B kp kq pc.al (some_al esn) nDH (fun x hx' => ⟨but_fresh b2 p2 (hx x hx').1, (hx x hx').2.1⟩) (fun _ x hx' => (hx x hx').2.2) (fun κ' hk => ⟨xs, eD, by omega, hk⟩)
      exact hq Hc D κ' sn B pc esn (by omega) gw kD nDH
end
end WB

set_option Elab.async false
set_option linter.all false
set_option maxRecDepth 100000
set_option maxHeartbeats 4000000
namespace WB
open PySem PySem.Spec PyProof.Rows L2 WG
open TL (tl)
abbrev st_options : Stmt := topS 66
theorem sc_options : FnScope ["_law_pot_here", "_law_seen", "_law_letters", "_law_found", "_law_begin", "_law_k", "_law_short", "_law_takes", "_law_must", "_law_can"] ["_law_pot_here", "_law_seen"] (defScope st_options) := ⟨rfl, rfl, rfl, by decide +kernel, rfl, by decide +kernel, by decide +kernel⟩
theorem let_in : ∀ c ∈ tl letters, inLet ⟨#[c]⟩ = true := by decide +kernel
theorem let_short {c : Nat} {m : Nat} {y : Str} (hc : c ∈ tl letters) (hm : m ≤ 1) (hy : y.length = m) (hyc : ∀ d ∈ tl y, d ∈ [c]) : isSh (.str y) = true := by
  show (decide ((y.length : Int) ≤ 1) && inLet y) = true
  rw [decide_eq_true (by omega), Bool.true_and]
  have hl := TL.len_tl y
  cases ht : tl y with
  | nil =>
    have e : y = Str.ofString "" := TL.ext_tl (by rw [ht]; decide +kernel)
    rw [e]
    decide +kernel
  | cons d r =>
    rw [ht] at hl hyc
    have r0 : r = [] := by
      cases r with
      | nil => rfl
      | cons a b =>
        have : (d :: a :: b).length = b.length + 2 := rfl
        omega
    have d0 : d = c := List.mem_singleton.mp (hyc d List.mem_cons_self)
    have e : y = ⟨#[c]⟩ := TL.ext_tl (by rw [ht, r0, d0])
    rw [e]
    exact let_in c hc
theorem takes_ok : ∀ z ∈ takesL, among (.str z) takesL = true ∧ (inV (.str z) [.str (Str.ofString "one"), .str (Str.ofString "last"), .str (Str.ofString "each")] = true → plain (.str z) = false) ∧ (inV (.str z) [.str (Str.ofString "flag"), .str (Str.ofString "count")] = true → plain (.str z) = true) ∧ z.length ≤ 300 ∧ ∀ c ∈ tl z, c < 256 := by decide +kernel
section
variable {P : Program} {w : World} {K : PySem.W.Frag} {mg : Str → Option Value} {base : Heap}
theorem ok_options {f fT fN fU : Addr} {fd fdT fdN fdU : FuncData} {k ϕ : Nat} (F : Fun K "_law_options" "_law_options" st_options f fd) (D_take : Df K mg "_law_take" sTake ["_law_pot_here", "_law_room"] fT fdT) (D_name : Df K mg "_law_name" sName ["_law_pot_here"] fN fdN) (D_unlike : Df K mg "_law_unlike" st_unlike ["_law_pot_here", "_law_seen"] fU fdU) (m_len : mg "len" = none) (m_range : mg "range" = none) (m_int : mg "int" = none) :
    FnOk P w K mg base CX0 (k + 4) f fd ["_law_pot_here", "_law_seen"] (spNewL ϕ .ops) := by
  have G_take : FnOk P w K mg base CX0 (k + 3) fT fdT ["_law_pot_here", "_law_room"] spTake := ok_take D_take.F
  have G_unlike : FnOk P w K mg base CX0 (k + 3) fU fdU ["_law_pot_here", "_law_seen"] spUnlike := ok_unlike D_unlike.F D_take D_name m_len m_range
  refine F.ok sc_options (fun vs H Q E h => ?_) (fun cdv A outer s H vs Q E hr h => ?_)
  · obtain ⟨p, q, seen, κ, rfl, _⟩ := h
    rfl
  · obtain ⟨p, q, seen, κ, rfl, hp, nqp, eq, ls, th, kq, hq⟩ := h
    have sl : sizeLine = 16777216 := sizeLine_eq
    have kp := th.pot hp
    have hlen : letters.length = 52 := by decide +kernel
    refine ⟨_, pss_cons (ps_set (i := 2) sc_options.nd rfl (.inl rfl) pe_str)
      (pss_cons (ps_set (i := 3) sc_options.nd rfl (.inl rfl) (pe_lst pa_nil))
      (pss_cons (ps_set (i := 4) sc_options.nd rfl (.inl rfl) (pe_call G_take hr (by rfl) D_take.g D_take.F.kp D_take.b .nil pass0 (pa_cons (pv 0) (pa_cons pe_int pa_nil))))
      (pss_cons (ps_for PassesOwn.never rfl (pi_range1 rfl m_range (pa_cons (pe_ix ix_list (pe_lst (pa_cons pe_int (pa_cons pe_int (pa_cons pe_int (pa_cons pe_int (pa_cons pe_int pa_nil)))))) (pe_call G_take hr (by rfl) D_take.g D_take.F.kp D_take.b .nil pass0 (pa_cons (pv 0) (pa_cons pe_int pa_nil))) (fun _ _ => rfl)) pa_nil)) (pg_name (i := 5) sc_options.nd rfl (Or.inl rfl)) (pss_cons (ps_set (i := 6) sc_options.nd rfl (.inl rfl) (pe_op op_mul_str (pe_ix ix_str (pv 2) (pe_op op_mod (pe_op op_add (pe_op op_add (pv 4) (pe_op op_mul pe_int (pv 5))) (pe_op op_fdiv (pv 5) pe_int)) pe_int) (fun _ _ => rfl)) (pe_callTy call_int1 (by rfl) m_int (by decide +kernel) (pa_cons (pe_cmpR op_gt (pe_call G_take hr (by rfl) D_take.g D_take.F.kp D_take.b .nil pass0 (pa_cons (pv 0) (pa_cons pe_int pa_nil))) pe_int (nomark _)) pa_nil))))
      (pss_cons (ps_set (i := 7) sc_options.nd rfl (.inl rfl) (pe_ix ix_list (pe_lst (pa_cons pe_str (pa_cons pe_str (pa_cons pe_str (pa_cons pe_str (pa_cons pe_str pa_nil)))))) (pe_call G_take hr (by rfl) D_take.g D_take.F.kp D_take.b .nil pass0 (pa_cons (pv 0) (pa_cons pe_int pa_nil))) (fun _ _ => rfl)))
      (pss_cons (ps_set (i := 8) sc_options.nd rfl (.inl rfl) (pe_and (pe_cmpR op_in_seq (pv 7) (pe_tup (pa_cons pe_str (pa_cons pe_str (pa_cons pe_str pa_nil)))) (by rfl)) (pe_one (pe_cmpR op_eq (pe_call G_take hr (by rfl) D_take.g D_take.F.kp D_take.b .nil pass0 (pa_cons (pv 0) (pa_cons pe_int pa_nil))) pe_int (nomark _)))))
      (pss_cons (ps_set (i := 9) sc_options.nd rfl (.inl rfl) (pe_and (pe_cmpR op_in_seq (pv 7) (pe_tup (pa_cons pe_str (pa_cons pe_str pa_nil))) (by rfl)) (pe_one (pe_cmpR op_eq (pe_call G_take hr (by rfl) D_take.g D_take.F.kp D_take.b .nil pass0 (pa_cons (pv 0) (pa_cons pe_int pa_nil))) pe_int (nomark _)))))
      (pss_one (ps_expr (pe_bm PySem.F.plainAttrs_list PySem.F.slot_list_append PySem.F.type_list_append mt_append (pv 3) (pa_cons (pe_lst (pa_cons (pe_call G_unlike hr (by rfl) D_unlike.g D_unlike.F.kp D_unlike.b .nil pass0 (pa_cons (pv 0) (pa_cons (pv 1) pa_nil))) (pa_cons (pv 6) (pa_cons (pv 7) (pa_cons (pv 8) (pa_cons (pv 9) pa_nil)))))) pa_nil)))))))))
      (pss_one (ps_ret (pv 3)))))), ?_⟩
    refine ⟨by show 0 ≤ sizeLine; decide, fun D nD => ?_⟩
    have nDp : D ≠ p := (hp.ne nD).symm
    have nDq : D ≠ q := (ne_of_none eq nD).symm
    have s1 := same_upd (o := .lst []) nD
    have eD1 : (upd H D (.lst [])) D = some (.lst []) := upd_same
    revert s1 eD1
    generalize upd H D (.lst []) = H1
    intro s1 eD1
    refine ⟨.ref p, rfl, p, 52, rfl, hp.same s1, by decide, by decide, fun H2 bg b2 p2 bg0 bg1 => ?_⟩
    refine ⟨by show 5 ≤ sizeLine; decide, fun l3 n3 => ?_⟩
    refine goT n3 fun H3 s3 e3 => ?_
    have n3p : l3 ≠ p := (p2.ne n3).symm
    refine ⟨.ref p, rfl, p, 5, rfl, p2.same s3, by decide, by decide, fun H4 d4 b4 p4 d40 d41 => ?_⟩
    obtain ⟨m, hm, m0, m12⟩ : ∃ m : Int, atI [V.int 0, .int 1, .int 2, .int 4, .int 12] d4 = some (.int m) ∧ 0 ≤ m ∧ m ≤ 12 := by
      obtain ⟨n, rfl⟩ := Int.eq_ofNat_of_zero_le d40
      have hn : n < 5 := by omega
      match n, hn with
      | 0, _ => exact ⟨0, rfl, by omega, by omega⟩
      | 1, _ => exact ⟨1, rfl, by omega, by omega⟩
      | 2, _ => exact ⟨2, rfl, by omega, by omega⟩
      | 3, _ => exact ⟨4, rfl, by omega, by omega⟩
      | 4, _ => exact ⟨12, rfl, by omega, by omega⟩
    have B4 : But p H H4 := (((But.of_same s1).trans b2).trans (But.of_same s3)).trans b4
    have eD4 := b4 _ _ nDp (s3 _ _ (b2 _ _ nDp eD1))
    have eq4 := B4 _ _ nqp eq
    refine ⟨l3, _, d4, .int m, rfl, rfl, SqL.of (b4 _ _ n3p e3), hm, m, rfl, by omega, by omega, for_range (lo := 0) (n := m.toNat) (fun i σ Hc => But2 p q H Hc ∧ Pot Hc p ∧ (∃ sn : List Str, Hc q = some (.lst (sn.map V.str)) ∧ sn.length = seen.length + i) ∧ (∃ xs : List Addr, Hc D = some (.lst (xs.map V.ref)) ∧ xs.length = i ∧ ∀ x ∈ xs, H x = none ∧ x ≠ D ∧ ∃ o, OpAt Hc x o) ∧ ∃ x5 x6 x7 x8 x9, σ = [some (.ref p), some (.ref q), some (.str letters), some (.ref D), some (.int bg), x5, x6, x7, x8, x9])
      ⟨But2.of B4, p4, ⟨seen, eq4, rfl⟩, ⟨[], eD4, rfl, fun x hx => by cases hx⟩, none, none, none, none, none, rfl⟩ ?_ ?_⟩
    · rintro i σ Hc hi ⟨bc, pc, ⟨sn, esn, lsn⟩, ⟨xs, eD, lx, hx⟩, x5, x6, x7, x8, x9, rfl⟩
      -- the short one
      obtain ⟨mm, hmm⟩ : ∃ mm : Nat, (bg + 26 * (0 + (i : Int)) + (0 + (i : Int)) / 2) % 52 = (mm : Int) := Int.eq_ofNat_of_zero_le (Int.emod_nonneg _ (by decide))
      have mm52 : mm < 52 := by
        have := Int.emod_lt_of_pos (bg + 26 * (0 + (i : Int)) + (0 + (i : Int)) / 2) (show (0 : Int) < 52 by decide)
        omega
      have hn : mm < letters.cps.toList.length := by
        have e : letters.cps.toList.length = letters.length := by simp [Str.length]
        omega
      have hcm : letters.cps.toList[mm] ∈ tl letters := List.getElem_mem hn
      refine ⟨.str letters, rfl, .int bg, rfl, .int (0 + (i : Int)), rfl, _, _, rfl, rfl, .inl ⟨by decide, by decide⟩, _, _, rfl, rfl, .int (0 + (i : Int)), rfl, _, _, rfl, rfl, ⟨by decide, by decide⟩, _, _, rfl, rfl, _, _, rfl, rfl, by show (0 : Int) < 52; decide, letters, _, letters.cps.toList[mm], rfl, rfl, by rw [hlen]; decide, by rw [hmm]; exact atI_nat (List.getElem?_eq_getElem hn), ?_⟩
      refine ⟨.ref p, rfl, p, 3, rfl, pc, by decide, by decide, fun H5 d5 b5 p5 d50 d51 => ⟨_, _, rfl, rfl, .inr ⟨_, rfl, ?_⟩⟩⟩
      obtain ⟨n1, hn1, ln1⟩ : ∃ n1 : Nat, (if decide (d5 > 0) = true then (1 : Int) else 0) = (n1 : Int) ∧ n1 ≤ 1 := by
        by_cases z : d5 > 0
        · exact ⟨1, by rw [if_pos (decide_eq_true z)]; rfl, by decide⟩
        · exact ⟨0, by rw [if_neg (by rw [decide_eq_false z]; decide)]; rfl, by decide⟩
      refine ⟨_, n1, rfl, congrArg V.int hn1, by omega, by show 1 ≤ 1000; decide, fun y hy hyc => ?_⟩
      have hy1 : y.length = n1 := by rw [hy]; show 1 * n1 = n1; omega
      have shY : isSh (.str y) = true := let_short hcm ln1 hy1 (fun d hd => hyc d hd)
      have ty : Tx 300 y := ⟨by omega, fun c h => by
        have e : c ∈ [letters.cps.toList[mm]] := hyc c h
        rw [List.mem_singleton.mp e]
        exact (by decide +kernel : ∀ c ∈ tl letters, c < 256) _ hcm⟩
      -- what it takes
      refine ⟨by decide +kernel, fun l6 n6 => ?_⟩
      have s6 := same_upd (o := .lst (takesL.map V.str)) n6
      have e6 : (upd H5 l6 (.lst (takesL.map V.str))) l6 = some (.lst (takesL.map V.str)) := upd_same
      have p6 := p5.new (o := .lst (takesL.map V.str)) n6
      have n6p : l6 ≠ p := (p5.ne n6).symm
      refine ⟨.ref p, rfl, p, 5, rfl, p6, by decide, by decide, fun H7 d7 b7 p7 d70 d71 => ?_⟩
      obtain ⟨z, hzm, hze⟩ := at_strs takesL d7 d70 (by show d7 < 5; exact d71)
      obtain ⟨zam, znp, zpl, zl, zc⟩ := takes_ok z hzm
      refine ⟨l6, _, d7, .str z, rfl, rfl, SqL.of (b7 _ _ n6p e6), hze, ?_⟩
      have B7 : But p Hc H7 := (b5.trans (But.new n6)).trans b7
      dsimp only [tSeq, tAsg, tC, gName]
      refine ev_gen (t := tAndV _ _) (fun v H' => But p Hc H' ∧ Pot H' p ∧ ∃ b, v = .bl b ∧ (b = true → plain (.str z) = false)) (fun R c => ?_) ?_
      · refine ⟨_, rfl, by show 3 ≤ sizeLine; decide, fun t nt => ?_⟩
        refine ⟨t, _, rfl, .inr (SqT.of upd_same), rfl, rfl, _, rfl, ite2 (fun e => ?_) (fun e => ?_)⟩
        · exact ⟨.ref p, rfl, p, 4, rfl, p7.new nt, by decide, by decide, fun H8 d8 b8 p8 d80 d81 => ⟨rfl, c _ _ ⟨(B7.trans (But.new nt)).trans b8, p8, _, rfl, fun _ => znp e⟩⟩⟩
        · exact c _ _ ⟨B7.trans (But.new nt), p7.new nt, _, rfl, fun z => by cases z⟩
      rintro _ H8 ⟨B8, p8, mu, rfl, hmu⟩
      refine ev_gen (t := tAndV _ _) (fun v H' => But p Hc H' ∧ Pot H' p ∧ ∃ b, v = .bl b ∧ (b = true → plain (.str z) = true)) (fun R c => ?_) ?_
      · refine ⟨_, rfl, by show 2 ≤ sizeLine; decide, fun t nt => ?_⟩
        refine ⟨t, _, rfl, .inr (SqT.of upd_same), rfl, rfl, _, rfl, ite2 (fun e => ?_) (fun e => ?_)⟩
        · exact ⟨.ref p, rfl, p, 2, rfl, p8.new nt, by decide, by decide, fun H9 d9 b9 p9 d90 d91 => ⟨rfl, c _ _ ⟨(B8.trans (But.new nt)).trans b9, p9, _, rfl, fun _ => zpl e⟩⟩⟩
        · exact c _ _ ⟨B8.trans (But.new nt), p8.new nt, _, rfl, fun z => by cases z⟩
      rintro _ H9 ⟨B9, p9, ca, rfl, hca⟩
      -- the new option
      have eq9 := B9 _ _ nqp esn
      have eD9 := B9 _ _ nDp eD
      refine ⟨.ref D, rfl, Or.inl ⟨rfl, _, SqL.of eD9⟩, .ref p, rfl, .ref q, rfl, p, q, sn, rfl, p9, nqp, eq9, by omega, fun Hd nmy bd pd ed ny => ?_⟩
      refine ⟨_, rfl, _, rfl, _, rfl, _, rfl, by show 5 ≤ sizeLine; decide, fun r nr => ?_⟩
      have eDd := bd _ _ nDp nDq eD9
      have nrD : r ≠ D := (ne_of_none eDd nr).symm
      have nrp : r ≠ p := (pd.ne nr).symm
      have nrq : r ≠ q := (ne_of_none ed nr).symm
      have Bd : But2 p q H Hd := (bc.trans (But2.of B9)).trans bd
      have nrH : H r = none := but2_fresh Bd pd.al (some_al ed) nr
      refine ⟨D, _, _, rfl, rfl, same_upd nr _ _ eDd, by rw [List.length_map]; omega, fun b o n1 n2 e => ?_, ?_, ⟨sn ++ [nmy], ?_, by rw [List.length_append, lsn]; show _ + 1 = _; omega⟩, ⟨xs ++ [r], ?_, by rw [List.length_append, lx]; rfl, fun x hx' => ?_⟩, _, _, _, _, _, rfl⟩
      · rw [upd_ne (ne_of_none e nD), upd_ne (ne_of_none e nrH)]
        exact Bd _ _ n1 n2 e
      · obtain ⟨x, y, e, h1, h2⟩ := pd
        exact ⟨x, y, by rw [upd_ne nDp.symm, upd_ne nrp.symm]; exact e, h1, h2⟩
      · rw [upd_ne nDq.symm, upd_ne nrq.symm]
        exact ed
      · rw [upd_same, List.map_append]
        rfl
      · rcases List.mem_append.mp hx' with h | h
        · obtain ⟨h1, h2, o, h3, h4⟩ := hx x h
          have nxp : x ≠ p := fun z => by rw [z] at h1; exact hp.al h1
          have nxq : x ≠ q := fun z => by rw [z, eq] at h1; cases h1
          have h3d := bd _ _ nxp nxq (B9 _ _ nxp h3)
          exact ⟨h1, h2, o, by rw [upd_ne h2, upd_ne (ne_of_none h3d nr)]; exact h3d, h4⟩
        · rw [List.mem_singleton.mp h]
          exact ⟨nrH, nrD, ⟨nmy, y, z, Str.ofString "word", .non, mu, ca, Str.ofString ""⟩, by rw [upd_ne nrD, upd_same], ⟨ny, shY, ty, zam, ⟨zl, zc⟩, hmu, hca, rfl, rfl, rfl⟩⟩
    · rintro σ Hc ⟨bc, pc, ⟨sn, esn, lsn⟩, ⟨xs, eD, lx, hx⟩, x5, x6, x7, x8, x9, rfl⟩
      obtain ⟨κ', gw, kD⟩ := new_list (r1 := .op) (r2 := .ops) th bc kp kq pc.al (some_al esn) nD (fun x hx' => ⟨(hx x hx').1, (hx x hx').2.1⟩) (fun _ x hx' => (hx x hx').2.2) (fun κ' hk => ⟨xs, eD, by omega, hk⟩)
      exact ⟨_, rfl, hq Hc D κ' sn bc pc esn (by omega) gw kD nD⟩
end
end WB

set_option Elab.async false
set_option linter.all false
set_option maxRecDepth 100000
set_option maxHeartbeats 4000000
namespace WB
open PySem PySem.Spec PyProof.Rows L2 WG
open TL (tl)
abbrev st_groups : Stmt := topS 67
theorem sc_groups : FnScope ["_law_pot_here", "_law_options_here", "_law_left", "_law_found", "_law_k", "_law_many", "_law_option"] ["_law_pot_here", "_law_options_here"] (defScope st_groups) := ⟨rfl, rfl, rfl, by decide +kernel, rfl, by decide +kernel, by decide +kernel⟩
theorem cutV_to (xs : List V) (j : Nat) (h : j ≤ xs.length) : cutV xs none (some (j : Int)) = xs.take j := by
  unfold cutV
  rw [HT.sIx_none, HT.sIx_nat, Nat.min_eq_left h, List.drop_zero, Nat.sub_zero]
theorem cutV_from (xs : List V) (j : Nat) (h : j ≤ xs.length) : cutV xs (some (j : Int)) none = xs.drop j := by
  unfold cutV
  rw [HT.sIx_none, HT.sIx_nat, Nat.min_eq_left h]
  refine List.take_of_length_le ?_
  rw [List.length_drop]
  exact Nat.le_refl _
theorem ops_of {ϕ : Nat} {κ : Addr → Rl} {H : Hp} {a : Addr} (th : TH ϕ κ H) (k : κ a = .ops) : ∃ (xs : List Addr) (os : List OT), H a = some (.lst (xs.map V.ref)) ∧ os.length ≤ 12 ∧ All2 (OpAt H) xs os ∧ ∀ x ∈ xs, κ x = .op := by
  have h := th a
  rw [k] at h
  obtain ⟨xs, h1, h2, h3⟩ := h
  have key : ∀ {ys : List Addr}, (∀ y ∈ ys, κ y = .op) → ∃ os : List OT, All2 (OpAt H) ys os := fun {ys} hy => by
    induction ys with
    | nil => exact ⟨[], All2.nil⟩
    | cons y r ih =>
      obtain ⟨os, ho⟩ := ih fun z hz => hy z (List.mem_cons_of_mem _ hz)
      have hyy := th y
      rw [hy y List.mem_cons_self] at hyy
      obtain ⟨o, h⟩ := hyy
      exact ⟨o :: os, ho.cons h⟩
  obtain ⟨os, ho⟩ := key h3
  exact ⟨xs, os, h1, by rw [← ho.1]; exact h2, ho, h3⟩
section
variable {P : Program} {w : World} {K : PySem.W.Frag} {mg : Str → Option Value} {base : Heap}
def spGroups (ϕ : Nat) : Sp := fun vs H Q _ => ∃ (p ao : Addr) (κ : Addr → Rl), vs = [.ref p, .ref ao] ∧ Pot H p ∧ TH ϕ κ H ∧ κ ao = .ops ∧ ∀ H' l κ', But p H H' → Pot H' p → Gw 1000 ϕ κ H κ' H' → κ' l = .grs → H l = none → Q (.ref l) H'
theorem ok_groups {f fT : Addr} {fd fdT : FuncData} {k ϕ : Nat} (F : Fun K "_law_groups" "_law_groups" st_groups f fd) (D_take : Df K mg "_law_take" sTake ["_law_pot_here", "_law_room"] fT fdT) (m_len : mg "len" = none) (m_range : mg "range" = none) :
    FnOk P w K mg base CX0 (k + 2) f fd ["_law_pot_here", "_law_options_here"] (spGroups ϕ) := by
  have G_take : FnOk P w K mg base CX0 (k + 1) fT fdT ["_law_pot_here", "_law_room"] spTake := ok_take D_take.F
  refine F.ok sc_groups (fun vs H Q E h => ?_) (fun cdv A outer s H vs Q E hr h => ?_)
  · obtain ⟨p, ao, κ, rfl, _⟩ := h
    rfl
  · obtain ⟨p, ao, κ, rfl, hp, th, ko, hq⟩ := h
    have sl : sizeLine = 16777216 := sizeLine_eq
    have kp := th.pot hp
    obtain ⟨xo, os, eo, lo, ho, _⟩ := ops_of th ko
    refine ⟨_, pss_cons (ps_setLc (i := 2) (own := [("_law_option", 6)]) (g := gName 6)  rfl sc_groups.nd rfl rfl (sw_true rfl rfl rfl (by decide +kernel)) (pi_list (pv 1)) (blkOk_by (N := ["_law_pot_here", "_law_options_here", "_law_left", "_law_found", "_law_k", "_law_many", "_law_option"]) (sc := defScope st_groups) (by decide +kernel)) (fun _ _ _ _ _ => (pg_name (i := 6) sc_groups.nd rfl (Or.inl rfl))) (fun _ _ _ _ _ => pts_one (pt_not (pt_val (pe_ix (r := rIxL K) ix_list (pv 6) pe_int (fun _ _ => rfl))))) (fun _ _ _ _ _ => (pe_ix (r := rIxL K) ix_list (pv 6) pe_int (fun _ _ => rfl))))
      (pss_cons (ps_set (i := 3) sc_groups.nd rfl (.inl rfl) (pe_lst pa_nil))
      (pss_cons (ps_for PassesOwn.never rfl (pi_range1 rfl m_range (pa_cons (pe_call G_take hr (by rfl) D_take.g D_take.F.kp D_take.b .nil pass0 (pa_cons (pv 0) (pa_cons pe_int pa_nil))) pa_nil)) (pg_name (i := 4) sc_groups.nd rfl (Or.inl rfl)) (pss_cons (ps_set (i := 5) sc_groups.nd rfl (.inl rfl) (pe_op op_add pe_int (pe_call G_take hr (by rfl) D_take.g D_take.F.kp D_take.b .nil pass0 (pa_cons (pv 0) (pa_cons pe_int pa_nil)))))
      (pss_one (ps_if (pt_cmpR op_le (pv 5) (pe_callB call_len_seq (by rfl) m_len PySem.boot_len (pa_cons (pv 2) pa_nil)) (nomark _)) (pss_cons (ps_expr (pe_bm PySem.F.plainAttrs_list PySem.F.slot_list_append PySem.F.type_list_append mt_append (pv 3) (pa_cons (pe_slice sl_list (pv 2) po_none (po_some (pv 5))) pa_nil)))
      (pss_one (ps_set (i := 2) sc_groups.nd rfl (.inl rfl) (pe_slice sl_list (pv 2) (po_some (pv 5)) po_none)))) pss_nil))))
      (pss_one (ps_ret (pv 3))))), ?_⟩
    refine ⟨.ref ao, rfl, ao, rfl, ⟨_, SqL.of eo⟩, fun L nL => ?_⟩
    have nLp : L ≠ p := (hp.ne nL).symm
    have lxo : xo.length = os.length := ho.1
    refine lc_list (K := K) (a := ao) (xs := xo.map V.ref) (fun i Hc => Same H Hc ∧ ∃ zs : List Str, Hc L = some (.lst (zs.map V.str)) ∧ zs.length ≤ i ∧ ∀ z ∈ zs, Tx 300 z) ⟨same_upd nL, [], upd_same, Nat.le_refl _, fun z hz => by cases hz⟩ (fun i Hc _ h => SqL.of (h.1 _ _ eo)) (fun i v Hc hv ⟨sc, zs, eL, lz, hz⟩ => ?_) (fun H1 ⟨s1, zs1, eL1, lz1, hz1⟩ => ?_)
    · rw [List.getElem?_map] at hv
      obtain ⟨a, ha, rfl⟩ := Option.map_eq_some_iff.mp hv
      have hi : i < xo.length := (List.getElem?_eq_some_iff.mp ha).1
      obtain ⟨o, _, ea, ok⟩ := ho.2 i a ha
      have eac := sc _ _ ea
      refine ⟨rfl, .ref a, rfl, a, _, 3, .bl o.need, rfl, rfl, SqL.of eac, rfl, _, rfl, ?_⟩
      cases b : o.need with
      | true => exact ⟨sc, zs, eL, by omega, hz⟩
      | false =>
        refine ⟨.ref a, rfl, a, _, 0, .str o.long, rfl, rfl, SqL.of eac, rfl, _, eL, by rw [List.length_map]; omega, fun b' u e => ?_, zs ++ [o.long], ?_, by rw [List.length_append]; show _ + 1 ≤ _; omega, fun z hz' => ?_⟩
        · rw [upd_ne (ne_of_none e nL)]
          exact sc _ _ e
        · rw [upd_same, List.map_append]
          rfl
        · rcases List.mem_append.mp hz' with h | h
          · exact hz z h
          · rw [List.mem_singleton.mp h]
            exact nm_tx ok.long
    rw [List.length_map] at lz1
    refine ⟨by show 0 ≤ sizeLine; decide, fun D nD => ?_⟩
    have s2 := same_upd (o := .lst []) nD
    have eD2 : (upd H1 D (.lst [])) D = some (.lst []) := upd_same
    revert s2 eD2
    generalize upd H1 D (.lst []) = H2
    intro s2 eD2
    have S2 := s1.trans s2
    have nDH : H D = none := fresh_of s1 nD
    have nDp : D ≠ p := (hp.ne nDH).symm
    have nDL : D ≠ L := (ne_of_none eL1 nD).symm
    refine ⟨.ref p, rfl, p, 5, rfl, hp.same S2, by decide, by decide, fun H3 d3 b3 p3 d30 d31 => ?_⟩
    have B3 : But p H H3 := (But.of_same S2).trans b3
    refine ⟨d3, rfl, by omega, by omega, for_range (lo := 0) (n := d3.toNat) (fun i σ Hc => But p H Hc ∧ Pot Hc p ∧ (∃ xs : List Addr, Hc D = some (.lst (xs.map V.ref)) ∧ xs.length ≤ i ∧ ∀ x ∈ xs, H x = none ∧ x ≠ D ∧ ∃ g, GrAt Hc x g) ∧ ∃ (L : Addr) (zs : List Str) (x4 x5 : Option V), L ≠ p ∧ L ≠ D ∧ Hc L = some (.lst (zs.map V.str)) ∧ zs.length ≤ 12 ∧ (∀ z ∈ zs, Tx 300 z) ∧ σ = [some (.ref p), some (.ref ao), some (.ref L), some (.ref D), x4, x5, none])
      ⟨B3, p3, ⟨[], b3 _ _ nDp eD2, Nat.le_refl _, fun x hx => by cases hx⟩, L, zs1, none, none, nLp, nDL.symm, b3 _ _ nLp (s2 _ _ eL1), by omega, hz1, rfl⟩ ?_ ?_⟩
    · rintro i σ Hc hi ⟨bc, pc, ⟨xs, eD, lx, hx⟩, L, zs, x4, x5, nLp, nLD, eL, lz, hz, rfl⟩
      refine ⟨.ref p, rfl, p, 5, rfl, pc, by decide, by decide, fun Hd dd bd pd dd0 dd1 => ?_⟩
      refine ⟨_, _, rfl, rfl, ?_⟩
      have eLd := bd _ _ nLp eL
      have eDd := bd _ _ nDp eD
      have Bd := bc.trans bd
      have hxd : ∀ x ∈ xs, H x = none ∧ x ≠ D ∧ ∃ g, GrAt Hd x g := fun x hx' => by
        obtain ⟨h1, h2, g, h3, h4⟩ := hx x hx'
        exact ⟨h1, h2, g, bd _ _ (fun z => by rw [z] at h1; exact hp.al h1) h3, h4⟩
      obtain ⟨j, hj⟩ : ∃ j : Nat, 2 + dd = (j : Int) := Int.eq_ofNat_of_zero_le (by omega)
      refine ⟨.int (2 + dd), rfl, .ref L, rfl, L, _, rfl, .inl (SqL.of eLd), _, _, rfl, rfl, _, rfl, ite2 (fun e => ?_) (fun e => ?_)⟩
      · have e' : (2 + dd) ≤ (((zs.map V.str).length : Nat) : Int) := of_decide_eq_true e
        rw [List.length_map] at e'
        have jz : j ≤ (zs.map V.str).length := by rw [List.length_map]; omega
        refine ⟨.ref D, rfl, Or.inl ⟨rfl, _, SqL.of eDd⟩, .ref L, rfl, .int (2 + dd), rfl, _, rfl, L, _, rfl, SqL.of eLd, fun g ng => ?_⟩
        rw [hj, cutV_to _ j jz, ← List.map_take]
        have s5 := same_upd (o := .lst ((zs.take j).map V.str)) ng
        have e5 : (upd Hd g (.lst ((zs.take j).map V.str))) g = some (.lst ((zs.take j).map V.str)) := upd_same
        have ngD : g ≠ D := (ne_of_none eDd ng).symm
        have ngp : g ≠ p := (pd.ne ng).symm
        have ngH : H g = none := but_fresh Bd pd ng
        have p5 := pd.same s5
        revert s5 e5 p5
        generalize upd Hd g (.lst ((zs.take j).map V.str)) = He
        intro s5 e5 p5
        refine ⟨D, _, _, rfl, rfl, s5 _ _ eDd, by rw [List.length_map]; omega, ?_⟩
        have eL6 : (upd He D (.lst (xs.map V.ref ++ [.ref g]))) L = some (.lst (zs.map V.str)) := by
          rw [upd_ne nLD]
          exact s5 _ _ eLd
        refine ⟨.ref L, rfl, .int (2 + dd), rfl, _, rfl, L, _, rfl, SqL.of eL6, fun L2 nL2 => ?_⟩
        rw [hj, cutV_from _ j jz, ← List.map_drop]
        have eD6 : (upd He D (.lst (xs.map V.ref ++ [.ref g]))) D = some (.lst (xs.map V.ref ++ [.ref g])) := upd_same
        have p6 : Pot (upd He D (.lst (xs.map V.ref ++ [.ref g]))) p := by
          obtain ⟨x, y, e, h1, h2⟩ := p5
          exact ⟨x, y, by rw [upd_ne nDp.symm]; exact e, h1, h2⟩
        have b6 : ∀ b o, b ≠ p → b ≠ D → Hd b = some o → (upd He D (.lst (xs.map V.ref ++ [.ref g]))) b = some o := fun b o _ n2 e => by
          rw [upd_ne n2]
          exact s5 _ _ e
        have g6 : (upd He D (.lst (xs.map V.ref ++ [.ref g]))) g = some (.lst ((zs.take j).map V.str)) := by
          rw [upd_ne ngD]
          exact e5
        revert eD6 p6 b6 g6 nL2
        generalize upd He D (.lst (xs.map V.ref ++ [.ref g])) = Hf
        intro nL2 eD6 p6 b6 g6
        have s7 := same_upd (o := .lst ((zs.drop j).map V.str)) nL2
        refine ⟨fun b o nb e => s7 _ _ (b6 _ _ nb (ne_of_none e nDH) (Bd _ _ nb e)), p6.same s7, ⟨xs ++ [g], ?_, by rw [List.length_append]; show _ + 1 ≤ _; omega, fun x hx' => ?_⟩, L2, zs.drop j, _, _, (p6.ne nL2).symm, (ne_of_none eD6 nL2).symm, upd_same, by rw [List.length_drop]; omega, fun z hz' => hz z (List.mem_of_mem_drop hz'), rfl⟩
        · rw [List.map_append]
          exact s7 _ _ eD6
        · rcases List.mem_append.mp hx' with h | h
          · obtain ⟨h1, h2, g', h3, h4⟩ := hxd x h
            exact ⟨h1, h2, g', s7 _ _ (b6 _ _ (fun z => by rw [z] at h1; exact hp.al h1) h2 h3), h4⟩
          · rw [List.mem_singleton.mp h]
            exact ⟨ngH, ngD, zs.take j, s7 _ _ g6, by rw [List.length_take]; omega, by rw [List.length_take]; omega, fun z hz' => hz z (List.mem_of_mem_take hz')⟩
      · exact ⟨Bd, pd, ⟨xs, eDd, by omega, hxd⟩, L, zs, _, _, nLp, nLD, eLd, lz, hz, rfl⟩
    · rintro σ Hc ⟨bc, pc, ⟨xs, eD, lx, hx⟩, L, zs, x4, x5, _, _, _, _, _, rfl⟩
      obtain ⟨κ', gw, kD⟩ := new_list (p := p) (q := p) (r1 := .gr) (r2 := .grs) th (But2.of bc) kp kp pc.al pc.al nDH (fun x hx' => ⟨(hx x hx').1, (hx x hx').2.1⟩) (fun _ x hx' => (hx x hx').2.2) (fun κ' hk => ⟨xs, eD, by omega, hk⟩)
      exact ⟨_, rfl, hq Hc D κ' bc pc gw kD nDH⟩
end
end WB

set_option Elab.async false
set_option linter.all false
set_option maxRecDepth 100000
set_option maxHeartbeats 4000000
namespace WB
open PySem PySem.Spec PyProof.Rows L2 WG
open AutoSeq1 (wpAny_loadPart')
open MeetsSeq MeetsSeq2 MeetsSeq3 SeqRoads2
open TL (tl)
/-! ### a list beside the list without items -/
section
variable {prog : Program} {w : World} {A : Around} {E : Value → Shared → Prop} {s : Shared} {Q : Value → Shared → Prop} {l m : Addr} {its jts : Array Value} {n n2 : Nat}
theorem rc_size (hu : A.units < cLine) (h1 : s.heap.get? l = some { cls := .type "list", data := .seq its n }) (h2 : s.heap.get? m = some { cls := .type "list", data := .seq jts n2 }) (hne : its.size ≠ jts.size) (q : Q (.bool false) s) : wpAny (model prog w) A (richCompare .Eq (.ref l) (.ref m)) Q E s := by
  refine wpAny_richCompare_same_room (op := .Eq) ⟨_, h1, rfl⟩ ⟨_, h2, rfl⟩ F.slot_list_eq (GQ.call_here F.slot_list_eq ⟨_, h1, rfl⟩ F.entry_list_eq (F.args_list_eq_2 _ _) ?_) hu
  have f3 := AutoSeq1.sub_list_list
  have hne' : (its.size != jts.size) = true := by simpa using hne
  obtain ⟨hp, g, d, tk, os⟩ := s
  wp_walk using wpAny_loadPart' h1, wpAny_loadPart' h2
  exact ⟨(fun z => nomatch z), q⟩
theorem rc_sizeN (hu : A.units < cLine) (h1 : s.heap.get? l = some { cls := .type "list", data := .seq its n }) (h2 : s.heap.get? m = some { cls := .type "list", data := .seq jts n2 }) (hne : its.size ≠ jts.size) (q : Q (.bool true) s) : wpAny (model prog w) A (richCompare .NotEq (.ref l) (.ref m)) Q E s := by
  refine wpAny_richCompare_same_room (op := .NotEq) ⟨_, h1, rfl⟩ ⟨_, h2, rfl⟩ F.slot_list_ne (GQ.call_here F.slot_list_ne ⟨_, h1, rfl⟩ F.entry_list_ne (F.args_list_ne_2 _ _) ?_) hu
  have f3 := AutoSeq1.sub_list_list
  have hne' : (its.size != jts.size) = true := by simpa using hne
  obtain ⟨hp, g, d, tk, os⟩ := s
  wp_walk using wpAny_loadPart' h1, wpAny_loadPart' h2
  exact ⟨(fun z => nomatch z), q⟩
end
end WB

set_option Elab.async false
set_option linter.all false
set_option maxRecDepth 100000
set_option maxHeartbeats 4000000
namespace WB
open PySem PySem.Spec PyProof.Rows L2 WG
open TL (tl)
def rEqE : R2 := fun x y H Q => ∃ (l m : Addr) (xs : List V), x = .ref l ∧ y = .ref m ∧ H l = some (.lst xs) ∧ H m = some (.lst []) ∧ Q (.bl xs.isEmpty) H
def rNeE : R2 := fun x y H Q => ∃ (l m : Addr) (xs : List V), x = .ref l ∧ y = .ref m ∧ H l = some (.lst xs) ∧ H m = some (.lst []) ∧ Q (.bl (!xs.isEmpty)) H
section
variable {X : Cx}
theorem op_eqE (hu : X.A.units + 64 < cLine) : OpR X (compareOp .Eq) rEqE := by
  intro pins s σ H x y v u Q I rx ry h
  obtain ⟨l, m, xs, rfl, rfl, el, em, q⟩ := h
  cases xs with
  | nil => exact op_eqD hu pins s σ H _ _ v u Q I rx ry ⟨.list [], .list [], .lst (SqL.of el) .nil, .lst (SqL.of em) .nil, by decide +kernel, by decide +kernel, by simpa [PyData.eqv, PyData.eqvAll] using q⟩
  | cons z r =>
    cases rx
    cases ry
    obtain ⟨_, its, n, rv, g⟩ := (show ObjOk _ _ H s.heap l (.lst (z :: r)) from I.hok l _ el)
    obtain ⟨_, jts, n2, rv2, g2⟩ := (show ObjOk _ _ H s.heap m (.lst []) from I.hok m _ em)
    have h1 := rv.length
    have h2 := rv2.length
    refine rc_size (by omega) g g2 ?_ ⟨.bl false, H, I, rfl, q⟩
    rw [List.size_toArray, List.size_toArray, ← h1, ← h2]
    simp
theorem op_neE (hu : X.A.units + 64 < cLine) : OpR X (compareOp .NotEq) rNeE := by
  intro pins s σ H x y v u Q I rx ry h
  obtain ⟨l, m, xs, rfl, rfl, el, em, q⟩ := h
  cases xs with
  | nil => exact op_neD hu pins s σ H _ _ v u Q I rx ry ⟨.list [], .list [], .lst (SqL.of el) .nil, .lst (SqL.of em) .nil, by decide +kernel, by decide +kernel, by simpa [PyData.eqv, PyData.eqvAll] using q⟩
  | cons z r =>
    cases rx
    cases ry
    obtain ⟨_, its, n, rv, g⟩ := (show ObjOk _ _ H s.heap l (.lst (z :: r)) from I.hok l _ el)
    obtain ⟨_, jts, n2, rv2, g2⟩ := (show ObjOk _ _ H s.heap m (.lst []) from I.hok m _ em)
    have h1 := rv.length
    have h2 := rv2.length
    refine rc_sizeN (by omega) g g2 ?_ ⟨.bl true, H, I, rfl, q⟩
    rw [List.size_toArray, List.size_toArray, ← h1, ← h2]
    simp
end
end WB

set_option Elab.async false
set_option linter.all false
set_option maxRecDepth 100000
set_option maxHeartbeats 4000000
namespace WB
open PySem PySem.Spec PyProof.Rows L2 WG
open TL (tl)
abbrev st_tree : Stmt := topS 68
theorem sc_tree : FnScope ["_law_pot_here", "_law_name_here", "_law_deep", "_law_left", "_law_seen", "_law_options_here", "_law_places_here", "_law_below", "_law_names", "_law_k", "_law_one"] ["_law_pot_here", "_law_name_here", "_law_deep", "_law_left"] (defScope st_tree) := ⟨rfl, rfl, rfl, by decide +kernel, rfl, by decide +kernel, by decide +kernel⟩
/-- a state on the way -/
structure Wy (m ϕ : Nat) (κ : Addr → Rl) (H : Hp) (κ' : Addr → Rl) (H' : Hp) (p lf : Addr) (left : Int) : Prop where
  b : But2 p lf H H'
  p : Pot H' p
  l : H' lf = some (.lst [.int left])
  g : Gw m ϕ κ H κ' H'
section
variable {m ϕ : Nat} {κ κ1 κ2 : Addr → Rl} {H H1 H2 : Hp} {p lf q : Addr} {left left' : Int}
theorem Wy.fresh {c : Addr} (h : Wy m ϕ κ H κ1 H1 p lf left) (n : H1 c = none) : H c = none := but2_fresh h.b h.p.al (some_al h.l) n
theorem Wy.step (h : Wy m ϕ κ H κ1 H1 p lf left) (g : Gw m ϕ κ1 H1 κ2 H2) (b : But2 p q H1 H2) (hp : Pot H2 p) (nq : H q = none) (nlp : lf ≠ p) (el : H lf ≠ none) : Wy m ϕ κ H κ2 H2 p lf left :=
  ⟨fun c o n1 n2 e => b c o n1 (ne_of_none e nq) (h.b c o n1 n2 e), hp, b _ _ nlp (fun z => el (by rw [z]; exact nq)) h.l, h.g.trans g⟩
theorem Wy.same (h : Wy m ϕ κ H κ1 H1 p lf left) (s : Same H1 H2) : Wy m ϕ κ H κ1 H2 p lf left :=
  ⟨fun c o n1 n2 e => s _ _ (h.b c o n1 n2 e), h.p.same s, s _ _ h.l, h.g.trans (Gw.refl (fun c hc => by cases e : H1 c with | none => exact absurd e hc | some o => exact some_al (s _ _ e)) (h.g.th.keep fun c o _ e => s _ _ e))⟩
theorem Wy.but (h : Wy m ϕ κ H κ1 H1 p lf left) (b : But p H1 H2) (hp : Pot H2 p) (nlp : lf ≠ p) : Wy m ϕ κ H κ1 H2 p lf left :=
  ⟨fun c o n1 n2 e => b _ _ n1 (h.b c o n1 n2 e), hp, b _ _ nlp h.l, h.g.trans (Gw.refl (but2_al (q := p) (But2.of b) hp.al hp.al) (h.g.th.but2 (p := p) (q := p) (But2.of b) (h.g.th.pot h.p) (h.g.th.pot h.p)))⟩
theorem Wy.but2 (h : Wy m ϕ κ H κ1 H1 p lf left) (b : But2 p q H1 H2) (hp : Pot H2 p) (aq : H2 q ≠ none) (nq : H q = none) (kq : κ1 q = .no) (nlp : lf ≠ p) (el : H lf ≠ none) : Wy m ϕ κ H κ1 H2 p lf left :=
  h.step (Gw.refl (but2_al b hp.al aq) (h.g.th.but2 b (h.g.th.pot h.p) kq)) b hp nq nlp el
theorem Wy.tr (h : Wy m ϕ κ H κ1 H1 p lf left) (h2 : Wy m ϕ κ1 H1 κ2 H2 p lf left') : Wy m ϕ κ H κ2 H2 p lf left' := ⟨h.b.trans h2.b, h2.p, h2.l, h.g.trans h2.g⟩
/-- a list that is for nothing yet is changed -/
theorem Wy.set {o : HO} (h : Wy m ϕ κ H κ1 H1 p lf left) (nq : H q = none) (aq : H1 q ≠ none) (kq : κ1 q = .no) (nqp : q ≠ p) (nql : q ≠ lf) : Wy m ϕ κ H κ1 (upd H1 q o) p lf left := by
  refine ⟨fun c u n1 n2 e => ?_, ?_, by rw [upd_ne nql.symm]; exact h.l, h.g.trans (Gw.refl (fun c hc => ?_) (h.g.th.keep fun c u hc e => ?_))⟩
  · rw [upd_ne (ne_of_none e nq)]
    exact h.b _ _ n1 n2 e
  · obtain ⟨x, y, e, h1, h2⟩ := h.p
    exact ⟨x, y, by rw [upd_ne nqp.symm]; exact e, h1, h2⟩
  · by_cases z : c = q
    · rw [z, upd_same]
      simp
    · rw [upd_ne z]
      exact hc
  · rw [upd_ne (fun z => hc (by rw [z]; exact kq))]
    exact e
theorem Wy.lft (h : Wy m ϕ κ H κ1 H1 p lf left) (kl : κ1 lf = .no) (nlp : lf ≠ p) (x : Int) : Wy m ϕ κ H κ1 (upd H1 lf (.lst [.int x])) p lf x := by
  refine ⟨fun c u n1 n2 e => by rw [upd_ne n2]; exact h.b _ _ n1 n2 e, ?_, upd_same, h.g.trans (Gw.refl (fun c hc => ?_) (h.g.th.keep fun c u hc e => ?_))⟩
  · obtain ⟨x, y, e, h1, h2⟩ := h.p
    exact ⟨x, y, by rw [upd_ne nlp.symm]; exact e, h1, h2⟩
  · by_cases z : c = lf
    · rw [z, upd_same]
      simp
    · rw [upd_ne z]
      exact hc
  · rw [upd_ne (fun z => hc (by rw [z]; exact kl))]
    exact e
end
def TreePost (p lf : Addr) (κ : Addr → Rl) (left : Int) (e : Nat) (H : Hp) (Q : VK) : Prop := ∀ H' a κ' (left' : Int), Wy 41 4 κ H κ' H' p lf left' → 0 ≤ left' → left' ≤ left → ∀ w, κ' a = .node (e + 40) w → (w : Int) ≤ 5 * (1 + left - left') → H a = none → Q (.ref a) H'
def spTree (e : Nat) : Sp := fun vs H Q _ => ∃ (p lf : Addr) (n : Str) (left : Int) (κ : Addr → Rl), vs = [.ref p, .str n, .int (5 - (e : Int)), .ref lf] ∧ Pot H p ∧ nm (tl n) = true ∧ lf ≠ p ∧ H lf = some (.lst [.int left]) ∧ 0 ≤ left ∧ left ≤ 100 ∧ TH 4 κ H ∧ κ lf = .no ∧ 1 ≤ e ∧ e ≤ 4 ∧ TreePost p lf κ left e H Q
section
variable {P : Program} {w : World} {K : PySem.W.Frag} {mg : Str → Option Value} {base : Heap}
theorem ok_tree {f fT fN fU fPl fOp fGr : Addr} {fd fdT fdN fdU fdPl fdOp fdGr : FuncData} {k : Nat} (D_tree : Df K mg "_law_tree" st_tree ["_law_pot_here", "_law_name_here", "_law_deep", "_law_left"] f fd) (D_take : Df K mg "_law_take" sTake ["_law_pot_here", "_law_room"] fT fdT) (D_name : Df K mg "_law_name" sName ["_law_pot_here"] fN fdN) (D_unlike : Df K mg "_law_unlike" st_unlike ["_law_pot_here", "_law_seen"] fU fdU)
    (D_places : Df K mg "_law_places" st_places ["_law_pot_here", "_law_seen"] fPl fdPl) (D_options : Df K mg "_law_options" st_options ["_law_pot_here", "_law_seen"] fOp fdOp) (D_groups : Df K mg "_law_groups" st_groups ["_law_pot_here", "_law_options_here"] fGr fdGr)
    (m_len : mg "len" = none) (m_range : mg "range" = none) (m_int : mg "int" = none) (m_min : mg "min" = none) (m_list : mg "list" = none) : ∀ e, FnOk P w K mg base CX0 (k + 5 + e) f fd ["_law_pot_here", "_law_name_here", "_law_deep", "_law_left"] (spTree e) := by
  intro e
  induction e with
  | zero =>
    refine D_tree.F.ok sc_tree (fun vs H Q E h => ?_) (fun cdv A outer s H vs Q E hr h => ?_)
    · obtain ⟨p, lf, n, left, κ, rfl, _⟩ := h
      rfl
    · obtain ⟨p, lf, n, left, κ, rfl, _, _, _, _, _, _, _, _, h1, _⟩ := h
      omega
  | succ e G_tree =>
    have G_take : FnOk P w K mg base CX0 (k + 5 + e) fT fdT ["_law_pot_here", "_law_room"] spTake := (ok_take (k := k + 4 + e) D_take.F).mono (by omega)
    have G_unlike : FnOk P w K mg base CX0 (k + 5 + e) fU fdU ["_law_pot_here", "_law_seen"] spUnlike := (ok_unlike (k := k) D_unlike.F D_take D_name m_len m_range).mono (by omega)
    have G_places : FnOk P w K mg base CX0 (k + 5 + e) fPl fdPl ["_law_pot_here", "_law_seen"] (spNewL 4 .pls) := (ok_places (k := k) D_places.F D_take D_name D_unlike m_len m_range).mono (by omega)
    have G_options : FnOk P w K mg base CX0 (k + 5 + e) fOp fdOp ["_law_pot_here", "_law_seen"] (spNewL 4 .ops) := (ok_options (k := k) D_options.F D_take D_name D_unlike m_len m_range m_int).mono (by omega)
    have G_groups : FnOk P w K mg base CX0 (k + 5 + e) fGr fdGr ["_law_pot_here", "_law_options_here"] (spGroups 4) := (ok_groups (k := k) D_groups.F D_take m_len m_range).mono (by omega)
    show FnOk P w K mg base CX0 ((k + 5 + e) + 1) f fd ["_law_pot_here", "_law_name_here", "_law_deep", "_law_left"] (spTree (e + 1))
    refine D_tree.F.ok sc_tree (fun vs H Q E h => ?_) (fun cdv A outer s H vs Q E hr h => ?_)
    · obtain ⟨p, lf, n, left, κ, rfl, _⟩ := h
      rfl
    · obtain ⟨p, lf, n, left, κ, rfl, hp, hn, nlp, el, l0, l100, th, kl, e1, e4, hq⟩ := h
      have sl : sizeLine = 16777216 := sizeLine_eq
      have all := some_al el
      refine ⟨_, pss_cons (ps_set (i := 4) sc_tree.nd rfl (.inl rfl) (pe_lst pa_nil))
      (pss_cons (ps_set (i := 5) sc_tree.nd rfl (.inl rfl) (pe_call G_options hr (by rfl) D_options.g D_options.F.kp D_options.b .nil pass0 (pa_cons (pv 0) (pa_cons (pv 4) pa_nil))))
      (pss_cons (ps_set (i := 6) sc_tree.nd rfl (.inl rfl) (pe_ifExp (pt_cmpR op_eq (pe_call G_take hr (by rfl) D_take.g D_take.F.kp D_take.b .nil pass0 (pa_cons (pv 0) (pa_cons pe_int pa_nil))) pe_int (nomark _)) (pe_call G_places hr (by rfl) D_places.g D_places.F.kp D_places.b .nil pass0 (pa_cons (pv 0) (pa_cons (pv 4) pa_nil))) (pe_lst pa_nil)))
      (pss_cons (ps_set (i := 7) sc_tree.nd rfl (.inl rfl) (pe_lst pa_nil))
      (pss_cons (ps_set (i := 8) sc_tree.nd rfl (.inl rfl) (pe_lst pa_nil))
      (pss_cons (ps_if (PW.pt (pw_and (pt_cmpR (op_eqE hr.units) (pv 6) (pe_lst pa_nil) (nomark _)) (pw_and1 (pt_cmpR op_lt (pv 2) pe_int (nomark _))))) (pss_cons (ps_for PassesOwn.never rfl (pi_range1 rfl m_range (pa_cons (pe_callB (call_min2 rfl) (by rfl) m_min (by decide +kernel) (pa_cons (pe_ix ix_list (pv 3) pe_int (fun _ _ => rfl)) (pa_cons (pe_ix ix_list (pe_lst (pa_cons pe_int (pa_cons pe_int (pa_cons pe_int (pa_cons pe_int (pa_cons pe_int pa_nil)))))) (pe_call G_take hr (by rfl) D_take.g D_take.F.kp D_take.b .nil pass0 (pa_cons (pv 0) (pa_cons pe_int pa_nil))) (fun _ _ => rfl)) pa_nil))) pa_nil)) (pg_name (i := 9) sc_tree.nd rfl (Or.inl rfl)) (pss_cons (ps_asg (pe_op op_sub (pe_ix ix_list (pv 3) pe_int (fun _ _ => rfl)) pe_int) (pg_sub (pv 3) pe_int set_list))
      (pss_one (ps_if (PW.pt (pw_and (pt_cmpR op_lt (pv 9) (pe_callB call_len_seq (by rfl) m_len PySem.boot_len (pa_cons (pv 5) pa_nil)) (nomark _)) (pw_and (pt_cmpR op_eq (pe_call G_take hr (by rfl) D_take.g D_take.F.kp D_take.b .nil pass0 (pa_cons (pv 0) (pa_cons pe_int pa_nil))) pe_int (nomark _)) (pw_and1 (pt_cmpR op_notIn_seq (pe_ix ix_list (pe_ix ix_list (pv 5) (pv 9) (fun _ _ => rfl)) pe_int (fun _ _ => rfl)) (pv 8) (by rfl)))))) (pss_one (ps_expr (pe_bm PySem.F.plainAttrs_list PySem.F.slot_list_append PySem.F.type_list_append mt_append (pv 8) (pa_cons (pe_ix ix_list (pe_ix ix_list (pv 5) (pv 9) (fun _ _ => rfl)) pe_int (fun _ _ => rfl)) pa_nil)))) (pss_one (ps_expr (pe_call G_unlike hr (by rfl) D_unlike.g D_unlike.F.kp D_unlike.b .nil pass0 (pa_cons (pv 0) (pa_cons (pv 8) pa_nil)))))))))
      (pss_one (ps_for PassesOwn.never rfl (pi_list (pe_callTy (r := rListOf K) call_listOf (by rfl) m_list (by decide +kernel) (pa_cons (pv 8) pa_nil))) (pg_name (i := 10) sc_tree.nd rfl (Or.inl rfl)) (pss_one (ps_expr (pe_bm PySem.F.plainAttrs_list PySem.F.slot_list_append PySem.F.type_list_append mt_append (pv 7) (pa_cons (pe_call G_tree hr (by rfl) D_tree.g D_tree.F.kp D_tree.b .nil pass0 (pa_cons (pv 0) (pa_cons (pv 10) (pa_cons (pe_op op_add (pv 2) pe_int) (pa_cons (pv 3) pa_nil))))) pa_nil))))))) pss_nil)
      (pss_one (ps_ret (pe_lst (pa_cons (pv 1) (pa_cons (pv 5) (pa_cons (pv 6) (pa_cons (pe_call G_groups hr (by rfl) D_groups.g D_groups.F.kp D_groups.b .nil pass0 (pa_cons (pv 0) (pa_cons (pv 5) pa_nil))) (pa_cons (pv 7) pa_nil))))))))))))), ?_⟩
      -- names that were seen
      refine ⟨by show 0 ≤ sizeLine; decide, fun se nse => ?_⟩
      have W0 : Wy 41 4 κ H κ H p lf left := ⟨fun _ _ _ _ h => h, hp, el, Gw.refl (fun _ h => h) th⟩
      have s1 := same_upd (o := .lst []) nse
      have e1' : (upd H se (.lst [])) se = some (.lst (([] : List Str).map V.str)) := upd_same
      have W1 := W0.same s1
      have nsp : se ≠ p := (hp.ne nse).symm
      have nsl : se ≠ lf := (ne_of_none el nse).symm
      revert s1 e1' W1
      generalize upd H se (.lst []) = H1
      intro s1 e1' W1
      -- options
      refine ⟨.ref p, rfl, .ref se, rfl, p, se, [], κ, rfl, W1.p, nsp, e1', by decide, W1.g.th, th.fresh nse, fun H2 lo κ2 sn2 b2 p2 es2 ls2 g2 k2 n2 => ?_⟩
      have W2 := W1.step (g2.mono (by decide)) b2 p2 nse nlp all
      have kse2 : κ2 se = .no := by rw [g2.k se (some_al e1')]; exact th.fresh nse
      have nlo : H lo = none := fresh_of s1 n2
      -- places
      dsimp only [tSeq, tAsg, tC, gName]
      refine ev_gen (t := tIf _ _ _) (fun v H' => ∃ (lp : Addr) (κ3 : Addr → Rl) (xs : List Addr), v = .ref lp ∧ Wy 41 4 κ H κ3 H' p lf left ∧ Gw 41 4 κ2 H2 κ3 H' ∧ κ3 lp = .pls ∧ H lp = none ∧ H' lp = some (.lst (xs.map V.ref))) (fun R c => ?_) ?_
      · refine ⟨.ref p, rfl, p, 3, rfl, p2, by decide, by decide, fun H3 d3 b3 p3 d30 d31 => ⟨rfl, _, rfl, ite2 (fun ee => ?_) (fun ee => ?_)⟩⟩
        · have W3 := W2.but b3 p3 nlp
          have g3 : Gw 1000 4 κ2 H2 κ2 H3 := Gw.refl (but2_al (q := p) (But2.of b3) p3.al p3.al) W3.g.th
          refine ⟨.ref p, rfl, .ref se, rfl, p, se, sn2, κ2, rfl, p3, nsp, b3 _ _ nsp es2, by have : ([] : List Str).length = 0 := rfl; omega, W3.g.th, kse2, fun H4 lp κ4 sn4 b4 p4 es4 ls4 g4 k4 n4 => ?_⟩
          have hk4 := g4.th lp
          rw [k4] at hk4
          obtain ⟨xs, exs, _⟩ := hk4
          exact c _ _ ⟨lp, κ4, xs, rfl, W3.step (g4.mono (by decide)) b4 p4 nse nlp all, (g3.trans g4).mono (by decide), k4, W3.fresh n4, exs⟩
        · refine ⟨by show 0 ≤ sizeLine; decide, fun lp n4 => ?_⟩
          have W3 := W2.but b3 p3 nlp
          have n4H := W3.fresh n4
          have W4 := W3.same (same_upd (o := .lst []) n4)
          have al4 : ∀ b, H2 b ≠ none → (upd H3 lp (.lst [])) b ≠ none := fun b hb => by
            have h3 := but2_al (q := p) (But2.of b3) p3.al p3.al b hb
            cases e : H3 b with
            | none => exact absurd e h3
            | some o => exact some_al (same_upd n4 _ _ e)
          have th4 : TH 4 (put κ2 lp .pls) (upd H3 lp (.lst [])) := W4.g.th.put (W3.g.th.fresh n4) ⟨[], upd_same, by decide, fun x hx => by cases hx⟩
          have g4 : Gw 41 4 κ2 H2 (put κ2 lp .pls) (upd H3 lp (.lst [])) := ⟨fun b hb => put_ne (fun z => by
              have h3 := but2_al (q := p) (But2.of b3) p3.al p3.al b hb
              rw [z] at h3
              exact h3 n4), al4, th4, fun b r u e => .inl (by
              by_cases z : b = lp
              · rw [z, put_same] at e
                cases e
              · rw [put_ne z] at e
                exact e)⟩
          exact c _ _ ⟨lp, _, [], rfl, ⟨W4.b, W4.p, W4.l, W2.g.trans g4⟩, g4, put_same, n4H, upd_same⟩
      rintro _ H3 ⟨lp, κ3, xp, rfl, W3, g3, k3, n3H, e3⟩
      have ko3 : κ3 lo = .ops := g3.rl W2.g.th k2 (by simp)
      -- lists for what is below
      refine ⟨by show 0 ≤ sizeLine; decide, fun lb nb => ?_⟩
      have nbH := W3.fresh nb
      have s4 := same_upd (o := .lst []) nb
      have eb4 : (upd H3 lb (.lst [])) lb = some (.lst (([] : List Addr).map V.ref)) := upd_same
      have W4 := W3.same s4
      have kb4 := W3.g.th.fresh nb
      have nbp : lb ≠ p := (W3.p.ne nb).symm
      have nbl : lb ≠ lf := (ne_of_none W3.l nb).symm
      revert s4 eb4 W4
      generalize upd H3 lb (.lst []) = H4
      intro s4 eb4 W4
      refine ⟨by show 0 ≤ sizeLine; decide, fun ln nn => ?_⟩
      have nnH := W4.fresh nn
      have s5 := same_upd (o := .lst []) nn
      have en5 : (upd H4 ln (.lst [])) ln = some (.lst (([] : List Str).map V.str)) := upd_same
      have W5 := W4.same s5
      have kn5 := W4.g.th.fresh nn
      have nnp : ln ≠ p := (W4.p.ne nn).symm
      have nnl : ln ≠ lf := (ne_of_none W4.l nn).symm
      have nnb : ln ≠ lb := (ne_of_none eb4 nn).symm
      have eb5 := same_upd (o := .lst []) nn _ _ eb4
      have e5 := same_upd (o := .lst []) nn _ _ (s4 _ _ e3)
      revert s5 en5 W5 eb5 e5
      generalize upd H4 ln (.lst []) = H5
      intro s5 en5 W5 eb5 e5
      -- the state behind the test
      refine ts_gen (t := tIfS _ _ _) (fun σ' H' => ∃ (κ6 : Addr → Rl) (left' : Int) (xb : List Addr) (ws : List Nat) (x9 x10 : Option V), Wy 41 4 κ H κ6 H' p lf left' ∧ 0 ≤ left' ∧ left' ≤ left ∧ κ6 lo = .ops ∧ κ6 lp = .pls ∧ κ6 lb = .no ∧ H' lb = some (.lst (xb.map V.ref)) ∧ xb.length ≤ 8 ∧ (All2 (fun x u => κ6 x = .node (e + 40) u) xb ws ∧ (ws.sum : Int) ≤ 5 * (left - left')) ∧ σ' = [some (.ref p), some (.str n), some (.int (5 - ((e + 1 : Nat) : Int))), some (.ref lf), some (.ref se), some (.ref lo), some (.ref lp), some (.ref lb), some (.ref ln), x9, x10]) (fun κ' c => ?_) ?_
      · have ex : ∀ {Hx : Hp}, Wy 41 4 κ H κ3 Hx p lf left → Hx lb = some (.lst (([] : List Addr).map V.ref)) → κ'.nx [some (.ref p), some (.str n), some (.int (5 - ((e + 1 : Nat) : Int))), some (.ref lf), some (.ref se), some (.ref lo), some (.ref lp), some (.ref lb), some (.ref ln), none, none] Hx := fun {Hx} wx ex => c _ _ ⟨κ3, left, [], [], none, none, wx, l0, Int.le_refl _, ko3, k3, kb4, ex, by decide, ⟨All2.nil, by show (0 : Int) ≤ _; omega⟩, rfl⟩
        refine ⟨.ref lp, rfl, by show 0 ≤ sizeLine; decide, fun q0 m0 => ⟨lp, q0, _, rfl, rfl, same_upd m0 _ _ e5, upd_same, _, rfl, ite2 (fun ee => ?_) (fun ee => ?_)⟩⟩
        · have s6 := same_upd (o := .lst []) m0
          have W6 := W5.same s6
          have eb6 := s6 _ _ eb5
          have en6 := s6 _ _ en5
          revert s6 W6 eb6 en6
          generalize upd H5 q0 (.lst []) = H6
          intro s6 W6 eb6 en6
          refine ⟨.int (5 - ((e + 1 : Nat) : Int)), rfl, _, _, rfl, rfl, _, rfl, ite2 (fun e2 => ?_) (fun e2 => ?_)⟩
          · have dp : 5 - ((e + 1 : Nat) : Int) < 4 := of_decide_eq_true e2
            refine ⟨.ref lf, rfl, lf, _, 0, .int left, rfl, rfl, SqL.of W6.l, rfl, by show 5 ≤ sizeLine; decide, fun l7 n7 => ?_⟩
            refine goT n7 fun H7 s7 e7 => ?_
            have W7 := W6.same s7
            have n7p : l7 ≠ p := (W6.p.ne n7).symm
            refine ⟨.ref p, rfl, p, 5, rfl, W7.p, by decide, by decide, fun H8 d8 b8 p8 d80 d81 => ?_⟩
            obtain ⟨m, hm, m0', m8⟩ : ∃ m : Int, atI [V.int 0, .int 1, .int 2, .int 3, .int 8] d8 = some (.int m) ∧ 0 ≤ m ∧ m ≤ 8 := by
              obtain ⟨n, rfl⟩ := Int.eq_ofNat_of_zero_le d80
              have hn : n < 5 := by omega
              match n, hn with
              | 0, _ => exact ⟨0, rfl, by omega, by omega⟩
              | 1, _ => exact ⟨1, rfl, by omega, by omega⟩
              | 2, _ => exact ⟨2, rfl, by omega, by omega⟩
              | 3, _ => exact ⟨3, rfl, by omega, by omega⟩
              | 4, _ => exact ⟨8, rfl, by omega, by omega⟩
            have W8 := W7.but b8 p8 nlp
            have eb8 := b8 _ _ nbp (s7 _ _ eb6)
            have en8 := b8 _ _ nnp (s7 _ _ en6)
            obtain ⟨M, hM, M0, M8, Ml⟩ : ∃ M : Int, (if m < left then m else left) = M ∧ 0 ≤ M ∧ M ≤ 8 ∧ M ≤ left := by
              by_cases z : m < left
              · exact ⟨m, if_pos z, m0', m8, by omega⟩
              · exact ⟨left, if_neg z, l0, by omega, by omega⟩
            have kl3 : κ3 lf = .no := by rw [W8.g.k lf all]; exact kl
            refine ⟨l7, _, d8, .int m, rfl, rfl, SqL.of (b8 _ _ n7p e7), hm, left, m, rfl, ?_⟩
            rw [hM]
            refine ⟨M, rfl, by omega, by omega, for_range (lo := 0) (n := M.toNat) (fun i σ Hc => (∃ ns : List Str, Wy 41 4 κ H κ3 Hc p lf (left - (i : Int)) ∧ Hc ln = some (.lst (ns.map V.str)) ∧ ns.length = i ∧ (∀ y ∈ ns, nm (tl y) = true) ∧ Hc lb = some (.lst (([] : List Addr).map V.ref))) ∧ ∃ x9, σ = [some (.ref p), some (.str n), some (.int (5 - ((e + 1 : Nat) : Int))), some (.ref lf), some (.ref se), some (.ref lo), some (.ref lp), some (.ref lb), some (.ref ln), x9, none])
              ⟨⟨[], by rw [show left - ((0 : Nat) : Int) = left from by omega]; exact W8, en8, rfl, (fun y hy => by cases hy), eb8⟩, none, rfl⟩ ?_ ?_⟩
            · rintro i σ Hc hi ⟨⟨ns, Wc, en, lns, hns, eb⟩, x9, rfl⟩
              refine ⟨.ref lf, rfl, lf, _, 0, .int (left - (i : Int)), rfl, rfl, SqL.of Wc.l, rfl, _, _, rfl, rfl, .ref lf, rfl, lf, _, 0, 0, rfl, rfl, Wc.l, rfl, ?_⟩
              show _
              rw [show List.set [V.int (left - (i : Int))] 0 (V.int (left - (i : Int) - 1)) = [V.int (left - ((i + 1 : Nat) : Int))] from by rw [show left - (i : Int) - 1 = left - ((i + 1 : Nat) : Int) from by omega]; rfl]
              have Wd := Wc.lft kl3 nlp (left - ((i + 1 : Nat) : Int))
              have ed : (upd Hc lf (.lst [.int (left - ((i + 1 : Nat) : Int))])) ln = some (.lst (ns.map V.str)) := by rw [upd_ne nnl]; exact en
              have ebd : (upd Hc lf (.lst [.int (left - ((i + 1 : Nat) : Int))])) lb = some (.lst (([] : List Addr).map V.ref)) := by rw [upd_ne nbl]; exact eb
              revert Wd ed ebd
              generalize upd Hc lf (.lst [.int (left - ((i + 1 : Nat) : Int))]) = Hd
              intro Wd ed ebd
              -- a name that is drawn
              have oth : ∀ {Hx : Hp}, Wy 41 4 κ H κ3 Hx p lf (left - ((i + 1 : Nat) : Int)) → Hx ln = some (.lst (ns.map V.str)) → Hx lb = some (.lst (([] : List Addr).map V.ref)) → spUnlike [.ref p, .ref ln] Hx (fun _ H2 => (∃ ns : List Str, Wy 41 4 κ H κ3 H2 p lf (left - ((i + 1 : Nat) : Int)) ∧ H2 ln = some (.lst (ns.map V.str)) ∧ ns.length = i + 1 ∧ (∀ y ∈ ns, nm (tl y) = true) ∧ H2 lb = some (.lst (([] : List Addr).map V.ref))) ∧ ∃ y9, [some (V.ref p), some (.str n), some (.int (5 - ((e + 1 : Nat) : Int))), some (.ref lf), some (.ref se), some (.ref lo), some (.ref lp), some (.ref lb), some (.ref ln), some (.int (0 + (i : Int))), none] = [some (.ref p), some (.str n), some (.int (5 - ((e + 1 : Nat) : Int))), some (.ref lf), some (.ref se), some (.ref lo), some (.ref lp), some (.ref lb), some (.ref ln), y9, none]) E0 := fun {Hx} Wx ex ebx =>
                ⟨p, ln, ns, rfl, Wx.p, nnp, ex, by omega, fun H2 y b2 p2 e2 hy => ⟨⟨ns ++ [y], Wx.but2 b2 p2 (some_al e2) nnH kn5 nlp all, e2, by rw [List.length_append, lns]; rfl, fun z hz => (List.mem_append.mp hz).elim (hns z) (fun h => by rw [List.mem_singleton.mp h]; exact hy), b2 _ _ nbp nnb.symm ebx⟩, _, rfl⟩⟩
              obtain ⟨xo, os, eo, lno, ho, _⟩ := ops_of Wd.g.th ko3
              refine ⟨.int (0 + (i : Int)), rfl, .ref lo, rfl, lo, _, rfl, .inl (SqL.of eo), _, _, rfl, rfl, _, rfl, ite2 (fun ek => ?_) (fun ek => ?_)⟩
              · have ek' : (0 + (i : Int)) < (((xo.map V.ref).length : Nat) : Int) := of_decide_eq_true ek
                rw [List.length_map] at ek'
                refine ⟨.ref p, rfl, p, 3, rfl, Wd.p, by decide, by decide, fun Hf df bf pf df0 df1 => ⟨rfl, _, rfl, ite2 (fun ez => ?_) (fun ez => ?_)⟩⟩
                · have Wf := Wd.but bf pf nlp
                  have ef := bf _ _ nnp ed
                  have ebf := bf _ _ nbp ebd
                  obtain ⟨xo, os', eo', _, ho', _⟩ := ops_of Wf.g.th ko3
                  have lo_p : lo ≠ p := fun z => by
                    have := Wf.g.th.pot Wf.p
                    rw [← z, ko3] at this
                    cases this
                  have exo := bf _ _ lo_p eo
                  rw [eo'] at exo
                  have hlen : (xo.map V.ref).length = os.length := by rw [HO.lst.inj (Option.some.inj exo), List.length_map]; exact ho.1
                  rw [List.length_map] at hlen
                  have hi' : i < xo.length := by rw [hlen, ← ho.1]; omega
                  obtain ⟨o, _, ea, ok⟩ := ho'.2 i xo[i] (List.getElem?_eq_getElem hi')
                  have hat : atI (xo.map V.ref) (0 + (i : Int)) = some (.ref xo[i]) := by
                    rw [show (0 + (i : Int)) = ((i : Nat) : Int) from by omega]
                    exact atI_nat (by rw [List.getElem?_map, List.getElem?_eq_getElem hi']; rfl)
                  refine ⟨.ref lo, rfl, .int (0 + (i : Int)), rfl, lo, _, _, .ref xo[i], rfl, rfl, SqL.of eo', hat, xo[i], _, 0, .str o.long, rfl, rfl, SqL.of ea, rfl, .ref ln, rfl, ln, _, rfl, .inl (SqL.of ef), rfl, flat_strs ns, _, rfl, ite2 (fun en' => ?_) (fun en' => ?_)⟩
                  · refine ⟨.ref ln, rfl, Or.inl ⟨rfl, _, SqL.of ef⟩, .ref lo, rfl, .int (0 + (i : Int)), rfl, lo, _, _, .ref xo[i], rfl, rfl, SqL.of eo', hat, xo[i], _, 0, .str o.long, rfl, rfl, SqL.of ea, rfl, ln, _, _, rfl, rfl, ef, by rw [List.length_map]; omega, ⟨ns ++ [o.long], Wf.set nnH (some_al ef) kn5 nnp nnl, ?_, by rw [List.length_append, lns]; rfl, fun z hz => (List.mem_append.mp hz).elim (hns z) (fun h => by rw [List.mem_singleton.mp h]; exact ok.long), ?_⟩, _, rfl⟩
                    · rw [upd_same, List.map_append]
                      rfl
                    · rw [upd_ne nnb.symm]
                      exact ebf
                  · refine ⟨.ref p, rfl, .ref ln, rfl, ?_⟩
                    exact oth Wf ef ebf
                · refine ⟨.ref p, rfl, .ref ln, rfl, ?_⟩
                  exact oth (Wd.but bf pf nlp) (bf _ _ nnp ed) (bf _ _ nbp ebd)
              · refine ⟨.ref p, rfl, .ref ln, rfl, ?_⟩
                exact oth Wd ed ebd
            · rintro σ Hc ⟨⟨ns, Wc, en, lns, hns, eb⟩, x9, rfl⟩
              refine ⟨.ref ln, rfl, ln, _, rfl, .inl (SqL.of en), fun l9 n9 => ?_⟩
              have n9H := Wc.fresh n9
              have s9 := same_upd (o := .lst (ns.map V.str)) n9
              have W9 := Wc.same s9
              have e9 : (upd Hc l9 (.lst (ns.map V.str))) l9 = some (.lst (ns.map V.str)) := upd_same
              have eb9 := s9 _ _ eb
              have k9 := Wc.g.th.fresh n9
              have n9p : l9 ≠ p := (Wc.p.ne n9).symm
              have n9l : l9 ≠ lf := (ne_of_none Wc.l n9).symm
              have n9b : l9 ≠ lb := (ne_of_none eb n9).symm
              revert s9 W9 e9 eb9
              generalize upd Hc l9 (.lst (ns.map V.str)) = H9
              intro s9 W9 e9 eb9
              refine ⟨l9, rfl, ⟨_, SqL.of e9⟩, ?_⟩
              refine for_list (K := K) (a := l9) (xs := ns.map V.str) (fun j σ Hd => (∃ (κd : Addr → Rl) (leftd : Int) (xb : List Addr) (ws : List Nat), Wy 41 4 κ H κd Hd p lf leftd ∧ 0 ≤ leftd ∧ leftd ≤ left ∧ κd lo = .ops ∧ κd lp = .pls ∧ κd lb = .no ∧ Hd lb = some (.lst (xb.map V.ref)) ∧ xb.length = j ∧ (All2 (fun x u => κd x = .node (e + 40) u) xb ws ∧ (ws.sum : Int) ≤ 5 * (left - (M.toNat : Int) - leftd + j)) ∧ Hd l9 = some (.lst (ns.map V.str))) ∧ ∃ x10, σ = [some (.ref p), some (.str n), some (.int (5 - ((e + 1 : Nat) : Int))), some (.ref lf), some (.ref se), some (.ref lo), some (.ref lp), some (.ref lb), some (.ref ln), x9, x10])
                ⟨⟨κ3, _, [], [], W9, by omega, by omega, ko3, k3, kb4, eb9, rfl, ⟨All2.nil, by show (0 : Int) ≤ _; omega⟩, e9⟩, none, rfl⟩ (fun j σ Hd _ h => by obtain ⟨⟨_, _, _, _, _, _, _, _, _, _, _, _, _, h9⟩, _⟩ := h; exact SqL.of h9) ?_ ?_
              · rintro j v σ Hd hv ⟨⟨κd, leftd, xb, ws, Wd, ld0, ld1, kod, kpd, kbd, ebd, lxb, ⟨hxb, sws⟩, e9d⟩, x10, rfl⟩
                rw [List.getElem?_map] at hv
                obtain ⟨y, hy, rfl⟩ := Option.map_eq_some_iff.mp hv
                have hj : j < ns.length := (List.getElem?_eq_some_iff.mp hy).1
                have kld : κd lf = .no := by rw [Wd.g.k lf all]; exact kl
                refine ⟨.ref lb, rfl, Or.inl ⟨rfl, _, SqL.of ebd⟩, .ref p, rfl, .str y, rfl, .int (5 - ((e + 1 : Nat) : Int)), rfl, _, _, rfl, rfl, .ref lf, rfl, p, lf, y, leftd, κd, by show [V.ref p, V.str y, V.int ((5 - ((e + 1 : Nat) : Int)) + 1), V.ref lf] = _; rw [show (5 - ((e + 1 : Nat) : Int)) + 1 = 5 - (e : Int) from by omega], Wd.p, hns y (List.mem_of_getElem? hy), nlp, Wd.l, ld0, by omega, Wd.g.th, kld, by omega, by omega, fun Hf a κf leftf Wf lf0 lf1 wa ka hwa na => ?_⟩
                have ebf := Wf.b _ _ nbp nbl ebd
                have e9f := Wf.b _ _ n9p n9l e9d
                have kbf : κf lb = .no := by rw [Wf.g.k lb (some_al ebd)]; exact kbd
                refine ⟨lb, _, _, rfl, rfl, ebf, by rw [List.length_map]; omega, ⟨κf, leftf, xb ++ [a], ws ++ [wa], (Wd.tr Wf).set nbH (some_al ebf) kbf nbp nbl, lf0, by omega, Wf.g.rl Wd.g.th kod (by simp), Wf.g.rl Wd.g.th kpd (by simp), kbf, ?_, by rw [List.length_append, lxb]; rfl, ⟨(hxb.mono fun x u h => Wf.g.rl Wd.g.th h (by simp)).snoc ka, ?_⟩, ?_⟩, _, rfl⟩
                · rw [upd_same, List.map_append]
                  rfl
                · rw [List.sum_append]
                  have : ([wa] : List Nat).sum = wa := by simp
                  rw [this]
                  omega
                · rw [upd_ne n9b]
                  exact e9f
              · rintro σ Hd ⟨⟨κd, leftd, xb, ws, Wd, ld0, ld1, kod, kpd, kbd, ebd, lxb, ⟨hxb, sws⟩, e9d⟩, x10, rfl⟩
                rw [List.length_map] at lxb sws
                rw [lns] at lxb sws
                exact c _ _ ⟨κd, leftd, xb, ws, _, _, Wd, ld0, ld1, kod, kpd, kbd, ebd, by omega, ⟨hxb, by omega⟩, rfl⟩
          · exact ex W6 eb6
        · exact ex (W5.same (same_upd m0)) (same_upd m0 _ _ eb5)
      · rintro σ6 H6 ⟨κ6, left6, xb, ws, x9, x10, W6, l60, l61, ko6, kp6, kb6, eb6, lxb, ⟨hxb, sws⟩, rfl⟩
        refine ⟨_, rfl, _, rfl, _, rfl, .ref p, rfl, .ref lo, rfl, p, lo, κ6, rfl, W6.p, W6.g.th, ko6, fun H7 lg κ7 b7 p7 g7 k7 n7 => ⟨.ref lb, rfl, by show 5 ≤ sizeLine; decide, fun a na => ?_⟩⟩
        have W7 : Wy 41 4 κ H κ7 H7 p lf left6 := ⟨W6.b.trans (But2.of b7), p7, b7 _ _ nlp W6.l, W6.g.trans (g7.mono (by decide))⟩
        have W8 := W7.same (same_upd (o := .lst [.str n, .ref lo, .ref lp, .ref lg, .ref lb]) na)
        have eb7 := b7 _ _ nbp eb6
        have kb7 : κ7 lb = .no := by rw [g7.k lb (some_al eb6)]; exact kb6
        have ka7 : κ7 a = .no := g7.th.fresh na
        have nab : a ≠ lb := (ne_of_none eb7 na).symm
        have naH := W7.fresh na
        have hxb7 : All2 (fun x u => κ7 x = .node (e + 40) u) xb ws := hxb.mono fun x u h => g7.rl W6.g.th h (by simp)
        have thb : TH 4 (put κ7 lb (.bel (e + 40) (ws.sum + 4))) (upd H7 a (.lst [.str n, .ref lo, .ref lp, .ref lg, .ref lb])) := W8.g.th.put kb7 ⟨xb, ws, by rw [upd_ne nab.symm]; exact eb7, lxb, hxb7, Nat.le_refl _⟩
        have nb' : ∀ {c : Addr} {r : Rl}, κ7 c = r → r ≠ .no → c ≠ lb := fun {c r} h1 h2 z => h2 (by rw [← h1, z]; exact kb7)
        have ko7 := g7.rl W6.g.th ko6 (by simp)
        have kp7 := g7.rl W6.g.th kp6 (by simp)
        have tha : TH 4 (put (put κ7 lb (.bel (e + 40) (ws.sum + 4))) a (.node (e + 1 + 40) (ws.sum + 4 + 1))) (upd H7 a (.lst [.str n, .ref lo, .ref lp, .ref lg, .ref lb])) := thb.put (by rw [put_ne nab]; exact ka7) ⟨n, lo, lp, lg, lb, e + 40, ws.sum + 4, ⟨by omega, rfl⟩, upd_same, hn, by rw [put_ne (nb' ko7 (by simp))]; exact ko7, by rw [put_ne (nb' kp7 (by simp))]; exact kp7, by rw [put_ne (nb' k7 (by simp))]; exact k7, put_same⟩
        refine hq _ a _ left6 ⟨W8.b, W8.p, W8.l, fun c hc => ?_, W8.g.al, tha, fun c r u ec => ?_⟩ l60 l61 _ put_same (by omega) naH
        · have n1 : c ≠ a := fun z => hc (by rw [z]; exact naH)
          have n2 : c ≠ lb := fun z => hc (by rw [z]; exact nbH)
          rw [put_ne n1, put_ne n2]
          exact W7.g.k c hc
        · by_cases z1 : c = a
          · rw [z1, put_same] at ec
            cases ec
            exact .inr (by omega)
          · rw [put_ne z1] at ec
            by_cases z2 : c = lb
            · rw [z2, put_same] at ec
              cases ec
            · rw [put_ne z2] at ec
              exact W7.g.nd c r u ec
end
end WB

set_option Elab.async false
set_option linter.all false
set_option maxRecDepth 100000
set_option maxHeartbeats 4000000
namespace WB
open PySem PySem.Spec PyProof.Rows L2 WG
open TL (tl)
abbrev st_all : Stmt := topS 70
theorem sc_all : FnScope ["_law_tree_here", "_law_found", "_law_below"] ["_law_tree_here"] (defScope st_all) := ⟨rfl, rfl, rfl, by decide +kernel, rfl, by decide +kernel, by decide +kernel⟩
abbrev st_pair : Stmt := topS 71
theorem sc_pair : FnScope ["_law_pot_here", "_law_many", "_law_one"] ["_law_pot_here", "_law_many"] (defScope st_pair) := ⟨rfl, rfl, rfl, by decide +kernel, rfl, by decide +kernel, by decide +kernel⟩
abbrev st_spoilt_list : Stmt := topS 72
theorem sc_spoilt_list : FnScope ["_law_pot_here", "_law_things", "_law_at_here", "_law_one", "_law_other"] ["_law_pot_here", "_law_things", "_law_at_here"] (defScope st_spoilt_list) := ⟨rfl, rfl, rfl, by decide +kernel, rfl, by decide +kernel, by decide +kernel⟩
theorem TH.weak {ϕ ϕ' : Nat} {κ : Addr → Rl} {H : Hp} (h : TH ϕ κ H) (l : ϕ' ≤ ϕ) : TH ϕ' κ H := fun a => by
  have ha := h a
  cases e : κ a with
  | bel r w =>
    rw [e] at ha
    obtain ⟨xs, ws, h1, h2, h3, h4⟩ := ha
    exact ⟨xs, ws, h1, h2, h3, by omega⟩
  | no => trivial
  | node r w => rw [e] at ha; exact ha
  | ops => rw [e] at ha; exact ha
  | op => rw [e] at ha; exact ha
  | pls => rw [e] at ha; exact ha
  | pl => rw [e] at ha; exact ha
  | grs => rw [e] at ha; exact ha
  | gr => rw [e] at ha; exact ha
theorem TH.same {ϕ : Nat} {κ : Addr → Rl} {H H' : Hp} (h : TH ϕ κ H) (s : Same H H') : TH ϕ κ H' := h.keep fun b o _ e => s b o e
/-- a node, opened -/
theorem TH.nd {ϕ : Nat} {κ : Addr → Rl} {H : Hp} {a : Addr} {r w : Nat} (h : TH ϕ κ H) (k : κ a = .node r w) : ∃ (n : Str) (ao ap ag ab : Addr) (r' w' : Nat) (xb : List Addr) (ws : List Nat), (r = r' + 1 ∧ w = w' + 1) ∧ H a = some (.lst [.str n, .ref ao, .ref ap, .ref ag, .ref ab]) ∧ nm (tl n) = true ∧ κ ao = .ops ∧ κ ap = .pls ∧ κ ag = .grs ∧ κ ab = .bel r' w' ∧
    H ab = some (.lst (xb.map V.ref)) ∧ xb.length ≤ 8 ∧ All2 (fun x u => κ x = .node r' u) xb ws ∧ ws.sum + ϕ ≤ w' := by
  have ha := h a
  rw [k] at ha
  obtain ⟨n, ao, ap, ag, ab, r', w', h1, h2, h3, h4, h5, h6, h7⟩ := ha
  have hb := h ab
  rw [h7] at hb
  obtain ⟨xb, ws, b1, b2, b3, b4⟩ := hb
  exact ⟨n, ao, ap, ag, ab, r', w', xb, ws, h1, h2, h3, h4, h5, h6, h7, b1, b2, b3, b4⟩
theorem refs_inj : ∀ {xs ys : List Addr}, xs.map V.ref = ys.map V.ref → xs = ys
  | [], [], _ => rfl
  | [], _ :: _, h => by cases h
  | _ :: _, [], h => by cases h
  | x :: r, y :: t, h => by
    have h' := List.cons.inj h
    rw [V.ref.inj h'.1, refs_inj h'.2]
/-- what a change of the tree leaves -/
structure Spo (m ϕ : Nat) (κ : Addr → Rl) (H : Hp) (κ' : Addr → Rl) (H' : Hp) (p : Addr) : Prop where
  fr : ∀ b o, κ b = .no → b ≠ p → H b = some o → H' b = some o
  p : Pot H' p
  g : Gw m ϕ κ H κ' H'
theorem sum_take {ws : List Nat} {i u : Nat} (h : ws[i]? = some u) : (ws.take (i + 1)).sum = (ws.take i).sum + u := by
  rw [List.take_add_one, h, List.sum_append]
  simp
theorem sum_take_le (ws : List Nat) (i : Nat) : (ws.take i).sum ≤ ws.sum := by
  have := List.sum_append (l₁ := ws.take i) (l₂ := ws.drop i)
  rw [List.take_append_drop] at this
  omega
section
variable {P : Program} {w : World} {K : PySem.W.Frag} {mg : Str → Option Value} {base : Heap}
def spAll (r : Nat) : Sp := fun vs H Q _ => ∃ (a : Addr) (κ : Addr → Rl) (ϕ u : Nat), vs = [.ref a] ∧ TH ϕ κ H ∧ κ a = .node r u ∧ u ≤ 5000 ∧ ∀ H' l (xs : List Addr), Same H H' → H l = none → H' l = some (.lst (xs.map V.ref)) → 0 < xs.length → xs.length ≤ u → (∀ x ∈ xs, ∃ s v, κ x = .node s v ∧ s ≤ r ∧ v ≤ u) → Q (.ref l) H'
theorem ok_all {f : Addr} {fd : FuncData} {k : Nat} (D_all : Df K mg "_law_all" st_all ["_law_tree_here"] f fd) : ∀ r, FnOk P w K mg base CX0 (k + r) f fd ["_law_tree_here"] (spAll r) := by
  intro r
  induction r with
  | zero =>
    refine ⟨fun vs H Q E h => ?_, fun A outer s H ar us vs Q E hr he hb hv h => ?_⟩
    · obtain ⟨a, κ, ϕ, u, rfl, _⟩ := h
      rfl
    · obtain ⟨a, κ, ϕ, u, rfl, th, k, _⟩ := h
      obtain ⟨_, _, _, _, _, _, _, _, _, ⟨h1, _⟩, _⟩ := th.nd k
      omega
  | succ r G_all =>
    show FnOk P w K mg base CX0 ((k + r) + 1) f fd ["_law_tree_here"] (spAll (r + 1))
    refine D_all.F.ok sc_all (fun vs H Q E h => ?_) (fun cdv A outer s H vs Q E hr h => ?_)
    · obtain ⟨a, κ, ϕ, u, rfl, _⟩ := h
      rfl
    · obtain ⟨a, κ, ϕ, u, rfl, th, ka, lu, q⟩ := h
      have sl : sizeLine = 16777216 := sizeLine_eq
      obtain ⟨n, ao, ap, ag, ab, r', u', xb, ws, ⟨hr1, hu1⟩, ea, _, _, _, _, _, eb, lb, hb, sb⟩ := th.nd ka
      have hr2 : r' = r := by omega
      rw [hr2] at hb
      refine ⟨_, pss_cons (ps_set (i := 1) sc_all.nd rfl (.inl rfl) (pe_lst (pa_cons (pv 0) pa_nil)))
      (pss_cons (ps_for PassesOwn.never rfl (pi_list (pe_ix ix_list (pv 0) pe_int (fun _ _ => rfl))) (pg_name (i := 2) sc_all.nd rfl (Or.inl rfl)) (pss_one (ps_set (i := 1) sc_all.nd rfl (.inl rfl) (pe_op op_cat (pv 1) (pe_call G_all hr (by rfl) D_all.g D_all.F.kp D_all.b .nil pass0 (pa_cons (pv 2) pa_nil))))))
      (pss_one (ps_ret (pv 1)))), ?_⟩
      refine ⟨.ref a, rfl, by show 1 ≤ sizeLine; decide, fun l1 n1 => ?_⟩
      have s1 := same_upd (o := .lst [.ref a]) n1
      have e1 : (upd H l1 (.lst [.ref a])) l1 = some (.lst (([a] : List Addr).map V.ref)) := upd_same
      revert s1 e1
      generalize upd H l1 (.lst [.ref a]) = H1
      intro s1 e1
      refine ⟨.ref a, rfl, a, _, 4, .ref ab, rfl, rfl, SqL.of (s1 _ _ ea), rfl, ab, rfl, ⟨_, SqL.of (s1 _ _ eb)⟩, ?_⟩
      refine for_list (K := K) (a := ab) (xs := xb.map V.ref) (fun i σ Hc => Same H Hc ∧ ∃ (l : Addr) (xs : List Addr) (x2 : Option V), H l = none ∧ Hc l = some (.lst (xs.map V.ref)) ∧ 0 < xs.length ∧ xs.length ≤ 1 + (ws.take i).sum ∧ (∀ x ∈ xs, ∃ s v, κ x = .node s v ∧ s ≤ r + 1 ∧ v ≤ u) ∧ σ = [some (.ref a), some (.ref l), x2])
        ⟨s1, l1, [a], none, n1, e1, by show 0 < 1; decide, Nat.le_add_right 1 _, fun x hx => by rw [List.mem_singleton.mp hx]; exact ⟨_, _, ka, Nat.le_refl _, Nat.le_refl _⟩, rfl⟩ (fun i σ Hc _ h => SqL.of (h.1 _ _ eb)) ?_ ?_
      · rintro i v σ Hc hv ⟨sc, l, xs, x2, nl, el, lx0, lx, hx, rfl⟩
        rw [List.getElem?_map] at hv
        obtain ⟨c, hc, rfl⟩ := Option.map_eq_some_iff.mp hv
        obtain ⟨uc, huc, kc⟩ := hb.2 i c hc
        have t1 := sum_take huc
        have t2 := sum_take_le ws (i + 1)
        refine ⟨.ref l, rfl, .ref c, rfl, c, κ, ϕ, uc, rfl, th.same sc, kc, by omega, fun H2 l2 ys s2 n2 e2 ly0 ly hy => ?_⟩
        refine ⟨l, l2, _, _, rfl, rfl, s2 _ _ el, e2, by rw [List.length_map, List.length_map]; omega, fun l3 n3 => ?_⟩
        have S2 := sc.trans s2
        refine ⟨S2.trans (same_upd n3), l3, xs ++ ys, _, fresh_of S2 n3, ?_, by rw [List.length_append]; omega, by rw [List.length_append, t1]; omega, fun x hx' => (List.mem_append.mp hx').elim (hx x) (fun h => by
          obtain ⟨s, v, h1, h2, h3⟩ := hy x h
          exact ⟨s, v, h1, by omega, by omega⟩), rfl⟩
        rw [upd_same, List.map_append]
      · rintro σ Hc ⟨sc, l, xs, x2, nl, el, lx0, lx, hx, rfl⟩
        have t2 := sum_take_le ws (xb.map V.ref).length
        exact ⟨_, rfl, q _ l xs sc nl el lx0 (by omega) hx⟩
def spPair : Sp := fun vs H Q _ => ∃ (p : Addr) (m : Int), vs = [.ref p, .int m] ∧ Pot H p ∧ 2 ≤ m ∧ m ≤ 1000 ∧ ∀ H' t (i j : Int), But p H H' → Pot H' p → H' t = some (.tup [.int i, .int j]) → 0 ≤ i → i < m → 0 ≤ j → j < m → Q (.ref t) H'
theorem ok_pair {f fT : Addr} {fd fdT : FuncData} {k : Nat} (F : Fun K "_law_pair" "_law_pair" st_pair f fd) (D_take : Df K mg "_law_take" sTake ["_law_pot_here", "_law_room"] fT fdT) (m_max : mg "max" = none) : FnOk P w K mg base CX0 (k + 2) f fd ["_law_pot_here", "_law_many"] spPair := by
  have G_take : FnOk P w K mg base CX0 (k + 1) fT fdT ["_law_pot_here", "_law_room"] spTake := ok_take D_take.F
  refine F.ok sc_pair (fun vs H Q E h => ?_) (fun cdv A outer s H vs Q E hr h => ?_)
  · obtain ⟨p, m, rfl, _⟩ := h
    rfl
  · obtain ⟨p, m, rfl, hp, m2, m1000, q⟩ := h
    refine ⟨_, pss_cons (ps_set (i := 2) sc_pair.nd rfl (.inl rfl) (pe_call G_take hr (by rfl) D_take.g D_take.F.kp D_take.b .nil pass0 (pa_cons (pv 0) (pa_cons (pv 1) pa_nil))))
      (pss_one (ps_ret (pe_tup (pa_cons (pv 2) (pa_cons (pe_op op_mod (pe_op op_add (pe_op op_add (pv 2) pe_int) (pe_call G_take hr (by rfl) D_take.g D_take.F.kp D_take.b .nil pass0 (pa_cons (pv 0) (pa_cons (pe_callB (call_max2 rfl) (by rfl) m_max (by decide +kernel) (pa_cons pe_int (pa_cons (pe_op op_sub (pv 1) pe_int) pa_nil))) pa_nil)))) (pv 1)) pa_nil))))), ?_⟩
    refine ⟨.ref p, rfl, .int m, rfl, p, m, rfl, hp, by omega, by omega, fun H1 d1 b1 p1 d10 d11 => ?_⟩
    refine ⟨.int d1, rfl, .int d1, rfl, _, _, rfl, rfl, .ref p, rfl, .int m, rfl, _, _, rfl, rfl, 1, _, rfl, p, _, rfl, p1, by split <;> omega, by split <;> omega, fun H2 d2 b2 p2 d20 d21 => ?_⟩
    refine ⟨_, _, rfl, rfl, .int m, rfl, _, _, rfl, rfl, by show (0 : Int) < m; omega, by show 2 ≤ sizeLine; decide, fun t nt => ?_⟩
    exact q _ t d1 _ ((b1.trans b2).trans (But.new nt)) (p2.new nt) upd_same d10 d11 (Int.emod_nonneg _ (by omega)) (Int.emod_lt_of_pos _ (by omega))
/-- one of some things gets a text of another one -/
def spSpList (ϕ : Nat) : Sp := fun vs H Q _ => ∃ (p l : Addr) (i : Nat) (κ : Addr → Rl), vs = [.ref p, .ref l, .int i] ∧ Pot H p ∧ TH ϕ κ H ∧ ((κ l = .ops ∧ i ≤ 1) ∨ (∃ r u, κ l = .bel r u) ∧ i = 0) ∧ ∀ H', Spo 1000 ϕ κ H κ H' p → Q .non H'
theorem things_of {ϕ : Nat} {κ : Addr → Rl} {H : Hp} {l : Addr} {i : Nat} (th : TH ϕ κ H) (h : (κ l = .ops ∧ i ≤ 1) ∨ (∃ r u, κ l = .bel r u) ∧ i = 0) : ∃ xs : List Addr, H l = some (.lst (xs.map V.ref)) ∧ xs.length ≤ 12 ∧ (∀ x ∈ xs, ∃ (vs : List V) (z : Str), H x = some (.lst vs) ∧ vs[i]? = some (.str z)) ∧
    ∀ x ∈ xs, ∀ y ∈ xs, ∀ (H' : Hp) (vs ws : List V) (z : Str), TH ϕ κ H' → H x = some (.lst vs) → H y = some (.lst ws) → ws[i]? = some (.str z) → H' x = some (.lst vs) → TH ϕ κ (upd H' x (.lst (vs.set i (.str z)))) := by
  rcases h with ⟨k, hi⟩ | ⟨⟨r, u, k⟩, hi⟩
  · obtain ⟨xs, os, e, lo, ho, hk⟩ := ops_of th k
    have op : ∀ x ∈ xs, ∃ o, OpAt H x o := fun x hx => by
      have := th x
      rw [hk x hx] at this
      exact this
    refine ⟨xs, e, by rw [ho.1]; exact lo, fun x hx => ?_, fun x hx y hy H' vs ws z th' ex ey ez ex' => th'.set ?_⟩
    · obtain ⟨o, e1, _⟩ := op x hx
      match i, hi with
      | 0, _ => exact ⟨_, o.long, e1, rfl⟩
      | 1, _ => exact ⟨_, o.short, e1, rfl⟩
    · rw [hk x hx]
      obtain ⟨o, e1, ok⟩ := op x hx
      obtain ⟨o2, e2, ok2⟩ := op y hy
      rw [e1] at ex
      cases ex
      rw [e2] at ey
      cases ey
      match i, hi with
      | 0, _ =>
        cases ez
        exact ⟨⟨o2.long, o.short, o.takes, o.maker, o.dflt, o.need, o.off, o.about⟩, upd_same, ⟨ok2.long, ok.short, ok.ts, ok.takes, ok.tt, ok.need, ok.off, ok.maker, ok.dflt, ok.about⟩⟩
      | 1, _ =>
        cases ez
        exact ⟨⟨o.long, o2.short, o.takes, o.maker, o.dflt, o.need, o.off, o.about⟩, upd_same, ⟨ok.long, ok2.short, ok2.ts, ok.takes, ok.tt, ok.need, ok.off, ok.maker, ok.dflt, ok.about⟩⟩
  · subst hi
    have hl := th l
    rw [k] at hl
    obtain ⟨xs, ws, e, lx, hk, _⟩ := hl
    have nd : ∀ x ∈ xs, ∃ u', κ x = .node r u' := fun x hx => by
      obtain ⟨j, hj, ej⟩ := List.mem_iff_getElem.mp hx
      obtain ⟨u', _, h⟩ := hk.2 j x (by rw [List.getElem?_eq_getElem hj, ej])
      exact ⟨u', h⟩
    refine ⟨xs, e, by omega, fun x hx => ?_, fun x hx y hy H' vs ws' z th' ex ey ez ex' => th'.set ?_⟩
    · obtain ⟨u', kx⟩ := nd x hx
      obtain ⟨n, _, _, _, _, _, _, _, _, _, ea, _⟩ := th.nd kx
      exact ⟨_, n, ea, rfl⟩
    · obtain ⟨u1, kx⟩ := nd x hx
      obtain ⟨u2, ky⟩ := nd y hy
      obtain ⟨n, ao, ap, ag, ab, r', w', _, _, h1, ea, hn, h4, h5, h6, h7, _⟩ := th.nd kx
      obtain ⟨n2, _, _, _, _, _, _, _, _, _, ea2, hn2, _⟩ := th.nd ky
      rw [ea] at ex
      cases ex
      rw [ea2] at ey
      cases ey
      cases ez
      rw [kx]
      exact ⟨z, ao, ap, ag, ab, r', w', h1, upd_same, hn2, h4, h5, h6, h7⟩
theorem ok_spList {f fT fP : Addr} {fd fdT fdP : FuncData} {k ϕ : Nat} (F : Fun K "_law_spoilt_list" "_law_spoilt_list" st_spoilt_list f fd) (D_take : Df K mg "_law_take" sTake ["_law_pot_here", "_law_room"] fT fdT) (D_pair : Df K mg "_law_pair" st_pair ["_law_pot_here", "_law_many"] fP fdP) (m_len : mg "len" = none) (m_max : mg "max" = none) :
    FnOk P w K mg base CX0 (k + 3) f fd ["_law_pot_here", "_law_things", "_law_at_here"] (spSpList ϕ) := by
  have G_pair : FnOk P w K mg base CX0 (k + 2) fP fdP ["_law_pot_here", "_law_many"] spPair := ok_pair D_pair.F D_take m_max
  refine F.ok sc_spoilt_list (fun vs H Q E h => ?_) (fun cdv A outer s H vs Q E hr h => ?_)
  · obtain ⟨p, l, i, κ, rfl, _⟩ := h
    rfl
  · obtain ⟨p, l, i, κ, rfl, hp, th, hk, q⟩ := h
    have kp := th.pot hp
    obtain ⟨xs, el, lx, hat, hset⟩ := things_of th hk
    refine ⟨_, pss_one (ps_if (pt_cmpR op_gt (pe_callB call_len_seq (by rfl) m_len PySem.boot_len (pa_cons (pv 1) pa_nil)) pe_int (nomark _)) (pss_cons (ps_asg (pe_call G_pair hr (by rfl) D_pair.g D_pair.F.kp D_pair.b .nil pass0 (pa_cons (pv 0) (pa_cons (pe_callB call_len_seq (by rfl) m_len PySem.boot_len (pa_cons (pv 1) pa_nil)) pa_nil))) (pg_tup rfl (pgs_cons (pg_name (i := 3) sc_spoilt_list.nd rfl (Or.inl rfl)) (pgs_cons (pg_name (i := 4) sc_spoilt_list.nd rfl (Or.inl rfl)) pgs_nil))))
      (pss_one (ps_asg (pe_ix ix_list (pe_ix ix_list (pv 1) (pv 4) (fun _ _ => rfl)) (pv 2) (fun _ _ => rfl)) (pg_sub (pe_ix ix_list (pv 1) (pv 3) (fun _ _ => rfl)) (pv 2) set_list)))) pss_nil), ?_⟩
    refine ⟨.ref l, rfl, l, _, rfl, .inl (SqL.of el), _, _, rfl, rfl, _, rfl, ite2 (fun e => ?_) (fun e => ?_)⟩
    · have e' : (((xs.map V.ref).length : Nat) : Int) > 1 := of_decide_eq_true e
      rw [List.length_map] at e'
      refine ⟨.ref p, rfl, .ref l, rfl, l, _, rfl, .inl (SqL.of el), p, _, rfl, hp, by rw [List.length_map]; omega, by rw [List.length_map]; omega, fun H1 t i1 j1 b1 p1 et i0 i1' j0 j1' => ?_⟩
      rw [List.length_map] at i1' j1'
      obtain ⟨a, rfl⟩ := Int.eq_ofNat_of_zero_le i0
      obtain ⟨b, rfl⟩ := Int.eq_ofNat_of_zero_le j0
      have ha : a < xs.length := by omega
      have hb : b < xs.length := by omega
      have ty : ∀ {c : Addr} {r : Rl}, κ c = r → r ≠ .no → c ≠ p := fun {c r} h1 h2 z => h2 (by rw [← h1, z]; exact kp)
      have th1 : TH ϕ κ H1 := th.but2 (q := p) (But2.of b1) kp kp
      have tl : ∀ {c : Addr} {vs : List V}, κ c ≠ .no → H c = some (.lst vs) → H1 c = some (.lst vs) := fun {c vs} hc ec => b1 _ _ (fun z => hc (by rw [z]; exact kp)) ec
      have kl : κ l ≠ .no := by
        rcases hk with ⟨k, _⟩ | ⟨⟨r, u, k⟩, _⟩
        · rw [k]; simp
        · rw [k]; simp
      have kx : ∀ x ∈ xs, κ x ≠ .no := fun x hx z => by
        rcases hk with ⟨k, _⟩ | ⟨⟨r, u, k⟩, _⟩
        · obtain ⟨xs', _, e1, _, _, hk'⟩ := ops_of th k
          rw [el] at e1
          have : xs = xs' := by
            have := HO.lst.inj (Option.some.inj e1)
            exact refs_inj this
          rw [hk' x (by rw [← this]; exact hx)] at z
          cases z
        · have hl := th l
          rw [k] at hl
          obtain ⟨xs', ws, e1, _, hk', _⟩ := hl
          rw [el] at e1
          have : xs = xs' := by
            have := HO.lst.inj (Option.some.inj e1)
            exact refs_inj this
          subst this
          obtain ⟨j, hj, ej⟩ := List.mem_iff_getElem.mp hx
          obtain ⟨u', _, h⟩ := hk'.2 j x (by rw [List.getElem?_eq_getElem hj, ej])
          rw [h] at z
          cases z
      have el1 := tl kl el
      have ma : xs[a] ∈ xs := List.getElem_mem ha
      have mb : xs[b] ∈ xs := List.getElem_mem hb
      obtain ⟨va, za, ea, ga⟩ := hat _ ma
      obtain ⟨vb, zb, eb, gb⟩ := hat _ mb
      have ea1 := tl (kx _ ma) ea
      have eb1 := tl (kx _ mb) eb
      have at_a : atI (xs.map V.ref) (a : Int) = some (.ref xs[a]) := atI_nat (by rw [List.getElem?_map, List.getElem?_eq_getElem ha]; rfl)
      have at_b : atI (xs.map V.ref) (b : Int) = some (.ref xs[b]) := atI_nat (by rw [List.getElem?_map, List.getElem?_eq_getElem hb]; rfl)
      refine ⟨t, _, rfl, SqT.of et, rfl, _, _, rfl, _, _, rfl, rfl, ?_⟩
      refine ⟨.ref l, rfl, .int b, rfl, l, _, _, .ref xs[b], rfl, rfl, SqL.of el1, at_b, .int i, rfl, xs[b], _, _, .str zb, rfl, rfl, SqL.of eb1, atI_nat gb, ?_⟩
      have hi : i < va.length := (List.getElem?_eq_some_iff.mp ga).1
      refine ⟨.ref l, rfl, .int a, rfl, l, _, _, .ref xs[a], rfl, rfl, SqL.of el1, at_a, .int i, rfl, xs[a], va, _, i, rfl, rfl, ea1, by unfold ixN; rw [if_pos (by omega), if_pos (by omega)]; rfl, ?_⟩
      refine q _ ⟨fun c o hc hcp ec => ?_, ?_, Gw.refl (fun c hc => ?_) (hset _ ma _ mb H1 va vb zb th1 ea eb gb ea1)⟩
      · rw [upd_ne (fun z => kx _ ma (by rw [← z]; exact hc))]
        exact b1 _ _ hcp ec
      · obtain ⟨x, y, e, h1, h2⟩ := p1
        exact ⟨x, y, by rw [upd_ne (fun z => kx _ ma (by rw [← z]; exact kp))]; exact e, h1, h2⟩
      · have h1 := but2_al (q := p) (But2.of b1) p1.al p1.al c hc
        by_cases z : c = xs[a]
        · rw [z, upd_same]
          simp
        · rw [upd_ne z]
          exact h1
    · exact q _ ⟨fun _ _ _ _ e => e, hp, Gw.refl (fun _ h => h) th⟩
end
end WB

set_option Elab.async false
set_option linter.all false
set_option maxRecDepth 100000
set_option maxHeartbeats 4000000
namespace WB
open PySem PySem.Spec PyProof.Rows L2 WG
open TL (tl)
abbrev st_spoilt_group : Stmt := topS 73
theorem sc_spoilt_group : FnScope ["_law_pot_here", "_law_tree_here", "_law_group", "_law_longs", "_law_option"] ["_law_pot_here", "_law_tree_here"] (defScope st_spoilt_group) := ⟨rfl, rfl, rfl, by decide +kernel, rfl, by decide +kernel, by decide +kernel⟩
section
variable {P : Program} {w : World} {K : PySem.W.Frag} {mg : Str → Option Value} {base : Heap}
theorem Spo.of_but {ϕ : Nat} {κ : Addr → Rl} {H H' : Hp} {p : Addr} (th : TH ϕ κ H) (hp : Pot H p) (b : But p H H') (hp' : Pot H' p) : Spo 1000 ϕ κ H κ H' p := ⟨fun c o _ n e => b c o n e, hp', Gw.refl (but2_al (q := p) (But2.of b) hp'.al hp'.al) (th.but2 (q := p) (But2.of b) (th.pot hp) (th.pot hp))⟩
/-- a list of the tree is changed -/
theorem Spo.put {ϕ : Nat} {κ : Addr → Rl} {H H' : Hp} {p a : Addr} {o : HO} (th : TH ϕ κ H) (hp : Pot H p) (b : But p H H') (hp' : Pot H' p) (ka : κ a ≠ .no) (ok : RlOk ϕ κ (upd H' a o) a (κ a)) : Spo 1000 ϕ κ H κ (upd H' a o) p := by
  have kp := th.pot hp
  have th' : TH ϕ κ H' := th.but2 (q := p) (But2.of b) kp kp
  refine ⟨fun c u hc n e => ?_, ?_, Gw.refl (fun c hc => ?_) (th'.set ok)⟩
  · rw [upd_ne (fun z => ka (by rw [← z]; exact hc))]
    exact b c u n e
  · obtain ⟨x, y, e, h1, h2⟩ := hp'
    exact ⟨x, y, by rw [upd_ne (fun z => ka (by rw [← z]; exact kp))]; exact e, h1, h2⟩
  · have h1 := but2_al (q := p) (But2.of b) hp'.al hp'.al c hc
    by_cases z : c = a
    · rw [z, upd_same]
      simp
    · rw [upd_ne z]
      exact h1
def spNodeS (ϕ : Nat) : Sp := fun vs H Q _ => ∃ (p a : Addr) (κ : Addr → Rl) (r u : Nat), vs = [.ref p, .ref a] ∧ Pot H p ∧ TH ϕ κ H ∧ κ a = .node r u ∧ ∀ H', Spo 1000 ϕ κ H κ H' p → Q .non H'
theorem no_tx {z : Str} (h : Tx 20 z) : Tx 300 (Str.ofString "no-" ++ z) := (Tx.app (n := 3) (m := 20) ⟨by decide +kernel, by decide +kernel⟩ h).mono (by decide)
theorem nm_tx20 {y : Str} (h : nm (tl y) = true) : Tx 20 y := ⟨by have := nm_len h; omega, (nm_tx h).pl⟩
theorem ok_spGroup {f fT : Addr} {fd fdT : FuncData} {k ϕ : Nat} (F : Fun K "_law_spoilt_group" "_law_spoilt_group" st_spoilt_group f fd) (D_take : Df K mg "_law_take" sTake ["_law_pot_here", "_law_room"] fT fdT) (m_len : mg "len" = none) :
    FnOk P w K mg base CX0 (k + 2) f fd ["_law_pot_here", "_law_tree_here"] (spNodeS ϕ) := by
  have G_take : FnOk P w K mg base CX0 (k + 1) fT fdT ["_law_pot_here", "_law_room"] spTake := ok_take D_take.F
  refine F.ok sc_spoilt_group (fun vs H Q E h => ?_) (fun cdv A outer s H vs Q E hr h => ?_)
  · obtain ⟨p, a, κ, r, u, rfl, _⟩ := h
    rfl
  · obtain ⟨p, a, κ, r, u, rfl, hp, th, ka, q⟩ := h
    have sl : sizeLine = 16777216 := sizeLine_eq
    have kp := th.pot hp
    have typ : ∀ {c : Addr} {r : Rl}, κ c = r → r ≠ .no → c ≠ p := fun {c r} h1 h2 z => h2 (by rw [← h1, z]; exact kp)
    obtain ⟨n, ao, ap, ag, ab, r', w', xb, ws, _, ea, _, ko, kpl, kg, _⟩ := th.nd ka
    have nap := typ ka (by simp)
    have nop := typ ko (by simp)
    have ngp := typ kg (by simp)
    have hg := th ag
    rw [kg] at hg
    obtain ⟨xg, eg, lg, hxg⟩ := hg
    obtain ⟨xo, os, eo, lno, ho, _⟩ := ops_of th ko
    refine ⟨_, pss_one (ps_if (pt_cmpR (op_neE hr.units) (pe_ix ix_list (pv 1) pe_int (fun _ _ => rfl)) (pe_lst pa_nil) (nomark _)) (pss_cons (ps_set (i := 2) sc_spoilt_group.nd rfl (.inl rfl) (pe_ix ix_list (pe_ix ix_list (pv 1) pe_int (fun _ _ => rfl)) (pe_call G_take hr (by rfl) D_take.g D_take.F.kp D_take.b .nil pass0 (pa_cons (pv 0) (pa_cons (pe_callB call_len_seq (by rfl) m_len PySem.boot_len (pa_cons (pe_ix ix_list (pv 1) pe_int (fun _ _ => rfl)) pa_nil)) pa_nil))) (fun _ _ => rfl)))
      (pss_cons (ps_set (i := 3) sc_spoilt_group.nd rfl (.inl rfl) (pe_op op_cat (pe_lc (own := [("_law_option", 4)]) (g := gName 4) (tt := tYes) rfl sc_spoilt_group.nd (pi_list (pe_ix ix_list (pv 1) pe_int (fun _ _ => rfl))) (blkOk_by (N := ["_law_pot_here", "_law_tree_here", "_law_group", "_law_longs", "_law_option"]) (sc := defScope st_spoilt_group) (by decide +kernel)) (fun _ _ _ _ _ => (pg_name (i := 4) sc_spoilt_group.nd rfl (Or.inl rfl))) (fun _ _ _ _ _ => pts_nil) (fun _ _ _ _ _ => (pe_ix (r := rIxL K) ix_list (pv 4) pe_int (fun _ _ => rfl)))) (pe_lst (pa_cons pe_str (pa_cons pe_str (pa_cons pe_str pa_nil))))))
      (pss_cons (ps_set (i := 3) sc_spoilt_group.nd rfl (.inl rfl) (pe_op op_cat (pv 3) (pe_lc (own := [("_law_option", 4)]) (g := gName 4) (tt := tYes) rfl sc_spoilt_group.nd (pi_list (pe_ix ix_list (pv 1) pe_int (fun _ _ => rfl))) (blkOk_by (N := ["_law_pot_here", "_law_tree_here", "_law_group", "_law_longs", "_law_option"]) (sc := defScope st_spoilt_group) (by decide +kernel)) (fun _ _ _ _ _ => (pg_name (i := 4) sc_spoilt_group.nd rfl (Or.inl rfl))) (fun _ _ _ _ _ => pts_nil) (fun _ _ _ _ _ => (pe_op op_add_str pe_str (pe_ix (r := rIxL K) ix_list (pv 4) pe_int (fun _ _ => rfl)))))))
      (pss_one (ps_asg (pe_ix ix_list (pv 3) (pe_call G_take hr (by rfl) D_take.g D_take.F.kp D_take.b .nil pass0 (pa_cons (pv 0) (pa_cons (pe_callB call_len_seq (by rfl) m_len PySem.boot_len (pa_cons (pv 3) pa_nil)) pa_nil))) (fun _ _ => rfl)) (pg_sub (pv 2) (pe_call G_take hr (by rfl) D_take.g D_take.F.kp D_take.b .nil pass0 (pa_cons (pv 0) (pa_cons (pe_callB call_len_seq (by rfl) m_len PySem.boot_len (pa_cons (pv 2) pa_nil)) pa_nil))) set_list)))))) pss_nil), ?_⟩
    refine ⟨.ref a, rfl, a, _, 3, .ref ag, rfl, rfl, SqL.of ea, rfl, by show 0 ≤ sizeLine; decide, fun q0 m0 => ⟨ag, q0, _, rfl, rfl, same_upd m0 _ _ eg, upd_same, _, rfl, ite2 (fun e => ?_) (fun e => ?_)⟩⟩
    · have xg0 : 0 < xg.length := by
        cases xg with
        | nil => cases e
        | cons _ _ => exact Nat.succ_pos _
      have s1 := same_upd (o := .lst []) m0
      have p1 := hp.new (o := .lst []) m0
      have ea1 := s1 _ _ ea
      have eg1 := s1 _ _ eg
      have eo1 := s1 _ _ eo
      revert s1 p1 ea1 eg1 eo1
      generalize upd H q0 (.lst []) = H1
      intro s1 p1 ea1 eg1 eo1
      -- the group
      refine ⟨.ref a, rfl, a, _, 3, .ref ag, rfl, rfl, SqL.of ea1, rfl, .ref p, rfl, .ref a, rfl, a, _, 3, .ref ag, rfl, rfl, SqL.of ea1, rfl, ag, _, rfl, .inl (SqL.of eg1), p, _, rfl, p1, by rw [List.length_map]; omega, by rw [List.length_map]; omega, fun H2 d2 b2 p2 d20 d21 => ?_⟩
      rw [List.length_map] at d21
      obtain ⟨j, rfl⟩ := Int.eq_ofNat_of_zero_le d20
      have hj : j < xg.length := by omega
      have kgr := hxg _ (List.getElem_mem hj)
      have ngr := typ kgr (by simp)
      have hgr := th xg[j]
      rw [kgr] at hgr
      obtain ⟨g, egr, lg2, lg6, tg⟩ := hgr
      have at_j : atI (xg.map V.ref) (j : Int) = some (.ref xg[j]) := atI_nat (by rw [List.getElem?_map, List.getElem?_eq_getElem hj]; rfl)
      refine ⟨ag, _, _, .ref xg[j], rfl, rfl, SqL.of (b2 _ _ ngp eg1), at_j, ?_⟩
      have B2 : But p H H2 := (But.of_same s1).trans b2
      have ea2 := B2 _ _ nap ea
      have eo2 := B2 _ _ nop eo
      -- the long ones
      refine ⟨.ref a, rfl, a, _, 1, .ref ao, rfl, rfl, SqL.of ea2, rfl, ao, rfl, ⟨_, SqL.of eo2⟩, fun D nD => ?_⟩
      refine lc_list (K := K) (a := ao) (xs := xo.map V.ref) (fun i Hc => Same H2 Hc ∧ ∃ zs : List Str, Hc D = some (.lst (zs.map V.str)) ∧ zs.length = i ∧ ∀ z ∈ zs, Tx 300 z) ⟨same_upd nD, [], upd_same, rfl, fun z hz => by cases hz⟩ (fun i Hc _ h => SqL.of (h.1 _ _ eo2)) (fun i v Hc hv ⟨sc, zs, eD, lz, hz⟩ => ?_) (fun H3 ⟨s3, zs, eD, lz, hz⟩ => ?_)
      · rw [List.getElem?_map] at hv
        obtain ⟨x, hx, rfl⟩ := Option.map_eq_some_iff.mp hv
        have hi : i < xo.length := (List.getElem?_eq_some_iff.mp hx).1
        have lx := ho.1
        obtain ⟨o, _, ex, ok⟩ := ho.2 i x hx
        have nxp : x ≠ p := fun z => by
          obtain ⟨y1, y2, ep, _⟩ := id hp
          rw [z, ep] at ex
          cases ex
        refine ⟨rfl, .ref x, rfl, x, _, 0, .str o.long, rfl, rfl, SqL.of (sc _ _ (B2 _ _ nxp ex)), rfl, _, eD, by rw [List.length_map]; omega, fun b' u e => ?_, zs ++ [o.long], ?_, by rw [List.length_append, lz]; rfl, fun z hz' => ?_⟩
        · rw [upd_ne (ne_of_none e nD)]
          exact sc _ _ e
        · rw [upd_same, List.map_append]
          rfl
        · rcases List.mem_append.mp hz' with h | h
          · exact hz z h
          · rw [List.mem_singleton.mp h]
            exact nm_tx ok.long
      have lx := ho.1
      rw [List.length_map] at lz
      refine ⟨by show 3 ≤ sizeLine; decide, fun l4 n4 => ?_⟩
      refine goT n4 fun H4 s4 e4 => ?_
      refine ⟨D, l4, _, _, rfl, rfl, s4 _ _ eD, e4, by rw [List.length_map]; show _ + 3 ≤ _; omega, fun l5 n5 => ?_⟩
      rw [show zs.map V.str ++ [V.str (Str.ofString ""), .str (Str.ofString "No"), .str (Str.ofString "not-a-long-one")] = (zs ++ [Str.ofString "", Str.ofString "No", Str.ofString "not-a-long-one"]).map V.str from by rw [List.map_append]; rfl]
      have hz5 : ∀ z ∈ zs ++ [Str.ofString "", Str.ofString "No", Str.ofString "not-a-long-one"], Tx 300 z := fun z hz' => by
        rcases List.mem_append.mp hz' with h | h
        · exact hz z h
        · exact (by decide +kernel : ∀ z ∈ [Str.ofString "", Str.ofString "No", Str.ofString "not-a-long-one"], z.length ≤ 300 ∧ ∀ c ∈ tl z, c < 256) z h |> fun h => ⟨h.1, h.2⟩
      have lz5 : (zs ++ [Str.ofString "", Str.ofString "No", Str.ofString "not-a-long-one"]).length = zs.length + 3 := by rw [List.length_append]; rfl
      revert hz5 lz5
      generalize zs ++ [Str.ofString "", Str.ofString "No", Str.ofString "not-a-long-one"] = z5
      intro hz5 lz5
      have s5 := same_upd (o := .lst (z5.map V.str)) n5
      have e5 : (upd H4 l5 (.lst (z5.map V.str))) l5 = some (.lst (z5.map V.str)) := upd_same
      revert s5 e5
      generalize upd H4 l5 (.lst (z5.map V.str)) = H5
      intro s5 e5
      have s25 := (s3.trans s4).trans s5
      have B5 : But p H H5 := B2.trans (But.of_same s25)
      have p5 := p2.same s25
      have ea5 := B5 _ _ nap ea
      have eo5 := B5 _ _ nop eo
      refine ⟨.ref l5, rfl, .ref a, rfl, a, _, 1, .ref ao, rfl, rfl, SqL.of ea5, rfl, ao, rfl, ⟨_, SqL.of eo5⟩, fun D2 nD2 => ?_⟩
      refine lc_list (K := K) (a := ao) (xs := xo.map V.ref) (fun i Hc => Same H5 Hc ∧ ∃ zs : List Str, Hc D2 = some (.lst (zs.map V.str)) ∧ zs.length = i ∧ ∀ z ∈ zs, Tx 300 z) ⟨same_upd nD2, [], upd_same, rfl, fun z hz => by cases hz⟩ (fun i Hc _ h => SqL.of (h.1 _ _ eo5)) (fun i v Hc hv ⟨sc, zs, eD, lz, hz⟩ => ?_) (fun H6 ⟨s6, zs6, eD6, lz6, hz6⟩ => ?_)
      · rw [List.getElem?_map] at hv
        obtain ⟨x, hx, rfl⟩ := Option.map_eq_some_iff.mp hv
        have hi : i < xo.length := (List.getElem?_eq_some_iff.mp hx).1
        obtain ⟨o, _, ex, ok⟩ := ho.2 i x hx
        have nxp : x ≠ p := fun z => by
          obtain ⟨y1, y2, ep, _⟩ := id hp
          rw [z, ep] at ex
          cases ex
        have l10 := nm_len ok.long
        refine ⟨rfl, .ref x, rfl, x, _, 0, .str o.long, rfl, rfl, SqL.of (sc _ _ (B5 _ _ nxp ex)), rfl, _, _, rfl, rfl, by rw [show (Str.ofString "no-").length = 3 from by decide +kernel]; omega, _, eD, by rw [List.length_map]; omega, fun b' u e => ?_, zs ++ [Str.ofString "no-" ++ o.long], ?_, by rw [List.length_append, lz]; rfl, fun z hz' => ?_⟩
        · rw [upd_ne (ne_of_none e nD2)]
          exact sc _ _ e
        · rw [upd_same, List.map_append]
          rfl
        · rcases List.mem_append.mp hz' with h | h
          · exact hz z h
          · rw [List.mem_singleton.mp h]
            exact no_tx (nm_tx20 ok.long)
      rw [List.length_map] at lz6
      refine ⟨l5, D2, _, _, rfl, rfl, s6 _ _ e5, eD6, by rw [List.length_map, List.length_map]; omega, fun l7 n7 => ?_⟩
      rw [← List.map_append]
      have hz7 : ∀ z ∈ z5 ++ zs6, Tx 300 z := fun z hz' => (List.mem_append.mp hz').elim (hz5 z) (hz6 z)
      have lz7 : (z5 ++ zs6).length = z5.length + zs6.length := List.length_append
      revert hz7 lz7
      generalize z5 ++ zs6 = z7
      intro hz7 lz7
      have s7 := same_upd (o := .lst (z7.map V.str)) n7
      have e7 : (upd H6 l7 (.lst (z7.map V.str))) l7 = some (.lst (z7.map V.str)) := upd_same
      have p6 := p5.same s6
      have n7p : l7 ≠ p := (p6.ne n7).symm
      revert s7 e7
      generalize upd H6 l7 (.lst (z7.map V.str)) = H7
      intro s7 e7
      have B7 : But p H H7 := (B5.trans (But.of_same s6)).trans (But.of_same s7)
      have p7 := p6.same s7
      -- one is exchanged
      refine ⟨.ref l7, rfl, .ref p, rfl, .ref l7, rfl, l7, _, rfl, .inl (SqL.of e7), p, _, rfl, p7, by rw [List.length_map]; omega, by rw [List.length_map]; omega, fun H8 d8 b8 p8 d80 d81 => ?_⟩
      rw [List.length_map] at d81
      obtain ⟨z, hzm, hze⟩ := at_strs z7 d8 d80 d81
      refine ⟨l7, _, _, .str z, rfl, rfl, SqL.of (b8 _ _ n7p e7), hze, ?_⟩
      have B8 := B7.trans b8
      have egr8 := B8 _ _ ngr egr
      refine ⟨.ref xg[j], rfl, .ref p, rfl, .ref xg[j], rfl, xg[j], _, rfl, .inl (SqL.of egr8), p, _, rfl, p8, by rw [List.length_map]; omega, by rw [List.length_map]; omega, fun H9 d9 b9 p9 d90 d91 => ?_⟩
      rw [List.length_map] at d91
      obtain ⟨i9, rfl⟩ := Int.eq_ofNat_of_zero_le d90
      refine ⟨xg[j], _, _, i9, rfl, rfl, b9 _ _ ngr egr8, by rw [List.length_map]; unfold ixN; rw [if_pos (by omega), if_pos (by omega)]; rfl, ?_⟩
      refine q _ (Spo.put th hp (B8.trans b9) p9 (by rw [kgr]; simp) ?_)
      rw [kgr]
      refine ⟨g.set i9 z, by rw [upd_same, List.map_set], by rw [List.length_set]; exact lg2, by rw [List.length_set]; exact lg6, fun y hy => ?_⟩
      rcases List.mem_or_eq_of_mem_set hy with h | h
      · exact tg y h
      · rw [h]
        exact hz7 z hzm
    · exact q _ (Spo.of_but th hp (But.new m0) (hp.new m0))
end
end WB

set_option Elab.async false
set_option linter.all false
set_option maxRecDepth 100000
set_option maxHeartbeats 4000000
namespace WB
open PySem PySem.Spec PyProof.Rows L2 WG
open TL (tl)
abbrev st_spoilt_places : Stmt := topS 74
theorem sc_spoilt_places : FnScope ["_law_pot_here", "_law_tree_here", "_law_way", "_law_names", "_law_one"] ["_law_pot_here", "_law_tree_here", "_law_way"] (defScope st_spoilt_places) := ⟨rfl, rfl, rfl, by decide +kernel, rfl, by decide +kernel, by decide +kernel⟩
/-- a new command among those beneath -/
theorem add_node {ϕ : Nat} {κ : Addr → Rl} {H : Hp} {ab c ao ap ag an : Addr} {r w W : Nat} {xb : List Addr} {ws : List Nat} {n : Str} (th : TH ϕ κ H) (kb : κ ab = .bel (r + 1) w) (eb : H ab = some (.lst (xb.map V.ref))) (lx : xb.length < 8) (hk : All2 (fun x u => κ x = .node (r + 1) u) xb ws) (sm : ws.sum + (W + 1) + ϕ ≤ w) (hW : ϕ ≤ W)
    (ko : κ ao = .ops) (ep : H ap = some (.lst [])) (kp : κ ap = .no) (eg : H ag = some (.lst [])) (kg : κ ag = .no) (en : H an = some (.lst [])) (kn : κ an = .no) (ec : H c = some (.lst [.str n, .ref ao, .ref ap, .ref ag, .ref an])) (kc : κ c = .no) (hn : nm (tl n) = true) (d1 : ap ≠ ag) (d2 : ap ≠ an) (d3 : ag ≠ an) :
    ∃ κ', TH ϕ κ' (upd H ab (.lst ((xb ++ [c]).map V.ref))) ∧ κ' c = .node (r + 1) (W + 1) ∧ (∀ b, b ∉ [ap, ag, an, c] → κ' b = κ b) ∧ (∀ b r' u, κ' b = .node r' u → κ b = .node r' u ∨ r' = r + 1) := by
  have ne : ∀ {x : Addr}, κ x = .no → x ≠ ab := fun {x} h z => by rw [z, kb] at h; cases h
  have noc : ∀ {x : Addr} {s : Rl}, κ x = s → s ≠ .no → ∀ {y : Addr}, κ y = .no → x ≠ y := fun {x s} h1 h2 {y} h3 z => h2 (by rw [← h1, z]; exact h3)
  have c1 : c ≠ ap := fun z => by rw [z, ep] at ec; cases ec
  have c2 : c ≠ ag := fun z => by rw [z, eg] at ec; cases ec
  have c3 : c ≠ an := fun z => by rw [z, en] at ec; cases ec
  have t1 : TH ϕ (put κ ap .pls) H := th.put kp ⟨[], ep, by decide, fun x hx => by cases hx⟩
  have t2 : TH ϕ (put (put κ ap .pls) ag .grs) H := t1.put (by rw [put_ne d1.symm]; exact kg) ⟨[], eg, by decide, fun x hx => by cases hx⟩
  have t3 : TH ϕ (put (put (put κ ap .pls) ag .grs) an (.bel r W)) H := t2.put (by rw [put_ne d3.symm, put_ne d2.symm]; exact kn) ⟨[], [], en, by decide, All2.nil, by show 0 + ϕ ≤ W; omega⟩
  have o1 := noc ko (by simp) kp
  have o2 := noc ko (by simp) kg
  have o3 := noc ko (by simp) kn
  have t4 : TH ϕ (put (put (put (put κ ap .pls) ag .grs) an (.bel r W)) c (.node (r + 1) (W + 1))) H := t3.put (by rw [put_ne c3, put_ne c2, put_ne c1]; exact kc) ⟨n, ao, ap, ag, an, r, W, ⟨rfl, rfl⟩, ec, hn, by rw [put_ne o3, put_ne o2, put_ne o1]; exact ko, by rw [put_ne d2, put_ne d1]; exact put_same, by rw [put_ne d3]; exact put_same, put_same⟩
  have old : ∀ b, b ∉ [ap, ag, an, c] → (put (put (put (put κ ap .pls) ag .grs) an (.bel r W)) c (.node (r + 1) (W + 1))) b = κ b := fun b hb => by
    simp only [List.mem_cons, List.not_mem_nil, or_false, not_or] at hb
    rw [put_ne hb.2.2.2, put_ne hb.2.2.1, put_ne hb.2.1, put_ne hb.1]
  have oldk : ∀ {b : Addr} {s : Rl}, κ b = s → s ≠ .no → (put (put (put (put κ ap .pls) ag .grs) an (.bel r W)) c (.node (r + 1) (W + 1))) b = s := fun {b s} h1 h2 => by
    rw [put_ne (noc h1 h2 kc), put_ne (noc h1 h2 kn), put_ne (noc h1 h2 kg), put_ne (noc h1 h2 kp)]
    exact h1
  refine ⟨_, t4.set ?_, put_same, old, fun b r' u e => ?_⟩
  · rw [oldk kb (by simp)]
    refine ⟨xb ++ [c], ws ++ [W + 1], upd_same, by rw [List.length_append]; show _ + 1 ≤ _; omega, (hk.mono fun x u h => oldk h (by simp)).snoc put_same, ?_⟩
    rw [List.sum_append]
    have : ([W + 1] : List Nat).sum = W + 1 := by simp
    omega
  · by_cases z : b ∈ [ap, ag, an, c]
    · simp only [List.mem_cons, List.not_mem_nil, or_false] at z
      by_cases zc : b = c
      · rw [zc, put_same] at e
        cases e
        exact .inr rfl
      · rw [put_ne zc] at e
        by_cases zn : b = an
        · rw [zn, put_same] at e
          cases e
        · rw [put_ne zn] at e
          by_cases zg : b = ag
          · rw [zg, put_same] at e
            cases e
          · rw [put_ne zg] at e
            by_cases zp : b = ap
            · rw [zp, put_same] at e
              cases e
            · rcases z with z | z | z | z
              · exact absurd z zp
              · exact absurd z zg
              · exact absurd z zn
              · exact absurd z zc
    · rw [old b z] at e
      exact .inl e
theorem spo_node {m ϕ r w W : Nat} {κ κ1 : Addr → Rl} {H H5 : Hp} {p ab c ao ap ag an : Addr} {xb : List Addr} {ws : List Nat} {n : Str} (S : Spo m ϕ κ H κ1 H5 p) (hb : κ ab ≠ .no ∨ H ab = none) (kb : κ1 ab = .bel (r + 1) w) (eb : H5 ab = some (.lst (xb.map V.ref))) (lx : xb.length < 8) (hk : All2 (fun x u => κ1 x = .node (r + 1) u) xb ws) (sm : ws.sum + (W + 1) + ϕ ≤ w) (hW : ϕ ≤ W) (hm : m ≤ r + 1)
    (ko : κ1 ao = .ops) (ep : H5 ap = some (.lst [])) (kp : κ1 ap = .no) (eg : H5 ag = some (.lst [])) (kg : κ1 ag = .no) (en : H5 an = some (.lst [])) (kn : κ1 an = .no) (ec : H5 c = some (.lst [.str n, .ref ao, .ref ap, .ref ag, .ref an])) (kc : κ1 c = .no) (hn : nm (tl n) = true) (d1 : ap ≠ ag) (d2 : ap ≠ an) (d3 : ag ≠ an) (fp : H ap = none) (fg : H ag = none) (fn : H an = none) (fc : H c = none) :
    ∃ κ', Spo m ϕ κ H κ' (upd H5 ab (.lst ((xb ++ [c]).map V.ref))) p ∧ κ' c = .node (r + 1) (W + 1) ∧ κ' an = .bel r W ∧ ∀ b, b ∉ [ap, ag, an, c] → κ' b = κ1 b := by
  obtain ⟨κ', t', k', old, nd⟩ := add_node S.g.th kb eb lx hk sm hW ko ep kp eg kg en kn ec kc hn d1 d2 d3
  have kp1 := S.g.th.pot S.p
  have ncb : c ≠ ab := fun z => by rw [z, kb] at kc; cases kc
  refine ⟨κ', ⟨fun b o h1 h2 h3 => ?_, ?_, ⟨fun b h1 => ?_, fun b h1 => ?_, t', fun b r' u e => ?_⟩⟩, k', ?_, old⟩
  · rw [upd_ne (fun z => by
      rcases hb with h | h
      · exact h (by rw [← z]; exact h1)
      · rw [z, h] at h3
        cases h3)]
    exact S.fr b o h1 h2 h3
  · obtain ⟨x, y, e, h1, h2⟩ := S.p
    exact ⟨x, y, by rw [upd_ne (fun z => by rw [z, kb] at kp1; cases kp1)]; exact e, h1, h2⟩
  · rw [old b (fun z => ?_), S.g.k b h1]
    simp only [List.mem_cons, List.not_mem_nil, or_false] at z
    rcases z with z | z | z | z
    · exact h1 (by rw [z]; exact fp)
    · exact h1 (by rw [z]; exact fg)
    · exact h1 (by rw [z]; exact fn)
    · exact h1 (by rw [z]; exact fc)
  · have h2 := S.g.al b h1
    by_cases z : b = ab
    · rw [z, upd_same]
      simp
    · rw [upd_ne z]
      exact h2
  · rcases nd b r' u e with h | h
    · exact S.g.nd b r' u h
    · exact .inr (by omega)
  · obtain ⟨n', _, _, _, ab', r', w', _, _, ⟨h1, h2⟩, e1, _, _, _, _, kb', _⟩ := t'.nd k'
    rw [upd_ne ncb, ec] at e1
    cases e1
    rw [kb', show r' = r from by omega, show w' = W from by omega]
theorem Spo.weak {m m' ϕ : Nat} {κ κ' : Addr → Rl} {H H' : Hp} {p : Addr} (h : Spo m ϕ κ H κ' H' p) (l : m' ≤ m) : Spo m' ϕ κ H κ' H' p := ⟨h.fr, h.p, h.g.mono l⟩
def Mn (κ : Addr → Rl) (m : Nat) : Prop := ∀ b r u, κ b = .node r u → m ≤ r
theorem pls_of {ϕ : Nat} {κ : Addr → Rl} {H : Hp} {a : Addr} (th : TH ϕ κ H) (k : κ a = .pls) : ∃ (xs : List Addr), H a = some (.lst (xs.map V.ref)) ∧ xs.length ≤ 6 ∧ ∀ x ∈ xs, κ x = .pl ∧ ∃ p, PlAt H x p := by
  have h := th a
  rw [k] at h
  obtain ⟨xs, h1, h2, h3⟩ := h
  refine ⟨xs, h1, h2, fun x hx => ⟨h3 x hx, ?_⟩⟩
  have := th x
  rw [h3 x hx] at this
  exact this
section
variable {P : Program} {w : World} {K : PySem.W.Frag} {mg : Str → Option Value} {base : Heap}
def spSpPlaces (m ϕ : Nat) : Sp := fun vs H Q _ => ∃ (p a : Addr) (way : Int) (κ : Addr → Rl) (r u : Nat), vs = [.ref p, .ref a, .int way] ∧ Pot H p ∧ TH (5 * ϕ + 4) κ H ∧ κ a = .node r u ∧ m + 4 ≤ r ∧ 1 ≤ m ∧ m ≤ 900 ∧ ∀ H' κ', Spo m ϕ κ H κ' H' p → Q .non H'
theorem ok_spPlaces {f fT fN : Addr} {fd fdT fdN : FuncData} {k m ϕ : Nat} (F : Fun K "_law_spoilt_places" "_law_spoilt_places" st_spoilt_places f fd) (D_take : Df K mg "_law_take" sTake ["_law_pot_here", "_law_room"] fT fdT) (D_name : Df K mg "_law_name" sName ["_law_pot_here"] fN fdN) (m_len : mg "len" = none) (m_range : mg "range" = none) :
    FnOk P w K mg base CX0 (k + 3) f fd ["_law_pot_here", "_law_tree_here", "_law_way"] (spSpPlaces m ϕ) := by
  have G_take : FnOk P w K mg base CX0 (k + 2) fT fdT ["_law_pot_here", "_law_room"] spTake := ok_take D_take.F
  have G_name : FnOk P w K mg base CX0 (k + 2) fN fdN ["_law_pot_here"] spNm := ok_nm D_name.F D_take m_len m_range
  refine F.ok sc_spoilt_places (fun vs H Q E h => ?_) (fun cdv A outer s H vs Q E hr h => ?_)
  · obtain ⟨p, a, way, κ, r, u, rfl, _⟩ := h
    rfl
  · obtain ⟨p, a, way, κ, r, u, rfl, hp, th0, ka, hr4, hm1, hm900, q⟩ := h
    have sl : sizeLine = 16777216 := sizeLine_eq
    have kp := th0.pot hp
    have th : TH ϕ κ H := th0.weak (by omega)
    have typ : ∀ {c : Addr} {r : Rl}, κ c = r → r ≠ .no → c ≠ p := fun {c r} h1 h2 z => h2 (by rw [← h1, z]; exact kp)
    obtain ⟨n, ao, ap, ag, ab, r', w', xb, ws, ⟨hr1, _⟩, ea, _, ko, kpl, kg, kb, eb, lb, hb, sb⟩ := th0.nd ka
    have nap := typ ka (by simp)
    have nop := typ ko (by simp)
    have npp := typ kpl (by simp)
    have nbp := typ kb (by simp)
    obtain ⟨xo, os, eo, lno, ho, _⟩ := ops_of th ko
    obtain ⟨xp, epl, lp, hxp⟩ := pls_of th kpl
    refine ⟨_, pss_cons (ps_if (PW.pt (pw_and (pt_cmpR op_eq (pv 2) pe_int (nomark _)) (pw_and1 (pt_cmpR (op_neE hr.units) (pe_ix ix_list (pv 1) pe_int (fun _ _ => rfl)) (pe_lst pa_nil) (nomark _))))) (pss_cons (ps_setLc (i := 3) (own := [("_law_one", 4)]) (g := gName 4) (tt := tYes)  rfl sc_spoilt_places.nd rfl rfl (sw_true rfl rfl rfl (by decide +kernel)) (pi_list (pe_op op_cat (pe_ix ix_list (pv 1) pe_int (fun _ _ => rfl)) (pe_ix ix_list (pv 1) pe_int (fun _ _ => rfl)))) (blkOk_by (N := ["_law_pot_here", "_law_tree_here", "_law_way", "_law_names", "_law_one"]) (sc := defScope st_spoilt_places) (by decide +kernel)) (fun _ _ _ _ _ => (pg_name (i := 4) sc_spoilt_places.nd rfl (Or.inl rfl))) (fun _ _ _ _ _ => pts_nil) (fun _ _ _ _ _ => (pe_ix (r := rIxL K) ix_list (pv 4) pe_int (fun _ _ => rfl))))
      (pss_one (ps_asg (pe_ix ix_list (pv 3) (pe_call G_take hr (by rfl) D_take.g D_take.F.kp D_take.b .nil pass0 (pa_cons (pv 0) (pa_cons (pe_callB call_len_seq (by rfl) m_len PySem.boot_len (pa_cons (pv 3) pa_nil)) pa_nil))) (fun _ _ => rfl)) (pg_sub (pe_ix ix_list (pe_ix ix_list (pv 1) pe_int (fun _ _ => rfl)) (pe_call G_take hr (by rfl) D_take.g D_take.F.kp D_take.b .nil pass0 (pa_cons (pv 0) (pa_cons (pe_callB call_len_seq (by rfl) m_len PySem.boot_len (pa_cons (pe_ix ix_list (pv 1) pe_int (fun _ _ => rfl)) pa_nil)) pa_nil))) (fun _ _ => rfl)) pe_int set_list)))) pss_nil)
      (pss_cons (ps_if (PW.pt (pw_and (pt_cmpR op_eq (pv 2) pe_int (nomark _)) (pw_and1 (pt_cmpR (op_neE hr.units) (pe_ix ix_list (pv 1) pe_int (fun _ _ => rfl)) (pe_lst pa_nil) (nomark _))))) (pss_one (ps_asg (pe_ix ix_list (pe_lst (pa_cons pe_str (pa_cons pe_str (pa_cons pe_str (pa_cons pe_str pa_nil))))) (pe_call G_take hr (by rfl) D_take.g D_take.F.kp D_take.b .nil pass0 (pa_cons (pv 0) (pa_cons pe_int pa_nil))) (fun _ _ => rfl)) (pg_sub (pe_ix ix_list (pe_ix ix_list (pv 1) pe_int (fun _ _ => rfl)) (pe_call G_take hr (by rfl) D_take.g D_take.F.kp D_take.b .nil pass0 (pa_cons (pv 0) (pa_cons (pe_callB call_len_seq (by rfl) m_len PySem.boot_len (pa_cons (pe_ix ix_list (pv 1) pe_int (fun _ _ => rfl)) pa_nil)) pa_nil))) (fun _ _ => rfl)) pe_int set_list))) pss_nil)
      (pss_one (ps_if (PW.pt (pw_and (pt_cmpR op_eq (pv 2) pe_int (nomark _)) (pw_and (pt_cmpR (op_neE hr.units) (pe_ix ix_list (pv 1) pe_int (fun _ _ => rfl)) (pe_lst pa_nil) (nomark _)) (pw_and1 (pt_cmpR op_lt (pe_callB call_len_seq (by rfl) m_len PySem.boot_len (pa_cons (pe_ix ix_list (pv 1) pe_int (fun _ _ => rfl)) pa_nil)) pe_int (nomark _)))))) (pss_one (ps_expr (pe_bm PySem.F.plainAttrs_list PySem.F.slot_list_append PySem.F.type_list_append mt_append (pe_ix ix_list (pv 1) pe_int (fun _ _ => rfl)) (pa_cons (pe_lst (pa_cons (pe_call G_name hr (by rfl) D_name.g D_name.F.kp D_name.b .nil pass0 (pa_cons (pv 0) pa_nil)) (pa_cons pe_str pa_nil))) pa_nil)))) (pss_one (ps_if (PW.pt (pw_and (pt_cmpR op_eq (pv 2) pe_int (nomark _)) (pw_and1 (pt_cmpR op_lt (pe_callB call_len_seq (by rfl) m_len PySem.boot_len (pa_cons (pe_ix ix_list (pv 1) pe_int (fun _ _ => rfl)) pa_nil)) pe_int (nomark _))))) (pss_one (ps_expr (pe_bm PySem.F.plainAttrs_list PySem.F.slot_list_append PySem.F.type_list_append mt_append (pe_ix ix_list (pv 1) pe_int (fun _ _ => rfl)) (pa_cons (pe_lst (pa_cons (pe_call G_name hr (by rfl) D_name.g D_name.F.kp D_name.b .nil pass0 (pa_cons (pv 0) pa_nil)) (pa_cons (pe_lst pa_nil) (pa_cons (pe_lst pa_nil) (pa_cons (pe_lst pa_nil) (pa_cons (pe_lst pa_nil) pa_nil)))))) pa_nil)))) pss_nil))))), ?_⟩
    have dec : ∀ (x y : Int), (decide (V.int x = V.int y) = true) ↔ x = y := fun x y => ⟨fun h => V.int.inj (of_decide_eq_true h), fun h => by rw [h]; exact decide_eq_true rfl⟩
    -- a place's name
    refine ts_gen (t := tIfS _ _ _) (fun σ' H' => (∃ (x3 : Option V), σ' = [some (.ref p), some (.ref a), some (.int way), x3, none]) ∧ ((way = 2 ∧ Spo 1000 ϕ κ H κ H' p) ∨ (way ≠ 2 ∧ H' = H))) (fun κ' c => ?_) ?_
    · refine ⟨.int way, rfl, rfl, _, rfl, ite2 (fun e => ?_) (fun e => ?_)⟩
      · have w2 : way = 2 := (dec _ _).mp e
        refine ⟨.ref a, rfl, a, _, 2, .ref ap, rfl, rfl, SqL.of ea, rfl, by show 0 ≤ sizeLine; decide, fun q0 m0 => ⟨ap, q0, _, rfl, rfl, same_upd m0 _ _ epl, upd_same, _, rfl, ite2 (fun e2 => ?_) (fun e2 => ?_)⟩⟩
        · have xp0 : 0 < xp.length := by
            cases xp with
            | nil => cases e2
            | cons _ _ => exact Nat.succ_pos _
          have s1 := same_upd (o := .lst []) m0
          have p1 := hp.new (o := .lst []) m0
          revert s1 p1
          generalize upd H q0 (.lst []) = H1
          intro s1 p1
          refine ⟨.ref a, rfl, a, _, 1, .ref ao, rfl, rfl, SqL.of (s1 _ _ ea), rfl, .ref a, rfl, a, _, 2, .ref ap, rfl, rfl, SqL.of (s1 _ _ ea), rfl, ao, ap, _, _, rfl, rfl, s1 _ _ eo, s1 _ _ epl, by rw [List.length_map, List.length_map]; have := ho.1; omega, fun l2 n2 => ?_⟩
          rw [← List.map_append]
          have s2 := same_upd (o := .lst ((xo ++ xp).map V.ref)) n2
          have e2' : (upd H1 l2 (.lst ((xo ++ xp).map V.ref))) l2 = some (.lst ((xo ++ xp).map V.ref)) := upd_same
          revert s2 e2'
          generalize upd H1 l2 (.lst ((xo ++ xp).map V.ref)) = H2
          intro s2 e2'
          have S2 := s1.trans s2
          have names : ∀ x ∈ xo ++ xp, ∃ (z : Str) (r : List V), H x = some (.lst (.str z :: r)) ∧ nm (tl z) = true := fun x hx => by
            rcases List.mem_append.mp hx with h | h
            · obtain ⟨j, hj, ej⟩ := List.mem_iff_getElem.mp h
              obtain ⟨o, _, h1, h2⟩ := ho.2 j x (by rw [List.getElem?_eq_getElem hj, ej])
              exact ⟨o.long, _, h1, h2.long⟩
            · obtain ⟨_, pp, h1, h2⟩ := hxp x h
              exact ⟨pp.name, _, h1, h2.name⟩
          have lxx : (xo ++ xp).length ≤ 18 := by rw [List.length_append]; have := ho.1; omega
          have lxx0 : 0 < (xo ++ xp).length := by rw [List.length_append]; omega
          revert names lxx lxx0 e2'
          generalize xo ++ xp = xx
          intro e2' names lxx lxx0
          refine ⟨l2, rfl, ⟨_, SqL.of e2'⟩, fun D nD => ?_⟩
          refine lc_list (K := K) (a := l2) (xs := xx.map V.ref) (fun i Hc => Same H2 Hc ∧ ∃ zs : List Str, Hc D = some (.lst (zs.map V.str)) ∧ zs.length = i ∧ ∀ z ∈ zs, nm (tl z) = true) ⟨same_upd nD, [], upd_same, rfl, fun z hz => by cases hz⟩ (fun i Hc _ h => SqL.of (h.1 _ _ e2')) (fun i v Hc hv ⟨sc, zs, eD, lz, hz⟩ => ?_) (fun H3 ⟨s3, zs, eD, lz, hz⟩ => ?_)
          · rw [List.getElem?_map] at hv
            obtain ⟨x, hx, rfl⟩ := Option.map_eq_some_iff.mp hv
            have hi : i < xx.length := (List.getElem?_eq_some_iff.mp hx).1
            obtain ⟨z, rr, ex, nz⟩ := names x (List.mem_of_getElem? hx)
            refine ⟨rfl, .ref x, rfl, x, _, 0, .str z, rfl, rfl, SqL.of (sc _ _ (S2 _ _ ex)), atI_nat (j := 0) rfl, _, eD, by rw [List.length_map]; omega, fun b' u e => ?_, zs ++ [z], ?_, by rw [List.length_append, lz]; rfl, fun y hy => ?_⟩
            · rw [upd_ne (ne_of_none e nD)]
              exact sc _ _ e
            · rw [upd_same, List.map_append]
              rfl
            · rcases List.mem_append.mp hy with h | h
              · exact hz y h
              · rw [List.mem_singleton.mp h]
                exact nz
          rw [List.length_map] at lz
          have S3 := S2.trans s3
          have p3 := hp.same S3
          have nDp : D ≠ p := ((hp.same S2).ne nD).symm
          refine ⟨.ref D, rfl, .ref p, rfl, .ref D, rfl, D, _, rfl, .inl (SqL.of eD), p, _, rfl, p3, by rw [List.length_map]; omega, by rw [List.length_map]; omega, fun H4 d4 b4 p4 d40 d41 => ?_⟩
          rw [List.length_map] at d41
          obtain ⟨z, hzm, hze⟩ := at_strs zs d4 d40 d41
          refine ⟨D, _, _, .str z, rfl, rfl, SqL.of (b4 _ _ nDp eD), hze, ?_⟩
          have B4 : But p H H4 := (But.of_same S3).trans b4
          have ea4 := B4 _ _ nap ea
          have ep4 := B4 _ _ npp epl
          refine ⟨.ref a, rfl, a, _, 2, .ref ap, rfl, rfl, SqL.of ea4, rfl, .ref p, rfl, .ref a, rfl, a, _, 2, .ref ap, rfl, rfl, SqL.of ea4, rfl, ap, _, rfl, .inl (SqL.of ep4), p, _, rfl, p4, by rw [List.length_map]; omega, by rw [List.length_map]; omega, fun H5 d5 b5 p5 d50 d51 => ?_⟩
          rw [List.length_map] at d51
          obtain ⟨j, rfl⟩ := Int.eq_ofNat_of_zero_le d50
          have hj : j < xp.length := by omega
          obtain ⟨kpl1, pp, ep1, okp⟩ := hxp _ (List.getElem_mem hj)
          have np1 := typ kpl1 (by simp)
          have B5 := B4.trans b5
          refine ⟨ap, _, _, .ref xp[j], rfl, rfl, SqL.of (b5 _ _ npp ep4), atI_nat (by rw [List.getElem?_map, List.getElem?_eq_getElem hj]; rfl), xp[j], _, 0, 0, rfl, rfl, B5 _ _ np1 ep1, rfl, ?_⟩
          refine c _ _ ⟨⟨_, rfl⟩, .inl ⟨w2, Spo.put th hp B5 p5 (by rw [kpl1]; simp) ?_⟩⟩
          rw [kpl1]
          exact ⟨⟨z, pp.many, pp.maker, pp.dflt, pp.about⟩, upd_same, ⟨hz z hzm, okp.many, okp.tm, okp.maker, okp.dflt, okp.about⟩⟩
        · exact c _ _ ⟨⟨_, rfl⟩, .inl ⟨w2, Spo.of_but th hp (But.new m0) (hp.new m0)⟩⟩
      · exact c _ _ ⟨⟨_, rfl⟩, .inr ⟨fun z => e ((dec _ _).mpr z), rfl⟩⟩
    rintro σ1 H1 ⟨⟨x3, rfl⟩, hs1⟩
    -- how many it takes
    dsimp only [tNext, tSeq]
    refine ts_gen (t := tIfS _ _ _) (fun σ' H' => σ' = [some (.ref p), some (.ref a), some (.int way), x3, none] ∧ ((way ≠ 4 ∧ Spo 1000 ϕ κ H κ H' p) ∨ (way ≠ 2 ∧ way ≠ 3 ∧ H' = H))) (fun κ' c => ?_) ?_
    · refine ⟨.int way, rfl, rfl, _, rfl, ite2 (fun e => ?_) (fun e => ?_)⟩
      · have w3 : way = 3 := (dec _ _).mp e
        have hH : H1 = H := by
          rcases hs1 with ⟨h, _⟩ | ⟨_, h⟩
          · omega
          · exact h
        subst hH
        refine ⟨.ref a, rfl, a, _, 2, .ref ap, rfl, rfl, SqL.of ea, rfl, by show 0 ≤ sizeLine; decide, fun q0 m0 => ⟨ap, q0, _, rfl, rfl, same_upd m0 _ _ epl, upd_same, _, rfl, ite2 (fun e2 => ?_) (fun e2 => ?_)⟩⟩
        · have xp0 : 0 < xp.length := by
            cases xp with
            | nil => cases e2
            | cons _ _ => exact Nat.succ_pos _
          have b1 : But p H1 (upd H1 q0 (.lst [])) := But.new m0
          have p1 := hp.new (o := .lst []) m0
          revert b1 p1
          generalize upd H1 q0 (.lst []) = H2
          intro b1 p1
          refine ⟨by decide +kernel, fun l3 n3 => ?_⟩
          have p2 := p1.new (o := .lst (WP.manies.map V.str)) n3
          have n3p : l3 ≠ p := (p1.ne n3).symm
          refine ⟨.ref p, rfl, p, 4, rfl, p2, by decide, by decide, fun H4 d4 b4 p4 d40 d41 => ?_⟩
          obtain ⟨z, hzm, hze⟩ := at_strs WP.manies d4 d40 (by show d4 < 4; exact d41)
          obtain ⟨am, lz, hz8⟩ := manies_ok z hzm
          refine ⟨l3, _, d4, .str z, rfl, rfl, SqL.of (b4 _ _ n3p upd_same), hze, ?_⟩
          have B4 : But p H1 H4 := (b1.trans (But.new n3)).trans b4
          have ea4 := B4 _ _ nap ea
          have ep4 := B4 _ _ npp epl
          refine ⟨.ref a, rfl, a, _, 2, .ref ap, rfl, rfl, SqL.of ea4, rfl, .ref p, rfl, .ref a, rfl, a, _, 2, .ref ap, rfl, rfl, SqL.of ea4, rfl, ap, _, rfl, .inl (SqL.of ep4), p, _, rfl, p4, by rw [List.length_map]; omega, by rw [List.length_map]; omega, fun H5 d5 b5 p5 d50 d51 => ?_⟩
          rw [List.length_map] at d51
          obtain ⟨j, rfl⟩ := Int.eq_ofNat_of_zero_le d50
          have hj : j < xp.length := by omega
          obtain ⟨kpl1, pp, ep1, okp⟩ := hxp _ (List.getElem_mem hj)
          have np1 := typ kpl1 (by simp)
          have B5 := B4.trans b5
          refine ⟨ap, _, _, .ref xp[j], rfl, rfl, SqL.of (b5 _ _ npp ep4), atI_nat (by rw [List.getElem?_map, List.getElem?_eq_getElem hj]; rfl), xp[j], _, 1, 1, rfl, rfl, B5 _ _ np1 ep1, rfl, ?_⟩
          refine c _ _ ⟨rfl, .inl ⟨by omega, Spo.put th hp B5 p5 (by rw [kpl1]; simp) ?_⟩⟩
          rw [kpl1]
          exact ⟨⟨pp.name, z, pp.maker, pp.dflt, pp.about⟩, upd_same, ⟨okp.name, am, ⟨lz, hz8⟩, okp.maker, okp.dflt, okp.about⟩⟩
        · exact c _ _ ⟨rfl, .inl ⟨by omega, Spo.of_but th hp (But.new m0) (hp.new m0)⟩⟩
      · have w3 : way ≠ 3 := fun z => e ((dec _ _).mpr z)
        rcases hs1 with ⟨h, hs⟩ | ⟨h, rfl⟩
        · exact c _ _ ⟨rfl, .inl ⟨by omega, hs⟩⟩
        · exact c _ _ ⟨rfl, .inr ⟨h, w3, rfl⟩⟩
    rintro σ2 H2 ⟨rfl, hs2⟩
    -- one more
    have fin : ∀ {Hx : Hp}, way ≠ 4 → Hx = H2 → Q .non Hx := fun {Hx} w4 hx => by
      subst hx
      rcases hs2 with ⟨_, hs⟩ | ⟨_, _, rfl⟩
      · exact q _ κ (hs.weak (by omega))
      · exact q _ κ ((Spo.of_but th hp (But.refl _ _) hp).weak (by omega))
    dsimp only [tIfS, tSeq, tNext]
    refine tt_gen (t := tAnd _ _) (fun b Hx => (b = true → xp.length < 6 ∧ But p H Hx ∧ Pot Hx p) ∧ (b = false → (way ≠ 4 ∧ Hx = H2) ∨ (way = 4 ∧ But p H Hx ∧ Pot Hx p))) (fun R c => ?_) ?_
    · refine ⟨.int way, rfl, rfl, _, rfl, ite2 (fun e => ?_) (fun e => ?_)⟩
      · have w4 : way = 4 := (dec _ _).mp e
        have hH : H2 = H := by
          rcases hs2 with ⟨h, _⟩ | ⟨_, _, h⟩
          · exact absurd w4 h
          · exact h
        subst hH
        refine ⟨.ref a, rfl, a, _, 4, .ref ab, rfl, rfl, SqL.of ea, rfl, by show 0 ≤ sizeLine; decide, fun q0 m0 => ⟨ab, q0, _, rfl, rfl, same_upd m0 _ _ eb, upd_same, _, rfl, ite2 (fun e2 => ?_) (fun e2 => ?_)⟩⟩
        · have b1 : But p H2 (upd H2 q0 (.lst [])) := But.new m0
          have p1 := hp.new (o := .lst []) m0
          refine ⟨.ref a, rfl, a, _, 2, .ref ap, rfl, rfl, SqL.of (b1 _ _ nap ea), rfl, ap, _, rfl, .inl (SqL.of (b1 _ _ npp epl)), _, _, rfl, rfl, _, rfl, c _ _ ⟨fun h => ⟨?_, b1, p1⟩, fun h => .inr ⟨w4, b1, p1⟩⟩⟩
          have h' := of_decide_eq_true h
          rw [List.length_map] at h'
          omega
        · exact c _ _ ⟨fun h => (by cases h), fun _ => .inr ⟨w4, But.new m0, hp.new m0⟩⟩
      · exact c _ _ ⟨fun h => (by cases h), fun _ => .inl ⟨fun z => e ((dec _ _).mpr z), rfl⟩⟩
    intro b Hx hD
    cases b with
    | true =>
      obtain ⟨hl6, bx, px⟩ := hD.1 rfl
      rw [if_pos rfl]
      have eax := bx _ _ nap ea
      refine ⟨.ref a, rfl, a, _, 2, .ref ap, rfl, rfl, SqL.of eax, rfl, Or.inl ⟨rfl, _, SqL.of (bx _ _ npp epl)⟩, .ref p, rfl, p, rfl, px, fun H3 y b3 p3 hy => ⟨by show 2 ≤ sizeLine; decide, fun c nc => ?_⟩⟩
      have B3 := bx.trans b3
      have nc0 : H c = none := but_fresh B3 p3 nc
      have ncp : c ≠ p := (p3.ne nc).symm
      have kc := th.fresh nc0
      refine ⟨ap, _, _, rfl, rfl, same_upd nc _ _ (B3 _ _ npp epl), by rw [List.length_map]; omega, ?_⟩
      have B4 := B3.trans (But.new (o := .lst [.str y, .str (Str.ofString "one")]) nc)
      have p4 := p3.new (o := .lst [.str y, .str (Str.ofString "one")]) nc
      have e4 : (upd H3 c (.lst [.str y, .str (Str.ofString "one")])) c = some (.lst [.str y, .str (Str.ofString "one")]) := upd_same
      revert B4 p4 e4
      generalize upd H3 c (.lst [.str y, .str (Str.ofString "one")]) = H4
      intro B4 p4 e4
      have th4 : TH ϕ κ H4 := th.but2 (q := p) (But2.of B4) kp kp
      have th5 : TH ϕ (put κ c .pl) H4 := th4.put kc ⟨⟨y, Str.ofString "one", Str.ofString "word", .non, Str.ofString ""⟩, e4, ⟨hy, (manies_ok (Str.ofString "one") (by decide +kernel)).1, ⟨(manies_ok (Str.ofString "one") (by decide +kernel)).2.1, (manies_ok (Str.ofString "one") (by decide +kernel)).2.2⟩, rfl, rfl, rfl⟩⟩
      have nac : ap ≠ c := fun z => by rw [z, kc] at kpl; cases kpl
      refine q _ (put κ c .pl) ⟨fun d o hd hdp ed => ?_, ?_, ⟨fun d hd => ?_, fun d hd => ?_, th5.set ?_, fun d r u e => .inl ?_⟩⟩
      · rw [upd_ne (fun z => by rw [z, kpl] at hd; cases hd)]
        exact B4 _ _ hdp ed
      · obtain ⟨x, y, e, h1, h2⟩ := p4
        exact ⟨x, y, by rw [upd_ne npp.symm]; exact e, h1, h2⟩
      · exact put_ne fun z => hd (by rw [z]; exact nc0)
      · have h1 := but2_al (q := p) (But2.of B4) p4.al p4.al d hd
        by_cases z : d = ap
        · rw [z, upd_same]
          simp
        · rw [upd_ne z]
          exact h1
      · rw [put_ne nac, kpl]
        refine ⟨xp ++ [c], by rw [upd_same, List.map_append]; rfl, by rw [List.length_append]; show _ + 1 ≤ _; omega, fun x hx => ?_⟩
        rcases List.mem_append.mp hx with h | h
        · rw [put_ne (fun z => by have := (hxp x h).1; rw [z, kc] at this; cases this)]
          exact (hxp x h).1
        · rw [List.mem_singleton.mp h, put_same]
      · by_cases z : d = c
        · rw [z, put_same] at e
          cases e
        · rw [put_ne z] at e
          exact e
    | false =>
      rw [if_neg (by decide)]
      have hD2 := hD.2 rfl
      refine ⟨.int way, rfl, rfl, _, rfl, ite2 (fun e => ?_) (fun e => ?_)⟩
      · have w4 : way = 4 := (dec _ _).mp e
        obtain ⟨bx, px⟩ : But p H Hx ∧ Pot Hx p := by
          rcases hD2 with ⟨h, _⟩ | ⟨_, h⟩
          · exact absurd w4 h
          · exact h
        have eax := bx _ _ nap ea
        have ebx := bx _ _ nbp eb
        refine ⟨.ref a, rfl, a, _, 4, .ref ab, rfl, rfl, SqL.of eax, rfl, ab, _, rfl, .inl (SqL.of ebx), _, _, rfl, rfl, _, rfl, ite2 (fun e2 => ?_) (fun e2 => ?_)⟩
        · have h8 := of_decide_eq_true e2
          rw [List.length_map] at h8
          refine ⟨.ref a, rfl, a, _, 4, .ref ab, rfl, rfl, SqL.of eax, rfl, Or.inl ⟨rfl, _, SqL.of ebx⟩, .ref p, rfl, p, rfl, px, fun H3 y b3 p3 hy => ?_⟩
          have B3 := bx.trans b3
          refine ⟨by show 0 ≤ sizeLine; decide, fun l1 n1 => goT n1 fun G1 s1 e1 => ⟨by show 0 ≤ sizeLine; decide, fun l2 n2 => goT n2 fun G2 s2 e2 => ⟨by show 0 ≤ sizeLine; decide, fun l3 n3 => goT n3 fun G3 s3 e3 => ⟨by show 0 ≤ sizeLine; decide, fun l4 n4 => goT n4 fun G4 s4 e4 => ⟨by show 5 ≤ sizeLine; decide, fun c nc => ?_⟩⟩⟩⟩⟩
          have S4 := ((s1.trans s2).trans s3).trans s4
          have B4 : But p H G4 := B3.trans (But.of_same S4)
          have p4 := p3.same S4
          have f1 : H l1 = none := but_fresh B3 p3 n1
          have f2 : H l2 = none := but_fresh (B3.trans (But.of_same s1)) (p3.same s1) n2
          have f3 : H l3 = none := but_fresh (B3.trans (But.of_same (s1.trans s2))) (p3.same (s1.trans s2)) n3
          have f4 : H l4 = none := but_fresh (B3.trans (But.of_same ((s1.trans s2).trans s3))) (p3.same ((s1.trans s2).trans s3)) n4
          have fc : H c = none := but_fresh B4 p4 nc
          have d21 : l2 ≠ l1 := fun z => by rw [z, e1] at n2; cases n2
          have d31 : l3 ≠ l1 := fun z => by rw [z, s2 _ _ e1] at n3; cases n3
          have d32 : l3 ≠ l2 := fun z => by rw [z, e2] at n3; cases n3
          have d41 : l4 ≠ l1 := fun z => by rw [z, s3 _ _ (s2 _ _ e1)] at n4; cases n4
          have d42 : l4 ≠ l2 := fun z => by rw [z, s3 _ _ e2] at n4; cases n4
          have d43 : l4 ≠ l3 := fun z => by rw [z, e3] at n4; cases n4
          have g1 := s4 _ _ (s3 _ _ (s2 _ _ e1))
          have g2 := s4 _ _ (s3 _ _ e2)
          have g3 := s4 _ _ e3
          have c1 : c ≠ l1 := fun z => by rw [z, g1] at nc; cases nc
          have s5 := same_upd (o := .lst [V.str y, V.ref l1, V.ref l2, V.ref l3, V.ref l4]) nc
          have e5 : (upd G4 c (.lst [V.str y, V.ref l1, V.ref l2, V.ref l3, V.ref l4])) c = some (.lst [V.str y, V.ref l1, V.ref l2, V.ref l3, V.ref l4]) := upd_same
          show rAppend (V.ref ab) [V.ref c] _ _
          revert s5 e5
          generalize upd G4 c (.lst [V.str y, V.ref l1, V.ref l2, V.ref l3, V.ref l4]) = G5
          intro s5 e5
          have B5 := B4.trans (But.of_same s5)
          have p5 := p4.same s5
          have eb5 := B5 _ _ nbp eb
          have S5 : Spo m ϕ κ H κ G5 p := (Spo.of_but th hp B5 p5).weak (by omega)
          have th6 : TH ϕ (put κ l1 .ops) G5 := S5.g.th.put (th.fresh f1) ⟨[], s5 _ _ g1, by decide, fun x hx => by cases hx⟩
          have al : ∀ {b : Addr} {s : Rl}, κ b = s → s ≠ .no → put κ l1 .ops b = s := fun {b s} h1 h2 => by
            rw [put_ne (fun z => h2 (by rw [← h1, z]; exact th.fresh f1))]
            exact h1
          have S6 : Spo m ϕ κ H (put κ l1 .ops) G5 p := ⟨S5.fr, S5.p, fun b hb => put_ne fun z => hb (by rw [z]; exact f1), S5.g.al, th6, fun b r u e => by
            by_cases z : b = l1
            · rw [z, put_same] at e
              cases e
            · rw [put_ne z] at e
              exact .inl e⟩
          obtain ⟨r2, rfl⟩ : ∃ r2, r' = r2 + 1 := ⟨r' - 1, by omega⟩
          obtain ⟨κ', S', _⟩ := spo_node (r := r2) (W := ϕ) S6 (.inl (by rw [kb]; simp)) (al kb (by simp)) eb5 (by omega) (hb.mono fun x u h => al h (by simp)) (by omega) (Nat.le_refl _) (by omega) put_same (s5 _ _ g2) (by rw [put_ne d21]; exact th.fresh f2) (s5 _ _ g3) (by rw [put_ne d31]; exact th.fresh f3) (s5 _ _ e4) (by rw [put_ne d41]; exact th.fresh f4) e5 (by rw [put_ne c1]; exact th.fresh fc) hy d32.symm d42.symm d43.symm f2 f3 f4 fc
          refine ⟨ab, _, _, rfl, rfl, eb5, by rw [List.length_map]; omega, ?_⟩
          rw [List.map_append] at S'
          exact q _ κ' S'
        · exact q _ κ ((Spo.of_but th hp bx px).weak (by omega))
      · have w4 : way ≠ 4 := fun z => e ((dec _ _).mpr z)
        rcases hD2 with ⟨_, h⟩ | ⟨h, _⟩
        · exact fin w4 h
        · exact absurd h w4
end
end WB

set_option Elab.async false
set_option linter.all false
set_option maxRecDepth 100000
set_option maxHeartbeats 4000000
namespace WB
open PySem PySem.Spec PyProof.Rows L2 WG
open TL (tl)
abbrev st_deepened : Stmt := topS 75
theorem sc_deepened : FnScope ["_law_pot_here", "_law_tree_here", "_law_turn"] ["_law_pot_here", "_law_tree_here"] (defScope st_deepened) := ⟨rfl, rfl, rfl, by decide +kernel, rfl, by decide +kernel, by decide +kernel⟩
section
variable {P : Program} {w : World} {K : PySem.W.Frag} {mg : Str → Option Value} {base : Heap}
def spDeep (m ϕ : Nat) : Sp := fun vs H Q _ => ∃ (p a : Addr) (κ : Addr → Rl) (r u : Nat), vs = [.ref p, .ref a] ∧ Pot H p ∧ TH (5 * ϕ + 4) κ H ∧ κ a = .node r u ∧ m + 4 ≤ r ∧ 1 ≤ m ∧ m ≤ 900 ∧ ∀ H' κ', Spo m ϕ κ H κ' H' p → Q .non H'
/-- a node that has room -/
structure Nd (ϕ cap m : Nat) (κ : Addr → Rl) (H : Hp) (a : Addr) : Prop where
  ex : ∃ (n : Str) (ao ap ag ab : Addr) (r w : Nat) (xb : List Addr) (ws : List Nat), H a = some (.lst [.str n, .ref ao, .ref ap, .ref ag, .ref ab]) ∧ κ a = .node (r + 1) (w + 1) ∧ m ≤ r ∧ κ ab = .bel r w ∧ H ab = some (.lst (xb.map V.ref)) ∧ xb.length ≤ 8 ∧ All2 (fun x u => κ x = .node r u) xb ws ∧ ws.sum + cap + ϕ ≤ w
theorem Spo.but {m ϕ : Nat} {κ κ1 : Addr → Rl} {H H1 H2 : Hp} {p : Addr} (S : Spo m ϕ κ H κ1 H1 p) (b : But p H1 H2) (p2 : Pot H2 p) : Spo m ϕ κ H κ1 H2 p := by
  have kp := S.g.th.pot S.p
  exact ⟨fun c o h1 h2 h3 => b _ _ h2 (S.fr c o h1 h2 h3), p2, S.g.trans (Gw.refl (but2_al (q := p) (But2.of b) p2.al p2.al) (S.g.th.but2 (q := p) (But2.of b) kp kp))⟩
theorem Spo.young {m ϕ : Nat} {κ κ1 : Addr → Rl} {H H1 : Hp} {p q : Addr} (S : Spo m ϕ κ H κ1 H1 p) (n : H1 q = none) : H q = none := by
  cases e : H q with
  | none => rfl
  | some o => exact absurd n (S.g.al q (by rw [e]; simp))
theorem Spo.but2 {m ϕ : Nat} {κ κ1 κ2 : Addr → Rl} {H H1 H2 : Hp} {p q : Addr} (S : Spo m ϕ κ H κ1 H1 p) (fq : H q = none) (b : But2 p q H1 H2) (p2 : Pot H2 p) (g : Gw m ϕ κ1 H1 κ2 H2) : Spo m ϕ κ H κ2 H2 p :=
  ⟨fun c o h1 h2 h3 => b _ _ h2 (fun z => by rw [z, fq] at h3; cases h3) (S.fr c o h1 h2 h3), p2, S.g.trans g⟩
theorem Nd.weak {ϕ cap cap' m m' : Nat} {κ : Addr → Rl} {H : Hp} {a : Addr} (h : Nd ϕ cap m κ H a) (l : cap' ≤ cap) (lm : m' ≤ m) : Nd ϕ cap' m' κ H a := by
  obtain ⟨n, ao, ap, ag, ab, r, w, xb, ws, h1, h2, h3, h4, h5, h6, h7, h8⟩ := h.ex
  exact ⟨n, ao, ap, ag, ab, r, w, xb, ws, h1, h2, by omega, h4, h5, h6, h7, by omega⟩
theorem cap_s {ϕ i : Nat} (h : i ≤ 3) : (4 - i) * (1 + ϕ) = (4 - (i + 1)) * (1 + ϕ) + (1 + ϕ) := by
  obtain ⟨t, ht⟩ : ∃ t, 4 - i = t + 1 := ⟨3 - i, by omega⟩
  rw [ht, show 4 - (i + 1) = t from by omega, Nat.succ_mul]
theorem ok_deep {f fT fN fU fO : Addr} {fd fdT fdN fdU fdO : FuncData} {k m ϕ : Nat} (F : Fun K "_law_deepened" "_law_deepened" st_deepened f fd) (D_take : Df K mg "_law_take" sTake ["_law_pot_here", "_law_room"] fT fdT) (D_name : Df K mg "_law_name" sName ["_law_pot_here"] fN fdN) (D_unlike : Df K mg "_law_unlike" st_unlike ["_law_pot_here", "_law_seen"] fU fdU) (D_options : Df K mg "_law_options" st_options ["_law_pot_here", "_law_seen"] fO fdO) (m_len : mg "len" = none) (m_range : mg "range" = none) (m_int : mg "int" = none) :
    FnOk P w K mg base CX0 (k + 5) f fd ["_law_pot_here", "_law_tree_here"] (spDeep m ϕ) := by
  have G_take : FnOk P w K mg base CX0 (k + 4) fT fdT ["_law_pot_here", "_law_room"] spTake := ok_take D_take.F
  have G_name : FnOk P w K mg base CX0 (k + 4) fN fdN ["_law_pot_here"] spNm := ok_nm D_name.F D_take m_len m_range
  have G_options : FnOk P w K mg base CX0 (k + 4) fO fdO ["_law_pot_here", "_law_seen"] (spNewL ϕ .ops) := ok_options D_options.F D_take D_name D_unlike m_len m_range m_int
  refine F.ok sc_deepened (fun vs H Q E h => ?_) (fun cdv A outer s H vs Q E hr h => ?_)
  · obtain ⟨p, a, κ, r, u, rfl, _⟩ := h
    rfl
  · obtain ⟨p, a, κ, r, u, rfl, hp, th0, ka, hr4, hm1, hm900, q⟩ := h
    have sl : sizeLine = 16777216 := sizeLine_eq
    have kp := th0.pot hp
    have th : TH ϕ κ H := th0.weak (by omega)
    refine ⟨_, pss_one (ps_for PassesOwn.never rfl (pi_range1 rfl m_range (pa_cons (pe_op op_add pe_int (pe_call G_take hr (by rfl) D_take.g D_take.F.kp D_take.b .nil pass0 (pa_cons (pv 0) (pa_cons pe_int pa_nil)))) pa_nil)) (pg_name (i := 2) sc_deepened.nd rfl (Or.inl rfl)) (pss_one (ps_if (pt_cmpR op_lt (pe_callB call_len_seq (by rfl) m_len PySem.boot_len (pa_cons (pe_ix ix_list (pv 1) pe_int (fun _ _ => rfl)) pa_nil)) pe_int (nomark _)) (pss_cons (ps_expr (pe_bm PySem.F.plainAttrs_list PySem.F.slot_list_append PySem.F.type_list_append mt_append (pe_ix ix_list (pv 1) pe_int (fun _ _ => rfl)) (pa_cons (pe_lst (pa_cons (pe_call G_name hr (by rfl) D_name.g D_name.F.kp D_name.b .nil pass0 (pa_cons (pv 0) pa_nil)) (pa_cons (pe_call G_options hr (by rfl) D_options.g D_options.F.kp D_options.b .nil pass0 (pa_cons (pv 0) (pa_cons (pe_lst pa_nil) pa_nil))) (pa_cons (pe_lst pa_nil) (pa_cons (pe_lst pa_nil) (pa_cons (pe_lst pa_nil) pa_nil)))))) pa_nil)))
      (pss_one (ps_set (i := 1) sc_deepened.nd rfl (.inl rfl) (pe_ix ix_list (pe_ix ix_list (pv 1) pe_int (fun _ _ => rfl)) (pe_un un_neg pe_int) (fun _ _ => rfl))))) pss_nil))), ?_⟩
    refine ⟨.ref p, rfl, p, 4, rfl, hp, by decide, by decide, fun H1 d1 b1 p1 d10 d11 => ?_⟩
    obtain ⟨n0, ao0, ap0, ag0, ab0, r0, w0, xb0, ws0, ⟨hr0, hw0⟩, ea0, _, _, _, _, kb0, eb0, lb0, hb0, sb0⟩ := th0.nd ka
    have S1 : Spo m ϕ κ H κ H1 p := (Spo.of_but th hp b1 p1).weak (by omega)
    have nap0 : a ≠ p := fun z => by rw [z, kp] at ka; cases ka
    have nbp0 : ab0 ≠ p := fun z => by rw [z, kp] at kb0; cases kb0
    refine ⟨_, _, rfl, rfl, 1 + d1, rfl, by omega, by omega, for_range (lo := 0) (n := (1 + d1).toNat) (fun i σ Hc => ∃ (κc : Addr → Rl) (ac : Addr) (x2 : Option V), Spo m ϕ κ H κc Hc p ∧ Nd ϕ ((4 - i) * (1 + ϕ)) (m + 3 - i) κc Hc ac ∧ σ = [some (.ref p), some (.ref ac), x2])
      ⟨κ, a, none, S1, ⟨n0, ao0, ap0, ag0, ab0, r0, w0, xb0, ws0, b1 _ _ nap0 ea0, by rw [ka, hr0, hw0], by omega, kb0, b1 _ _ nbp0 eb0, lb0, hb0, by omega⟩, rfl⟩ ?_ ?_⟩
    · rintro i σ Hc hi ⟨κc, ac, x2, S, ND, rfl⟩
      have hi3 : i ≤ 3 := by omega
      have cs := cap_s (ϕ := ϕ) hi3
      obtain ⟨n, ao, ap, ag, ab, r, w, xb, ws, ea, kac, hmr, kab, eb, lb, hb, sb⟩ := ND.ex
      have thc := S.g.th
      have kpc := thc.pot S.p
      have nap : ac ≠ p := fun z => by rw [z, kpc] at kac; cases kac
      have nbp : ab ≠ p := fun z => by rw [z, kpc] at kab; cases kab
      refine ⟨.ref ac, rfl, ac, _, 4, .ref ab, rfl, rfl, SqL.of ea, rfl, ab, _, rfl, .inl (SqL.of eb), _, _, rfl, rfl, _, rfl, ite2 (fun e => ?_) (fun e => ?_)⟩
      · have h8 := of_decide_eq_true e
        rw [List.length_map] at h8
        refine ⟨.ref ac, rfl, ac, _, 4, .ref ab, rfl, rfl, SqL.of ea, rfl, Or.inl ⟨rfl, _, SqL.of eb⟩, .ref p, rfl, p, rfl, S.p, fun H2 y b2 p2 hy => ?_⟩
        refine ⟨.ref p, rfl, by show 0 ≤ sizeLine; decide, fun q0 nq => goT nq fun H3 s3 eq3 => ?_⟩
        have S3 : Spo m ϕ κ H κc H3 p := S.but (b2.trans (But.of_same s3)) (p2.same s3)
        have S2 : Spo m ϕ κ H κc H2 p := S.but b2 p2
        have kq : κc q0 = .no := S2.g.th.fresh nq
        have nqp : q0 ≠ p := (p2.ne nq).symm
        refine ⟨p, q0, [], κc, rfl, S3.p, nqp, eq3, by decide, S3.g.th, kq, fun H4 l1 κ4 seen4 b4 p4 eq4 ls4 g4 kl1 fl1 => ?_⟩
        have S4 : Spo m ϕ κ H κ4 H4 p := S3.but2 (S2.young nq) b4 p4 (g4.mono (by omega))
        have tr : ∀ {b : Addr} {s : Rl}, κc b = s → s ≠ .no → κ4 b = s := fun {b s} h1 h2 => g4.rl S3.g.th h1 h2
        have ke : ∀ {b : Addr} {o : HO} {s : Rl}, κc b = s → s ≠ .no → Hc b = some o → H4 b = some o := fun {b o s} h1 h2 h3 => b4 _ _ (fun z => h2 (by rw [← h1, z]; exact kpc)) (fun z => h2 (by rw [← h1, z]; exact kq)) (s3 _ _ (b2 _ _ (fun z => h2 (by rw [← h1, z]; exact kpc)) h3))
        refine ⟨by show 0 ≤ sizeLine; decide, fun l2 n2 => goT n2 fun G2 s2 e2 => ⟨by show 0 ≤ sizeLine; decide, fun l3 n3 => goT n3 fun G3 s3 e3 => ⟨by show 0 ≤ sizeLine; decide, fun l4 n4 => goT n4 fun G4 s4 e4 => ⟨by show 5 ≤ sizeLine; decide, fun c nc => ?_⟩⟩⟩⟩
        have f2 : H l2 = none := S4.young n2
        have f3 : H l3 = none := S4.young (fresh_of s2 n3)
        have f4 : H l4 = none := S4.young (fresh_of (s2.trans s3) n4)
        have S24 := (s2.trans s3).trans s4
        have fc0 := fresh_of S24 nc
        have fc : H c = none := S4.young fc0
        have d32 : l3 ≠ l2 := fun z => by rw [z, e2] at n3; cases n3
        have d42 : l4 ≠ l2 := fun z => by rw [z, s3 _ _ e2] at n4; cases n4
        have d43 : l4 ≠ l3 := fun z => by rw [z, e3] at n4; cases n4
        have g2 := s4 _ _ (s3 _ _ e2)
        have g3 := s4 _ _ e3
        have s5 := same_upd (o := .lst [V.str y, V.ref l1, V.ref l2, V.ref l3, V.ref l4]) nc
        have e5 : (upd G4 c (.lst [V.str y, V.ref l1, V.ref l2, V.ref l3, V.ref l4])) c = some (.lst [V.str y, V.ref l1, V.ref l2, V.ref l3, V.ref l4]) := upd_same
        revert s5 e5
        generalize upd G4 c (.lst [V.str y, V.ref l1, V.ref l2, V.ref l3, V.ref l4]) = G5
        intro s5 e5
        have S45 := S24.trans s5
        have S5 : Spo m ϕ κ H κ4 G5 p := S4.but (But.of_same S45) (p4.same S45)
        have eb5 := S45 _ _ (ke kab (by simp) eb)
        have ea5 := S45 _ _ (ke kac (by simp) ea)
        obtain ⟨r2, rfl⟩ : ∃ r2, r = r2 + 1 := ⟨r - 1, by omega⟩
        obtain ⟨W, hW⟩ : ∃ W, (4 - i) * (1 + ϕ) = W + 1 := ⟨(4 - (i + 1)) * (1 + ϕ) + ϕ, by rw [cs]; omega⟩
        have hb4 : κ ab ≠ .no ∨ H ab = none := by
          cases z : H ab with
          | none => exact .inr rfl
          | some o =>
            refine .inl ?_
            rw [← S.g.k ab (by rw [z]; simp), kab]
            simp
        obtain ⟨κ', S', kc', kn', old⟩ := spo_node (r := r2) (W := W) S5 hb4 (tr kab (by simp)) eb5 (by omega) (hb.mono fun x u h => tr h (by simp)) (by omega) (by omega) (by omega) kl1 (s5 _ _ g2) (S4.g.th.fresh n2) (s5 _ _ g3) (S4.g.th.fresh (fresh_of s2 n3)) (s5 _ _ e4) (S4.g.th.fresh (fresh_of (s2.trans s3) n4)) e5 (S4.g.th.fresh fc0) hy d32.symm d42.symm d43.symm f2 f3 f4 fc
        refine ⟨ab, _, _, rfl, rfl, eb5, by rw [List.length_map]; omega, ?_⟩
        rw [List.map_append] at S'
        have nacb : ac ≠ ab := fun z => by rw [z, kab] at kac; cases kac
        have k4 := S4.g.th.fresh fc0
        have k4n := S4.g.th.fresh (fresh_of (s2.trans s3) n4)
        have k4b := tr kab (by simp)
        have ncb : c ≠ ab := fun z => by rw [z, k4b] at k4; cases k4
        have nnb : l4 ≠ ab := fun z => by rw [z, k4b] at k4n; cases k4n
        refine ⟨.ref ac, rfl, ac, _, 4, .ref ab, rfl, rfl, SqL.of (by rw [upd_ne nacb]; exact ea5), rfl, 1, rfl, ab, _, -1, .ref c, rfl, rfl, SqL.of upd_same, ?_, κ', c, _, S', ⟨y, l1, l2, l3, l4, r2, W, [], [], ?_, kc', by omega, kn', ?_, by decide, All2.nil, ?_⟩, rfl⟩
        · show atI (xb.map V.ref ++ [V.ref c]) (-1) = _
          exact atI_last _ _
        · rw [upd_ne ncb]
          exact e5
        · rw [upd_ne nnb]
          exact s5 _ _ e4
        · show 0 + _ + ϕ ≤ W
          omega
      · exact ⟨κc, ac, _, S, ND.weak (by rw [cs]; omega) (by omega), rfl⟩
    · rintro σ Hc ⟨κc, ac, x2, S, _⟩
      exact q _ κc S
end
end WB

set_option Elab.async false
set_option linter.all false
set_option maxRecDepth 100000
set_option maxHeartbeats 4000000
namespace WB
open PySem PySem.Spec PyProof.Rows L2 WG
open TL (tl)
abbrev st_spoilt : Stmt := topS 76
theorem sc_spoilt : FnScope ["_law_pot_here", "_law_whole", "_law_some", "_law_tree_here", "_law_way", "_law_one"] ["_law_pot_here", "_law_whole"] (defScope st_spoilt) := ⟨rfl, rfl, rfl, by decide +kernel, rfl, by decide +kernel, by decide +kernel⟩
section
variable {P : Program} {w : World} {K : PySem.W.Frag} {mg : Str → Option Value} {base : Heap}
def spSpoilt (R m ϕ : Nat) : Sp := fun vs H Q _ => ∃ (p a : Addr) (κ : Addr → Rl) (u : Nat), vs = [.ref p, .ref a] ∧ Pot H p ∧ TH (5 * ϕ + 4) κ H ∧ κ a = .node R u ∧ u ≤ 5000 ∧ Mn κ (m + 4) ∧ 1 ≤ m ∧ m ≤ 900 ∧ ∀ H' κ', Spo m ϕ κ H κ' H' p → Q .non H'
theorem among_takes {z : Str} {l : List Str} (h : among (.str z) l = true) : z ∈ l := by
  change inV (.str z) (l.map V.str) = true at h
  obtain ⟨y, hy, e⟩ := List.any_eq_true.mp h
  obtain ⟨x, hx, rfl⟩ := List.mem_map.mp hy
  have e' : decide (x = z) = true := e
  rw [← of_decide_eq_true e']
  exact hx
theorem Spo.trans {m ϕ : Nat} {κ κ1 κ2 : Addr → Rl} {H H1 H2 : Hp} {p : Addr} (S : Spo m ϕ κ H κ1 H1 p) (T : Spo m ϕ κ1 H1 κ2 H2 p) : Spo m ϕ κ H κ2 H2 p :=
  ⟨fun b o h1 h2 h3 => T.fr b o (by rw [S.g.k b (by rw [h3]; simp)]; exact h1) h2 (S.fr b o h1 h2 h3), T.p, S.g.trans T.g⟩
theorem Spo.mn {m n ϕ : Nat} {κ κ1 : Addr → Rl} {H H1 : Hp} {p : Addr} (S : Spo m ϕ κ H κ1 H1 p) (h : Mn κ n) (l : m ≤ n) : Mn κ1 m := fun b r u e => by
  rcases S.g.nd b r u e with z | z
  · have := h b r u z
    omega
  · exact z
theorem ok_spoilt {f fT fN fU fO fA fP fL fG fS fE : Addr} {fd fdT fdN fdU fdO fdA fdP fdL fdG fdS fdE : FuncData} {k m ϕ : Nat} (F : Fun K "_law_spoilt" "_law_spoilt" st_spoilt f fd) (D_take : Df K mg "_law_take" sTake ["_law_pot_here", "_law_room"] fT fdT) (D_name : Df K mg "_law_name" sName ["_law_pot_here"] fN fdN) (D_unlike : Df K mg "_law_unlike" st_unlike ["_law_pot_here", "_law_seen"] fU fdU) (D_options : Df K mg "_law_options" st_options ["_law_pot_here", "_law_seen"] fO fdO)
    (D_all : Df K mg "_law_all" st_all ["_law_tree_here"] fA fdA) (D_pair : Df K mg "_law_pair" st_pair ["_law_pot_here", "_law_many"] fP fdP) (D_spoilt_list : Df K mg "_law_spoilt_list" st_spoilt_list ["_law_pot_here", "_law_things", "_law_at_here"] fL fdL) (D_spoilt_group : Df K mg "_law_spoilt_group" st_spoilt_group ["_law_pot_here", "_law_tree_here"] fG fdG) (D_spoilt_places : Df K mg "_law_spoilt_places" st_spoilt_places ["_law_pot_here", "_law_tree_here", "_law_way"] fS fdS) (D_deepened : Df K mg "_law_deepened" st_deepened ["_law_pot_here", "_law_tree_here"] fE fdE) (m_len : mg "len" = none) (m_max : mg "max" = none) (m_range : mg "range" = none) (m_int : mg "int" = none) :
    FnOk P w K mg base CX0 (k + 50) f fd ["_law_pot_here", "_law_whole"] (spSpoilt 44 m ϕ) := by
  have G_take : FnOk P w K mg base CX0 (k + 49) fT fdT ["_law_pot_here", "_law_room"] spTake := ok_take D_take.F
  have G_all : FnOk P w K mg base CX0 (k + 49) fA fdA ["_law_tree_here"] (spAll 44) := ok_all (k := k + 5) D_all 44
  have G_spoilt_list : FnOk P w K mg base CX0 (k + 49) fL fdL ["_law_pot_here", "_law_things", "_law_at_here"] (spSpList ϕ) := ok_spList D_spoilt_list.F D_take D_pair m_len m_max
  have G_spoilt_group : FnOk P w K mg base CX0 (k + 49) fG fdG ["_law_pot_here", "_law_tree_here"] (spNodeS ϕ) := ok_spGroup D_spoilt_group.F D_take m_len
  have G_spoilt_places : FnOk P w K mg base CX0 (k + 49) fS fdS ["_law_pot_here", "_law_tree_here", "_law_way"] (spSpPlaces m ϕ) := ok_spPlaces D_spoilt_places.F D_take D_name m_len m_range
  have G_deepened : FnOk P w K mg base CX0 (k + 49) fE fdE ["_law_pot_here", "_law_tree_here"] (spDeep m ϕ) := ok_deep D_deepened.F D_take D_name D_unlike D_options m_len m_range m_int
  refine F.ok sc_spoilt (fun vs H Q E h => ?_) (fun cdv A outer s H vs Q E hr h => ?_)
  · obtain ⟨p, a, κ, u, rfl, _⟩ := h
    rfl
  · obtain ⟨p, a, κ, u, rfl, hp, th0, ka, hu, mn, hm1, hm900, q⟩ := h
    have sl : sizeLine = 16777216 := sizeLine_eq
    have kp := th0.pot hp
    have th : TH ϕ κ H := th0.weak (by omega)
    refine ⟨_, pss_cons (ps_set (i := 2) sc_spoilt.nd rfl (.inl rfl) (pe_call G_all hr (by rfl) D_all.g D_all.F.kp D_all.b .nil pass0 (pa_cons (pv 1) pa_nil)))
      (pss_cons (ps_set (i := 3) sc_spoilt.nd rfl (.inl rfl) (pe_ix ix_list (pv 2) (pe_call G_take hr (by rfl) D_take.g D_take.F.kp D_take.b .nil pass0 (pa_cons (pv 0) (pa_cons (pe_callB call_len_seq (by rfl) m_len PySem.boot_len (pa_cons (pv 2) pa_nil)) pa_nil))) (fun _ _ => rfl)))
      (pss_cons (ps_set (i := 4) sc_spoilt.nd rfl (.inl rfl) (pe_call G_take hr (by rfl) D_take.g D_take.F.kp D_take.b .nil pass0 (pa_cons (pv 0) (pa_cons pe_int pa_nil))))
      (pss_one (ps_if (pt_cmpR op_lt (pv 4) pe_int (nomark _)) (pss_one (ps_expr (pe_call G_spoilt_list hr (by rfl) D_spoilt_list.g D_spoilt_list.F.kp D_spoilt_list.b .nil pass0 (pa_cons (pv 0) (pa_cons (pe_ix ix_list (pv 3) pe_int (fun _ _ => rfl)) (pa_cons (pv 4) pa_nil)))))) (pss_one (ps_if (pt_cmpR op_lt (pv 4) pe_int (nomark _)) (pss_one (ps_expr (pe_call G_spoilt_places hr (by rfl) D_spoilt_places.g D_spoilt_places.F.kp D_spoilt_places.b .nil pass0 (pa_cons (pv 0) (pa_cons (pv 3) (pa_cons (pv 4) pa_nil)))))) (pss_one (ps_if (pt_cmpR op_eq (pv 4) pe_int (nomark _)) (pss_one (ps_expr (pe_call G_spoilt_group hr (by rfl) D_spoilt_group.g D_spoilt_group.F.kp D_spoilt_group.b .nil pass0 (pa_cons (pv 0) (pa_cons (pv 3) pa_nil))))) (pss_one (ps_if (pt_cmpR op_eq (pv 4) pe_int (nomark _)) (pss_one (ps_expr (pe_call G_spoilt_list hr (by rfl) D_spoilt_list.g D_spoilt_list.F.kp D_spoilt_list.b .nil pass0 (pa_cons (pv 0) (pa_cons (pe_ix ix_list (pv 3) pe_int (fun _ _ => rfl)) (pa_cons pe_int pa_nil)))))) (pss_one (ps_if (pt_cmpR op_eq (pv 4) pe_int (nomark _)) (pss_one (ps_expr (pe_call G_deepened hr (by rfl) D_deepened.g D_deepened.F.kp D_deepened.b .nil pass0 (pa_cons (pv 0) (pa_cons (pv 3) pa_nil))))) (pss_one (ps_for PassesOwn.never rfl (pi_list (pe_ix ix_list (pv 3) pe_int (fun _ _ => rfl))) (pg_name (i := 5) sc_spoilt.nd rfl (Or.inl rfl)) (pss_one (ps_asg (pe_and (pe_cmpR op_in_seq (pe_ix ix_list (pv 5) pe_int (fun _ _ => rfl)) (pe_tup (pa_cons pe_str (pa_cons pe_str (pa_cons pe_str pa_nil)))) (by rfl)) (pe_one (pe_cmpR op_eq (pe_call G_take hr (by rfl) D_take.g D_take.F.kp D_take.b .nil pass0 (pa_cons (pv 0) (pa_cons pe_int pa_nil))) pe_int (nomark _)))) (pg_sub (pv 5) pe_int set_list))))))))))))))))), ?_⟩
    refine ⟨.ref a, rfl, a, κ, _, u, rfl, th0, ka, hu, fun H1 la xs s1 nl el lx0 lx hx => ?_⟩
    have p1 := hp.same s1
    have nlp : la ≠ p := (hp.ne nl).symm
    refine ⟨.ref la, rfl, .ref p, rfl, .ref la, rfl, la, _, rfl, .inl (SqL.of el), p, _, rfl, p1, by rw [List.length_map]; omega, by rw [List.length_map]; omega, fun H2 d2 b2 p2 d20 d21 => ?_⟩
    rw [List.length_map] at d21
    obtain ⟨j, rfl⟩ := Int.eq_ofNat_of_zero_le d20
    have hj : j < xs.length := by omega
    obtain ⟨r, uc, kc, _, _⟩ := hx _ (List.getElem_mem hj)
    refine ⟨la, _, _, .ref xs[j], rfl, rfl, SqL.of (b2 _ _ nlp el), atI_nat (by rw [List.getElem?_map, List.getElem?_eq_getElem hj]; rfl), ?_⟩
    revert kc
    generalize xs[j] = c
    intro kc
    refine ⟨.ref p, rfl, p, 9, rfl, p2, by decide, by decide, fun H3 way b3 p3 w0 w9 => ?_⟩
    have B3 : But p H H3 := ((But.of_same s1).trans b2).trans b3
    have th3 : TH ϕ κ H3 := th.but2 (q := p) (But2.of B3) kp kp
    have th03 : TH (5 * ϕ + 4) κ H3 := th0.but2 (q := p) (But2.of B3) kp kp
    have S3 : Spo m ϕ κ H κ H3 p := (Spo.of_but th hp B3 p3).weak (by omega)
    have dec : ∀ (x y : Int), (decide (V.int x = V.int y) = true) ↔ x = y := fun x y => ⟨fun h => V.int.inj (of_decide_eq_true h), fun h => by rw [h]; exact decide_eq_true rfl⟩
    obtain ⟨n, ao, ap, ag, ab, r', w', xb, ws, ⟨hr1, _⟩, ec, _, ko, kpl, kg, kb, eb, lb, hb, sb⟩ := th3.nd kc
    have mr := mn c r uc kc
    refine ⟨.int way, rfl, _, _, rfl, rfl, _, rfl, ite2 (fun e => ?_) (fun e => ?_)⟩
    · have w2 := of_decide_eq_true e
      obtain ⟨i, rfl⟩ := Int.eq_ofNat_of_zero_le w0
      refine ⟨.ref p, rfl, .ref c, rfl, c, _, 1, .ref ao, rfl, rfl, SqL.of ec, rfl, .int i, rfl, p, ao, i, κ, rfl, p3, th3, .inl ⟨ko, by omega⟩, fun H' S => q _ κ (S3.trans (S.weak (by omega)))⟩
    · refine ⟨.int way, rfl, _, _, rfl, rfl, _, rfl, ite2 (fun e => ?_) (fun e => ?_)⟩
      · refine ⟨.ref p, rfl, .ref c, rfl, .int way, rfl, p, c, way, κ, r, uc, rfl, p3, th03, kc, mr, hm1, hm900, fun H' κ' S => q _ κ' (S3.trans S)⟩
      · refine ⟨.int way, rfl, rfl, _, rfl, ite2 (fun e => ?_) (fun e => ?_)⟩
        · refine ⟨.ref p, rfl, .ref c, rfl, p, c, κ, r, uc, rfl, p3, th3, kc, fun H' S => q _ κ (S3.trans (S.weak (by omega)))⟩
        · refine ⟨.int way, rfl, rfl, _, rfl, ite2 (fun e => ?_) (fun e => ?_)⟩
          · refine ⟨.ref p, rfl, .ref c, rfl, c, _, 4, .ref ab, rfl, rfl, SqL.of ec, rfl, p, ab, 0, κ, rfl, p3, th3, .inr ⟨⟨_, _, kb⟩, rfl⟩, fun H' S => q _ κ (S3.trans (S.weak (by omega)))⟩
          · refine ⟨.int way, rfl, rfl, _, rfl, ite2 (fun e => ?_) (fun e => ?_)⟩
            · refine ⟨.ref p, rfl, .ref c, rfl, p, c, κ, r, uc, rfl, p3, th03, kc, mr, hm1, hm900, fun H' κ' S => q _ κ' (S3.trans S)⟩
            · obtain ⟨xo, os, eo, lo, ho, hk⟩ := ops_of th3 ko
              refine ⟨.ref c, rfl, c, _, 1, .ref ao, rfl, rfl, SqL.of ec, rfl, ao, rfl, ⟨_, SqL.of eo⟩, ?_⟩
              refine for_list (K := K) (a := ao) (xs := xo.map V.ref) (fun i σ Hc => Spo m ϕ κ H κ Hc p ∧ Hc ao = some (.lst (xo.map V.ref)) ∧ ∃ x5 : Option V, σ = [some (.ref p), some (.ref a), some (.ref la), some (.ref c), some (.int way), x5]) ⟨S3, eo, none, rfl⟩ (fun i σ Hc _ h => SqL.of h.2.1) ?_ ?_
              · rintro i v σ Hc hv ⟨S, eo', x5, rfl⟩
                rw [List.getElem?_map] at hv
                obtain ⟨x, hx, rfl⟩ := Option.map_eq_some_iff.mp hv
                have kx := hk x (List.mem_of_getElem? hx)
                have hop := S.g.th x
                rw [kx] at hop
                obtain ⟨o, ex, ok⟩ := hop
                obtain ⟨_, znp, _, _, _⟩ := takes_ok o.takes (among_takes ok.takes)
                have nxp : x ≠ p := fun z => by rw [z, kp] at kx; cases kx
                have nxo : ao ≠ x := fun z => by rw [← z, ko] at kx; cases kx
                dsimp only [tAsg, gName]
                refine ev_gen (t := tAndV _ _) (fun v H' => But p Hc H' ∧ Pot H' p ∧ ∃ b, v = .bl b ∧ (b = true → plain (.str o.takes) = false)) (fun R c' => ?_) ?_
                · refine ⟨.ref x, rfl, x, _, 2, .str o.takes, rfl, rfl, SqL.of ex, rfl, by show 3 ≤ sizeLine; decide, fun t nt => ?_⟩
                  refine ⟨t, _, rfl, .inr (SqT.of upd_same), rfl, rfl, _, rfl, ite2 (fun e => ?_) (fun e => ?_)⟩
                  · exact ⟨.ref p, rfl, p, 2, rfl, S.p.new nt, by decide, by decide, fun H8 d8 b8 p8 d80 d81 => ⟨rfl, c' _ _ ⟨(But.new nt).trans b8, p8, _, rfl, fun _ => znp e⟩⟩⟩
                  · exact c' _ _ ⟨But.new nt, S.p.new nt, _, rfl, fun z => by cases z⟩
                rintro _ H8 ⟨B8, p8, mu, rfl, hmu⟩
                have T : Spo 1000 ϕ κ Hc κ (upd H8 x (.lst [.str o.long, .str o.short, .str o.takes, .bl mu, .bl o.off])) p := Spo.put S.g.th S.p B8 p8 (by rw [kx]; simp) (by
                  rw [kx]
                  exact ⟨⟨o.long, o.short, o.takes, o.maker, o.dflt, mu, o.off, o.about⟩, upd_same, ⟨ok.long, ok.short, ok.ts, ok.takes, ok.tt, hmu, ok.off, ok.maker, ok.dflt, ok.about⟩⟩)
                refine ⟨.ref x, rfl, x, _, 3, 3, rfl, rfl, B8 _ _ nxp ex, rfl, S.trans (T.weak (by omega)), ?_, _, rfl⟩
                rw [upd_ne nxo]
                exact B8 _ _ (fun z => by rw [z, kp] at ko; cases ko) eo'
              · rintro σ Hc ⟨S, _⟩
                exact q _ κ S
end
end WB

set_option Elab.async false
set_option linter.all false
set_option maxRecDepth 100000
set_option maxHeartbeats 4000000
namespace WB
open PySem PySem.Spec PyProof.Rows L2 WG
open TL (tl)
/-! ### the law's lists tell a command -/
inductive TrAt (H : Hp) : Nat → Addr → Ct → Prop
  | mk {d : Nat} {a ao ap ag ab : Addr} {n : Str} {os : List OT} {ps : List PL} {gs : List (List Str)} {cs : List Ct} {xo xp xg xb : List Addr} (ea : H a = some (.lst [.str n, .ref ao, .ref ap, .ref ag, .ref ab])) (hn : nm (tl n) = true)
      (eo : H ao = some (.lst (xo.map V.ref))) (lo : os.length ≤ 12) (ho : All2 (OpAt H) xo os) (ep : H ap = some (.lst (xp.map V.ref))) (lp : ps.length ≤ 6) (hp : All2 (PlAt H) xp ps) (eg : H ag = some (.lst (xg.map V.ref))) (lg : gs.length ≤ 4) (hg : All2 (GrAt H) xg gs)
      (eb : H ab = some (.lst (xb.map V.ref))) (lb : cs.length ≤ 8) (hl : xb.length = cs.length) (hc : ∀ (i : Nat) (b : Addr) (t : Ct), xb[i]? = some b → cs[i]? = some t → TrAt H d b t) : TrAt H (d + 1) a (.mk n os ps gs cs (Str.ofString ""))
theorem TrAt.same {H H' : Hp} {d : Nat} {a : Addr} {t : Ct} (h : TrAt H d a t) (s : Same H H') : TrAt H' d a t := by
  induction h with
  | mk ea hn eo lo ho ep lp hp eg lg hg eb lb hl hc ih => exact .mk (s _ _ ea) hn (s _ _ eo) lo (ho.mono fun a t h => ⟨s _ _ h.1, h.2⟩) (s _ _ ep) lp (hp.mono fun a t h => ⟨s _ _ h.1, h.2⟩) (s _ _ eg) lg (hg.mono fun a t h => ⟨s _ _ h.1, h.2⟩) (s _ _ eb) lb hl ih
theorem all2_of {α : Type} {R : Addr → α → Prop} : ∀ (xs : List Addr), (∀ x ∈ xs, ∃ y, R x y) → ∃ ys, All2 R xs ys
  | [], _ => ⟨[], All2.nil⟩
  | x :: r, h => by
    obtain ⟨y, hy⟩ := h x (List.mem_cons_self ..)
    obtain ⟨ys, hys⟩ := all2_of r fun z hz => h z (List.mem_cons_of_mem _ hz)
    exact ⟨y :: ys, All2.cons hy hys⟩
theorem tr_of {ϕ : Nat} {κ : Addr → Rl} {H : Hp} (th : TH ϕ κ H) : ∀ (r : Nat) (a : Addr) (w : Nat), κ a = .node r w → ∃ t, TrAt H r a t := by
  intro r
  induction r with
  | zero =>
    intro a w k
    obtain ⟨_, _, _, _, _, _, _, _, _, ⟨h1, _⟩, _⟩ := th.nd k
    omega
  | succ r ih =>
    intro a w k
    obtain ⟨n, ao, ap, ag, ab, r', w', xb, ws, ⟨hr, _⟩, ea, hn, ko, kp, kg, kb, eb, lb, hb, _⟩ := th.nd k
    obtain rfl : r' = r := by omega
    obtain ⟨xo, os, eo, lo, ho, _⟩ := ops_of th ko
    obtain ⟨xp, ep, lp, hxp⟩ := pls_of th kp
    obtain ⟨ps, hps⟩ := all2_of (R := PlAt H) xp fun x hx => (hxp x hx).2
    have hg := th ag
    rw [kg] at hg
    obtain ⟨xg, eg, lg, hxg⟩ := hg
    obtain ⟨gs, hgs⟩ := all2_of (R := GrAt H) xg fun x hx => by
      have := th x
      rw [hxg x hx] at this
      exact this
    obtain ⟨cs, hcs⟩ := all2_of (R := TrAt H r') xb fun x hx => by
      obtain ⟨j, hj, ej⟩ := List.mem_iff_getElem.mp hx
      obtain ⟨u, _, hu⟩ := hb.2 j x (by rw [List.getElem?_eq_getElem hj, ej])
      exact ih x u hu
    refine ⟨_, .mk ea hn eo lo ho ep (by rw [← hps.1]; exact lp) hps eg (by rw [← hgs.1]; exact lg) hgs eb (by rw [← hcs.1]; exact lb) hcs.1 fun i b t h1 h2 => ?_⟩
    obtain ⟨t', e1, h⟩ := hcs.2 i b h1
    rw [h2] at e1
    cases e1
    exact h
structure TrO (H : Hp) (d : Nat) (a : Addr) (t : Ct) (ao ap ag ab : Addr) (xo xp xg xb : List Addr) : Prop where
  ea : H a = some (.lst [.str t.name, .ref ao, .ref ap, .ref ag, .ref ab])
  hn : nm (tl t.name) = true
  eo : H ao = some (.lst (xo.map V.ref))
  lo : t.os.length ≤ 12
  ho : All2 (OpAt H) xo t.os
  ep : H ap = some (.lst (xp.map V.ref))
  lp : t.ps.length ≤ 6
  hp : All2 (PlAt H) xp t.ps
  eg : H ag = some (.lst (xg.map V.ref))
  lg : t.gs.length ≤ 4
  hg : All2 (GrAt H) xg t.gs
  eb : H ab = some (.lst (xb.map V.ref))
  lb : t.cs.length ≤ 8
  hl : xb.length = t.cs.length
  hc : ∀ (i : Nat) (b : Addr) (u : Ct), xb[i]? = some b → t.cs[i]? = some u → ∃ e, d = e + 1 ∧ TrAt H e b u
  ab0 : t.about = Str.ofString ""
theorem TrAt.op {H : Hp} {d : Nat} {a : Addr} {t : Ct} (h : TrAt H d a t) : ∃ ao ap ag ab xo xp xg xb, TrO H d a t ao ap ag ab xo xp xg xb := by
  cases h with
  | mk ea hn eo lo ho ep lp hp eg lg hg eb lb hl hc => exact ⟨_, _, _, _, _, _, _, _, ⟨ea, hn, eo, lo, ho, ep, lp, hp, eg, lg, hg, eb, lb, hl, fun i b u h1 h2 => ⟨_, rfl, hc i b u h1 h2⟩, rfl⟩⟩
theorem TrO.same {H H' : Hp} {d : Nat} {a : Addr} {t : Ct} {ao ap ag ab : Addr} {xo xp xg xb : List Addr} (h : TrO H d a t ao ap ag ab xo xp xg xb) (s : Same H H') : TrO H' d a t ao ap ag ab xo xp xg xb :=
  ⟨s _ _ h.ea, h.hn, s _ _ h.eo, h.lo, h.ho.mono fun a t h => ⟨s _ _ h.1, h.2⟩, s _ _ h.ep, h.lp, h.hp.mono fun a t h => ⟨s _ _ h.1, h.2⟩, s _ _ h.eg, h.lg, h.hg.mono fun a t h => ⟨s _ _ h.1, h.2⟩, s _ _ h.eb, h.lb, h.hl, fun i b u h1 h2 => by
    obtain ⟨e, he, ht⟩ := h.hc i b u h1 h2
    exact ⟨e, he, ht.same s⟩, h.ab0⟩
/-! ### how they are made -/
theorem word_nm : isNm (.str (Str.ofString "word")) = true := by decide +kernel
theorem nil_ab : isAb (.str (Str.ofString "")) = true := by decide +kernel
theorem wr_O {o : OT} (h : OkO o) : wrongF (.str o.long) (.str o.short) (.str o.takes) (.str o.maker) o.dflt (.bl o.need) (.bl o.off) (.str o.about) = Str.ofString "" := by
  unfold wrongF
  rw [show isNm (.str o.long) = true from h.long, h.short, h.takes, h.maker, h.dflt, h.about, word_nm, nil_ab, show dflt .non (single (.str o.takes)) = true from by unfold dflt; rw [decide_eq_true rfl, Bool.true_or]]
  have e1 : trth (.bl o.need) (!plain (.str o.takes) && decide (V.non = V.non)) = true := by
    show ((!plain (.str o.takes) && decide (V.non = V.non)) || !o.need) = true
    cases z : o.need with
    | false => simp
    | true => rw [h.need z]; simp
  have e2 : trth (.bl o.off) (plain (.str o.takes)) = true := by
    show (plain (.str o.takes) || !o.off) = true
    cases z : o.off with
    | false => simp
    | true => rw [h.off z]; simp
  rw [e1, e2]
  simp
theorem wr_P {o : PL} (h : OkP o) : WP.wrongF (.str o.name) (.str o.many) (.str o.maker) o.dflt (.str o.about) = Str.ofString "" := by
  unfold WP.wrongF
  rw [show isNm (.str o.name) = true from h.name, h.many, h.maker, h.dflt, h.about, word_nm, nil_ab, show dflt .non (WP.isMb (.str o.many)) = true from by unfold dflt; rw [decide_eq_true rfl, Bool.true_or]]
  simp
theorem litx (s : String) (h : (Str.ofString s).length ≤ 300 ∧ ∀ c ∈ tl (Str.ofString s), c < 256) : Tx 300 (Str.ofString s) := ⟨h.1, h.2⟩
theorem OkO.fl {o : OT} (h : OkO o) : AllFl o.vs := fun v hv => by
  unfold OT.vs at hv
  rw [h.maker, h.dflt, h.about] at hv
  simp only [List.mem_cons, List.not_mem_nil, or_false] at hv
  rcases hv with rfl | rfl | rfl | rfl | rfl | rfl | rfl | rfl
  · exact .str (nm_tx h.long)
  · exact .str h.ts
  · exact .str h.tt
  · exact .str (litx _ (by decide +kernel))
  · exact .non
  · exact .bl _
  · exact .bl _
  · exact .str (litx _ (by decide +kernel))
theorem OkP.fl {o : PL} (h : OkP o) : AllFl o.vs := fun v hv => by
  unfold PL.vs at hv
  rw [h.maker, h.dflt, h.about] at hv
  simp only [List.mem_cons, List.not_mem_nil, or_false] at hv
  rcases hv with rfl | rfl | rfl | rfl | rfl
  · exact .str (nm_tx h.name)
  · exact .str h.tm
  · exact .str (litx _ (by decide +kernel))
  · exact .non
  · exact .str (litx _ (by decide +kernel))
section
variable {C CN : Addr} {H1 : Hp} {Q : VK} {E : XK}
theorem mkO {o : OT} (h : OkO o) (q : ∀ H' x, Same H1 H' → H1 x = none → IsT H' C x o.vs → Q (.ref x) H') : ∀ x dx, H1 x = none → H1 dx = none → dx ≠ x →
    spInit C CN [.ref x, .str o.long, .str o.short, .str o.takes, .str (Str.ofString "word"), .non, .bl o.need, .bl o.off, .str (Str.ofString "")] (upd (upd H1 dx (.own x)) x (.ins C dx [])) (fun v H2 => v = .non ∧ Q (.ref x) H2) E := by
  intro x dx nx ndx ne
  have fl := h.fl
  have wr := wr_O h
  have ev : o.vs = [.str o.long, .str o.short, .str o.takes, .str (Str.ofString "word"), .non, .bl o.need, .bl o.off, .str (Str.ofString "")] := by unfold OT.vs; rw [h.maker, h.dflt, h.about]
  rw [h.maker, h.dflt, h.about] at wr
  rw [ev] at fl q
  have th : ∀ {Hx : Hp} v, v ∈ [V.str o.long, .str o.short, .str o.takes, .str (Str.ofString "word"), .non, .bl o.need, .bl o.off, .str (Str.ofString "")] → Thg Hx v := fun v e => (fl v e).thg
  refine ⟨x, dx, _, _, _, _, _, _, _, _, rfl, upd_same, ⟨th _ (by simp), th _ (by simp), th _ (by simp), th _ (by simp), th _ (by simp), th _ (by simp), th _ (by simp), th _ (by simp)⟩, fun _ H' t b ex et => ⟨rfl, q H' x (fun a u e => ?_) nx ⟨fl, dx, t, ex, et⟩⟩, fun w => absurd wr w⟩
  have n1 : a ≠ x := ne_of_none e nx
  have n2 : a ≠ dx := ne_of_none e ndx
  refine b a u n1 ?_
  rw [upd_ne n1, upd_ne n2]
  exact e
theorem mkP {o : PL} (h : OkP o) (q : ∀ H' x, Same H1 H' → H1 x = none → IsT H' C x o.vs → Q (.ref x) H') : ∀ x dx, H1 x = none → H1 dx = none → dx ≠ x →
    WP.spInit C CN [.ref x, .str o.name, .str o.many, .str (Str.ofString "word"), .non, .str (Str.ofString "")] (upd (upd H1 dx (.own x)) x (.ins C dx [])) (fun v H2 => v = .non ∧ Q (.ref x) H2) E := by
  intro x dx nx ndx ne
  have fl := h.fl
  have wr := wr_P h
  have ev : o.vs = [.str o.name, .str o.many, .str (Str.ofString "word"), .non, .str (Str.ofString "")] := by unfold PL.vs; rw [h.maker, h.dflt, h.about]
  rw [h.maker, h.dflt, h.about] at wr
  rw [ev] at fl q
  have th : ∀ {Hx : Hp} v, v ∈ [V.str o.name, .str o.many, .str (Str.ofString "word"), .non, .str (Str.ofString "")] → Thg Hx v := fun v e => (fl v e).thg
  refine ⟨x, dx, _, _, _, _, _, rfl, upd_same, ⟨th _ (by simp), th _ (by simp), th _ (by simp), th _ (by simp), th _ (by simp)⟩, fun _ H' t b ex et => ⟨rfl, q H' x (fun a u e => ?_) nx ⟨fl, dx, t, ex, et⟩⟩, fun w => absurd wr w⟩
  have n1 : a ≠ x := ne_of_none e nx
  have n2 : a ≠ dx := ne_of_none e ndx
  refine b a u n1 ?_
  rw [upd_ne n1, upd_ne n2]
  exact e
end
end WB

set_option Elab.async false
set_option linter.all false
set_option maxRecDepth 100000
set_option maxHeartbeats 4000000
namespace WB
open PySem PySem.Spec PyProof.Rows L2 WG
open TL (tl)
/-- a heap without the lists of an older one -/
def nwl (H H' : Hp) : Hp := fun a => match H a with
  | some (.lst _) => none
  | _ => H' a
theorem nwl_le (H H' : Hp) : Same (nwl H H') H' := fun b o e => by
  unfold nwl at e
  split at e
  · cases e
  · exact e
theorem nwl_same {H H1 H2 : Hp} (s : Same H1 H2) : Same (nwl H H1) (nwl H H2) := fun b o e => by
  unfold nwl at e ⊢
  split at e
  · cases e
  · exact s b o e
theorem nwl_none {H H' : Hp} {a : Addr} {xs : List V} (e : H a = some (.lst xs)) : nwl H H' a = none := by
  unfold nwl
  rw [e]
theorem nwl_new {H H' : Hp} {a : Addr} {o : HO} (n : H a = none) (e : H' a = some o) : nwl H H' a = some o := by
  unfold nwl
  rw [n]
  exact e
theorem nwl_obj {H H' : Hp} {a : Addr} {o : HO} (s : Same H H') (n : ∀ xs, o ≠ .lst xs) (e : H' a = some o) : nwl H H' a = some o := by
  unfold nwl
  split
  · rename_i xs h
    have := s _ _ h
    rw [e] at this
    exact absurd (Option.some.inj this) (n xs)
  · exact e
theorem IsT.nw {G H : Hp} {C a : Addr} {vs : List V} (h : IsT H C a vs) (s : Same G H) : IsT (nwl G H) C a vs := by
  obtain ⟨h1, dx, t, e1, e2⟩ := h
  exact ⟨h1, dx, t, nwl_obj s (fun xs z => by cases z) e1, nwl_obj s (fun xs z => by cases z) e2⟩
theorem IsT.lst {H : Hp} {C a D : Addr} {vs xs ys : List V} (h : IsT H C a vs) (e : H D = some (.lst xs)) : IsT (upd H D (.lst ys)) C a vs := by
  obtain ⟨h1, dx, t, e1, e2⟩ := h
  refine ⟨h1, dx, t, ?_, ?_⟩
  · rw [upd_ne (fun z => by rw [z, e] at e1; cases e1)]
    exact e1
  · rw [upd_ne (fun z => by rw [z, e] at e2; cases e2)]
    exact e2
theorem isC_ins {H : Hp} {a C dx : Addr} {fs : List (Str × V)} (e : H a = some (.ins C dx fs)) (D : Addr) : isC H D (.ref a) = decide (C = D) ∧ isL H (.ref a) = false := by
  unfold isC isL
  dsimp only
  rw [e]
  exact ⟨rfl, rfl⟩
/-- an argument that is a list of things of a class -/
structure Arg (Cs : List Addr) (H : Hp) (m : Nat) (g : Hp → V → Bool) (v : V) (xs : List Addr) : Prop where
  w : Wf Cs H v
  o : ol H m (g H) v = true
  i : its H v = xs.map V.ref
theorem Arg.lst {Cs : List Addr} {H : Hp} {m : Nat} {g : Hp → V → Bool} {a : Addr} {xs : List Addr} (e : H a = some (.lst (xs.map V.ref))) (l : xs.length ≤ m) (lm : m ≤ 1000) (hw : ∀ x ∈ xs, Wf Cs H (.ref x)) (hg : ∀ x ∈ xs, g H (.ref x) = true) : Arg Cs H m g (.ref a) xs := by
  refine ⟨.lst e (by rw [List.length_map]; omega) fun v hv => ?_, ?_, (isL_lst e).2⟩
  · obtain ⟨x, hx, rfl⟩ := List.mem_map.mp hv
    exact hw x hx
  · unfold ol lok
    have h1 : decide ((xs.map V.ref).length ≤ m) = true := decide_eq_true (by rw [List.length_map]; exact l)
    have h2 : (xs.map V.ref).all (g H) = true := List.all_eq_true.mpr fun v hv => by
      obtain ⟨x, hx, rfl⟩ := List.mem_map.mp hv
      exact hg x hx
    rw [(isL_lst e).1, (isL_lst e).2, h1, h2]
    simp
theorem Arg.non {Cs : List Addr} {H : Hp} {m : Nat} {g : Hp → V → Bool} : Arg Cs H m g .non [] := ⟨.non, by unfold ol; rw [decide_eq_true rfl, Bool.true_or], rfl⟩
theorem Arg.same {Cs : List Addr} {H H' : Hp} {m : Nat} {g : Hp → V → Bool} {v : V} {xs : List Addr} (h : Arg Cs H m g v xs) (s : Same H H') (hg : ∀ x, Wf Cs H x → g H' x = g H x) : Arg Cs H' m g v xs := ⟨h.w.same s, by rw [Wf.ol (m := m) (g := g) h.w s hg]; exact h.o, by rw [(h.w.at_ s).2.1]; exact h.i⟩
theorem CdAt.ins {CO CP CC : Addr} {H : Hp} {d : Nat} {x : Addr} {t : Ct} (h : CdAt CO CP CC H d x t) : ∃ dx fs, H x = some (.ins CC dx fs) := by
  cases h with
  | mk ex => exact ⟨_, _, ex⟩
theorem mkC {CO CP CC CN : Addr} {G H1 : Hp} (sG : Same G H1) {Q : VK} {E : XK} {t : Ct} {d : Nat} {v1 v2 v3 v4 : V} {ao ap xg ac : List Addr} (hn : nm (tl t.name) = true) (hab : t.about = Str.ofString "") (a1 : Arg [CO, CP, CC] H1 12 (fun H => isC H CO) v1 ao) (ho : All2 (fun a (t : OT) => IsT H1 CO a t.vs) ao t.os) (lno : t.os.length ≤ 12)
    (a2 : Arg [CO, CP, CC] H1 6 (fun H => isC H CP) v2 ap) (hp : All2 (fun a (t : PL) => IsT H1 CP a t.vs) ap t.ps) (lnp : t.ps.length ≤ 6) (a3 : Arg [CO, CP, CC] H1 4 grp v3 xg) (hg : All2 (GrAt H1) xg t.gs) (lng : t.gs.length ≤ 4) (a4 : Arg [CO, CP, CC] H1 8 (fun H => isC H CC) v4 ac) (hl : ac.length = t.cs.length) (lnc : t.cs.length ≤ 8)
    (hc : ∀ (i : Nat) (a : Addr) (u : Ct), ac[i]? = some a → t.cs[i]? = some u → CdAt CO CP CC (nwl G H1) d a u) (q : ∀ H' x, Same H1 H' → H1 x = none → CdAt CO CP CC (nwl G H') (d + 1) x t → Q (.ref x) H') : ∀ x dx, H1 x = none → H1 dx = none → dx ≠ x →
    spCInit CO CP CC CN [.ref x, .str t.name, v1, v2, v3, v4, .str (Str.ofString "")] (upd (upd H1 dx (.own x)) x (.ins CC dx [])) (fun v H2 => v = .non ∧ Q (.ref x) H2) E := by
  intro x dx nx ndx ne
  have sm : Same H1 (upd (upd H1 dx (.own x)) x (.ins CC dx [])) := fun b o e => by
    rw [upd_ne (ne_of_none e nx), upd_ne (ne_of_none e ndx)]
    exact e
  have ex0 : (upd (upd H1 dx (.own x)) x (.ins CC dx [])) x = some (.ins CC dx []) := upd_same
  revert sm ex0
  generalize upd (upd H1 dx (.own x)) x (.ins CC dx []) = H2
  intro sm ex0
  have b1 := a1.same sm (fun x wx => (wx.at_ sm).2.2 CO)
  have b2 := a2.same sm (fun x wx => (wx.at_ sm).2.2 CP)
  have b3 := a3.same sm (fun x wx => wx.grp sm)
  have b4 := a4.same sm (fun x wx => (wx.at_ sm).2.2 CC)
  have wr : wrongC CO CP CC H2 (.str t.name) v1 v2 v3 v4 (.str (Str.ofString "")) = Str.ofString "" := by
    unfold wrongC
    rw [show isNm (.str t.name) = true from hn, nil_ab, b1.o, b2.o, b3.o, b4.o]
    rfl
  refine ⟨x, dx, .str t.name, v1, v2, v3, v4, .str (Str.ofString ""), rfl, ex0, ⟨.str (nm_tx hn), b1.w, b2.w, b3.w, b4.w, .str (litx _ (by decide +kernel))⟩, fun _ H' b cm => ⟨rfl, ?_⟩, fun h => absurd wr h⟩
  have S : Same H1 H' := fun c o e => b c o (ne_of_none e nx) (sm c o e)
  refine q H' x S nx ?_
  have SG := sG.trans S
  have fr : ∀ {b : Addr}, H2 b = none → G b = none := fun {b} h => fresh_of sG (fresh_of sm h)
  obtain ⟨dx', lo, lp, lg, lc, ex, ⟨z1, e1⟩, ⟨z2, e2⟩, ⟨z3, as, e3, l3, h3, _⟩, ⟨z4, e4⟩⟩ := cm.ex
  rw [b1.i] at e1
  rw [b2.i] at e2
  rw [b3.i] at h3 l3
  rw [b4.i] at e4
  rw [List.length_map, List.length_map] at l3
  have hgs : All2 (StrsAt (nwl G H')) as t.gs := by
    refine ⟨by rw [l3, hg.1], fun i a ha => ?_⟩
    obtain ⟨za, _, g, eg, eH⟩ := h3 i a ha
    rw [List.getElem?_map, List.getElem?_map] at eg
    obtain ⟨y, hy, rfl⟩ := Option.map_eq_some_iff.mp eg
    obtain ⟨xa, hxa, rfl⟩ := Option.map_eq_some_iff.mp hy
    obtain ⟨gz, hgz, eq, l2, l6, tz⟩ := hg.2 i xa hxa
    rw [(isL_lst (sm _ _ eq)).2] at eH
    exact ⟨gz, hgz, nwl_new (fr za) eH, by omega, fun z hz => (tz z hz).pl⟩
  obtain ⟨n, os, ps, gs, cs, ab⟩ := t
  cases (show ab = Str.ofString "" from hab)
  exact .mk (nwl_obj SG (fun xs z => by cases z) ex) (nm_tx hn).pl (litx _ (by decide +kernel)).pl (nwl_new (fr z1) e1) (show os.length ≤ 20 from Nat.le_trans lno (by decide)) (ho.mono fun a t h => (h.same S).nw SG) (nwl_new (fr z2) e2) (show ps.length ≤ 20 from Nat.le_trans lnp (by decide)) (hp.mono fun a t h => (h.same S).nw SG) (nwl_new (fr z3) e3) (show gs.length ≤ 20 from Nat.le_trans lng (by decide)) hgs (nwl_new (fr z4) e4) (show cs.length ≤ 20 from Nat.le_trans lnc (by decide)) hl fun i a u h1 h2 => (hc i a u h1 h2).same (nwl_same S)
end WB

set_option Elab.async false
set_option linter.all false
set_option maxRecDepth 100000
set_option maxHeartbeats 4000000
namespace WB
open PySem PySem.Spec PyProof.Rows L2 WG
open TL (tl)
abbrev st_command : Stmt := topS 69
theorem sc_command : FnScope ["_law_tree_here", "_law_options_here", "_law_places_here", "_law_one", "_law_below"] ["_law_tree_here"] (defScope st_command) := ⟨rfl, rfl, rfl, by decide +kernel, rfl, by decide +kernel, by decide +kernel⟩
theorem passF {X : Cx} : Passes (L2.CX X.prog X.w) X (fun _ _ _ => False) := by
  intro pins σ H s e s' inv got
  obtain ⟨_, _, _, _, _, _, _, _, _, _, _, _, no⟩ := got
  exact no.elim
def cmdPs : List Str := ["self", "name", "options", "places", "groups", "commands", "about"]
/-- how options, places and commands are made -/
structure Mk14 (P : Program) (w : World) (K : PySem.W.Frag) (mg : Str → Option Value) (base : Heap) (n : Nat) (CO CP CC CNO CNP CN fIO fIP fIC : Addr) (fdO fdP fdC : FuncData) (d1P d1C : List Value) (gO1 gC1 : List Value → List Value → List Value) (gVO gVC : List V → List V → List V) : Prop where
  mo : L2.Mk K CO fIO
  go : FnOk P w K mg base (L2.CX P w) n fIO fdO ["self", "long", "short", "takes", "maker", "default", "needed", "off", "about"] (spInit CO CNO)
  gO : mg "Option" = some (.ref CO)
  kO : KBn K fdO ["self", "long", "short", "takes", "maker", "default", "needed", "off", "about"] 4 ["needed", "off"] gO1 gVO
  hO : ∀ x a b c n o : V, gVO [x, a, b, c] [n, o] = [x, a, b, c, .str (Str.ofString "word"), .non, n, o, .str (Str.ofString "")]
  mp : L2.Mk K CP fIP
  gp : FnOk P w K mg base (L2.CX P w) n fIP fdP ["self", "name", "many", "maker", "default", "about"] (WP.spInit CP CNP)
  gP : mg "Place" = some (.ref CP)
  bp : Binds K fdP ["self", "name", "many", "maker", "default", "about"] d1P
  vp : Vals [.str (Str.ofString "word"), .non, .str (Str.ofString "")] d1P
  mc : L2.Mk K CC fIC
  gc : FnOk P w K mg base (L2.CX P w) n fIC fdC cmdPs (spCInit CO CP CC CN)
  gC : mg "Command" = some (.ref CC)
  bc : Binds K fdC cmdPs d1C
  vc : Vals [.str (Str.ofString "")] d1C
  kC : KBn K fdC cmdPs 2 ["commands"] gC1 gVC
  hC : ∀ x n c : V, gVC [x, n] [c] = [x, n, .non, .non, .non, c, .str (Str.ofString "")]
section
variable {P : Program} {w : World} {K : PySem.W.Frag} {mg : Str → Option Value} {base : Heap}
theorem mkOg {C CN : Addr} {H1 : Hp} {Q : VK} {E : XK} {o : OT} {g : Addr → List V} (h : OkO o) (hg : ∀ x, g x = [.ref x, .str o.long, .str o.short, .str o.takes, .str (Str.ofString "word"), .non, .bl o.need, .bl o.off, .str (Str.ofString "")]) (q : ∀ H' x, Same H1 H' → H1 x = none → IsT H' C x o.vs → Q (.ref x) H') : ∀ x dx, H1 x = none → H1 dx = none → dx ≠ x →
    spInit C CN (g x) (upd (upd H1 dx (.own x)) x (.ins C dx [])) (fun v H2 => v = .non ∧ Q (.ref x) H2) E := by
  intro x dx nx ndx ne
  rw [hg]
  exact mkO h q x dx nx ndx ne
theorem all2_take {α : Type} {R : Addr → α → Prop} {as : List Addr} {xs : List α} {i : Nat} {a : Addr} {x : α} (h : All2 R as (xs.take i)) (e : xs[i]? = some x) (r : R a x) : All2 R (as ++ [a]) (xs.take (i + 1)) := by
  rw [List.take_add_one, e]
  exact h.snoc r
theorem take_all {α : Type} {xs : List α} {n : Nat} (h : n = xs.length) : xs.take n = xs := by rw [h, List.take_length]
/-- past a list that grows -/
theorem nwl_in {G H H' : Hp} {D : Addr} {xs ys : List V} (eD : H D = some (.lst xs)) (hG : ∀ b zs, G b = some (.lst zs) → b = D ∨ ∃ us, H b = some (.lst us)) : Same (nwl H H') (nwl G (upd H' D (.lst ys))) := fun b o e => by
  have nb : b ≠ D := fun z => by
    rw [z, nwl_none eD] at e
    cases e
  have e' := nwl_le _ _ _ _ e
  unfold nwl
  split
  · rename_i zs hz
    rcases hG b zs hz with h | ⟨us, h⟩
    · exact absurd h nb
    · rw [nwl_none h] at e
      cases e
  · rw [upd_ne nb]
    exact e'
theorem nwl_up {G H H' : Hp} {D : Addr} {xs ys : List V} (s : Same H H') (eG : G D = some (.lst xs)) : Same (nwl G H) (nwl G (upd H' D (.lst ys))) := fun b o e => by
  have nb : b ≠ D := fun z => by
    rw [z, nwl_none eG] at e
    cases e
  unfold nwl at e ⊢
  split at e
  · cases e
  · rw [upd_ne nb]
    exact s b o e
theorem nwl_base {G0 G H : Hp} (s : Same G0 G) : Same (nwl G H) (nwl G0 H) := fun b o e => by
  have e' := nwl_le _ _ _ _ e
  unfold nwl
  split
  · rename_i zs hz
    rw [nwl_none (s _ _ hz)] at e
    cases e
  · exact e'
theorem Arg.gr {Cs : List Addr} {H : Hp} {a : Addr} {xg : List Addr} {gs : List (List Str)} (e : H a = some (.lst (xg.map V.ref))) (hg : All2 (GrAt H) xg gs) (lg : gs.length ≤ 4) : Arg Cs H 4 grp (.ref a) xg := by
  have get : ∀ x ∈ xg, ∃ g, GrAt H x g := fun x hx => by
    obtain ⟨j, hj, ej⟩ := List.mem_iff_getElem.mp hx
    obtain ⟨g, _, h⟩ := hg.2 j x (by rw [List.getElem?_eq_getElem hj, ej])
    exact ⟨g, h⟩
  refine Arg.lst e (by rw [hg.1]; exact lg) (by decide) (fun x hx => ?_) (fun x hx => ?_)
  · obtain ⟨g, eg, l2, l6, tz⟩ := get x hx
    refine .lst eg (by rw [List.length_map]; omega) fun v hv => ?_
    obtain ⟨z, hz, rfl⟩ := List.mem_map.mp hv
    exact .str (tz z hz)
  · obtain ⟨g, eg, l2, l6, tz⟩ := get x hx
    have h1 : decide ((g.map V.str).length ≤ 6) = true := decide_eq_true (by rw [List.length_map]; exact l6)
    have h2 : decide (2 ≤ (g.map V.str).length) = true := decide_eq_true (by rw [List.length_map]; exact l2)
    have h3 : (g.map V.str).all isS = true := List.all_eq_true.mpr fun v hv => by
      obtain ⟨z, hz, rfl⟩ := List.mem_map.mp hv
      rfl
    unfold grp
    rw [(isL_lst eg).1, (isL_lst eg).2, h1, h2, h3]
    rfl
theorem Arg.ins {Cs : List Addr} {H : Hp} {m : Nat} {C a : Addr} {xs : List Addr} (e : H a = some (.lst (xs.map V.ref))) (l : xs.length ≤ m) (lm : m ≤ 1000) (hC : C ∈ Cs) (h : ∀ x ∈ xs, ∃ dx fs, H x = some (.ins C dx fs)) : Arg Cs H m (fun H => isC H C) (.ref a) xs := by
  refine Arg.lst e l lm (fun x hx => ?_) (fun x hx => ?_)
  · obtain ⟨dx, fs, e⟩ := h x hx
    exact .ins e hC
  · obtain ⟨dx, fs, e⟩ := h x hx
    show isC H C (.ref x) = true
    rw [(isC_ins e C).1]
    exact decide_eq_true rfl
theorem All2.ins {H : Hp} {C : Addr} {α : Type} {g : α → List V} {as : List Addr} {xs : List α} (h : All2 (fun a t => IsT H C a (g t)) as xs) : ∀ x ∈ as, ∃ dx fs, H x = some (.ins C dx fs) := fun x hx => by
  obtain ⟨j, hj, ej⟩ := List.mem_iff_getElem.mp hx
  obtain ⟨t, _, _, dx, tt, e, _⟩ := h.2 j x (by rw [List.getElem?_eq_getElem hj, ej])
  exact ⟨dx, _, e⟩
def spCommand (CO CP CC : Addr) (d : Nat) : Sp := fun vs H Q _ => ∃ (a : Addr) (t : Ct), vs = [.ref a] ∧ TrAt H d a t ∧ ∀ H' x, Same H H' → H x = none → CdAt CO CP CC (nwl H H') d x t → Q (.ref x) H'
theorem ok_command {CO CP CC CNO CNP CN fIO fIP fIC f : Addr} {fdO fdP fdC fd : FuncData} {d1P d1C : List Value} {gO1 gC1 : List Value → List Value → List Value} {gVO gVC : List V → List V → List V} {k : Nat} (D_command : Df K mg "_law_command" st_command ["_law_tree_here"] f fd) (MA : Mk14 P w K mg base (k + 5) CO CP CC CNO CNP CN fIO fIP fIC fdO fdP fdC d1P d1C gO1 gC1 gVO gVC) : ∀ d, FnOk P w K mg base CX0 (k + 6 + d) f fd ["_law_tree_here"] (spCommand CO CP CC d) := by
  intro d
  induction d with
  | zero =>
    refine ⟨fun vs H Q E h => ?_, fun A outer s H ar us vs Q E hr he hb hv h => ?_⟩
    · obtain ⟨a, t, rfl, _⟩ := h
      rfl
    · obtain ⟨a, t, rfl, tr, _⟩ := h
      cases tr
  | succ d G_command =>
    show FnOk P w K mg base CX0 ((k + 6 + d) + 1) f fd ["_law_tree_here"] (spCommand CO CP CC (d + 1))
    refine D_command.F.ok sc_command (fun vs H Q E h => ?_) (fun cdv A outer s H vs Q E hr h => ?_)
    · obtain ⟨a, t, rfl, _⟩ := h
      rfl
    · obtain ⟨a, t, rfl, tr, q⟩ := h
      have sl : sizeLine = 16777216 := sizeLine_eq
      obtain ⟨ao, ap, ag, ab, xo, xp, xg, xb, T⟩ := tr.op
      refine ⟨_, pss_cons (ps_setLc (i := 1) (own := [("_law_one", 3)]) (g := gName 3) (tt := tYes)  rfl sc_command.nd rfl rfl (sw_true rfl rfl rfl (by decide +kernel)) (pi_list (pe_ix ix_list (pv 0) pe_int (fun _ _ => rfl))) (blkOk_by (N := ["_law_tree_here", "_law_options_here", "_law_places_here", "_law_one", "_law_below"]) (sc := defScope st_command) (by decide +kernel)) (fun _ _ _ _ _ => (pg_name (i := 3) sc_command.nd rfl (Or.inl rfl))) (fun _ _ _ _ _ => pts_nil) (fun _ _ _ _ _ => (pe_makeN (n := 3) MA.mo MA.go (hr.mono (by omega)) (by rfl) MA.gO MA.kO passF (pa_cons (pe_ix (r := rIxL K) ix_list (pv 3) pe_int (fun _ _ => rfl)) (pa_cons (pe_ix (r := rIxL K) ix_list (pv 3) pe_int (fun _ _ => rfl)) (pa_cons (pe_ix (r := rIxL K) ix_list (pv 3) pe_int (fun _ _ => rfl)) pa_nil))) (pk_cons (pe_ix (r := rIxL K) ix_list (pv 3) pe_int (fun _ _ => rfl)) (pk_cons (pe_ix (r := rIxL K) ix_list (pv 3) pe_int (fun _ _ => rfl)) pk_nil)))))
      (pss_cons (ps_setLc (i := 2) (own := [("_law_one", 3)]) (g := gName 3) (tt := tYes)  rfl sc_command.nd rfl rfl (sw_true rfl rfl rfl (by decide +kernel)) (pi_list (pe_ix ix_list (pv 0) pe_int (fun _ _ => rfl))) (blkOk_by (N := ["_law_tree_here", "_law_options_here", "_law_places_here", "_law_one", "_law_below"]) (sc := defScope st_command) (by decide +kernel)) (fun _ _ _ _ _ => (pg_name (i := 3) sc_command.nd rfl (Or.inl rfl))) (fun _ _ _ _ _ => pts_nil) (fun _ _ _ _ _ => (pe_make MA.mp MA.gp (hr.mono (by omega)) (by rfl) MA.gP MA.bp MA.vp passF (pa_cons (pe_ix (r := rIxL K) ix_list (pv 3) pe_int (fun _ _ => rfl)) (pa_cons (pe_ix (r := rIxL K) ix_list (pv 3) pe_int (fun _ _ => rfl)) pa_nil)))))
      (pss_one (ps_ret (pe_make MA.mc MA.gc (hr.mono (by omega)) (by rfl) MA.gC MA.bc MA.vc passF (pa_cons (pe_ix ix_list (pv 0) pe_int (fun _ _ => rfl)) (pa_cons (pv 1) (pa_cons (pv 2) (pa_cons (pe_ix ix_list (pv 0) pe_int (fun _ _ => rfl)) (pa_cons (pe_lc (own := [("_law_below", 4)]) (g := gName 4) (tt := tYes) rfl sc_command.nd (pi_list (pe_ix ix_list (pv 0) pe_int (fun _ _ => rfl))) (blkOk_by (N := ["_law_tree_here", "_law_options_here", "_law_places_here", "_law_one", "_law_below"]) (sc := defScope st_command) (by decide +kernel)) (fun _ _ _ _ _ => (pg_name (i := 4) sc_command.nd rfl (Or.inl rfl))) (fun _ _ _ _ _ => pts_nil) (fun _ _ _ _ _ => (pe_call G_command hr (by rfl) D_command.g D_command.F.kp D_command.b .nil pass0 (pa_cons (pv 4) pa_nil)))) pa_nil))))))))), ?_⟩
      refine ⟨.ref a, rfl, a, _, 1, .ref ao, rfl, rfl, SqL.of T.ea, rfl, ao, rfl, ⟨_, SqL.of T.eo⟩, fun D nD => ?_⟩
      refine lc_list (K := K) (a := ao) (xs := xo.map V.ref) (fun i Hc => Same H Hc ∧ ∃ zs : List Addr, Hc D = some (.lst (zs.map V.ref)) ∧ All2 (fun a (o : OT) => IsT Hc CO a o.vs) zs (t.os.take i)) ⟨same_upd nD, [], upd_same, All2.nil⟩ (fun i Hc _ h => SqL.of (h.1 _ _ T.eo)) (fun i v Hc hv ⟨sc, zs, eD, hz⟩ => ?_) (fun H1 ⟨s1, ys, eD, hys⟩ => ?_)
      · rw [List.getElem?_map] at hv
        obtain ⟨x, hx, rfl⟩ := Option.map_eq_some_iff.mp hv
        have hi : i < xo.length := (List.getElem?_eq_some_iff.mp hx).1
        have lz : zs.length ≤ 12 := by
          rw [hz.1, List.length_take]
          have := T.lo
          omega
        obtain ⟨o, ho, ex, ok⟩ := T.ho.2 i x hx
        have ex' := sc _ _ ex
        refine ⟨rfl, .ref x, rfl, x, _, 0, .str o.long, rfl, rfl, SqL.of ex', rfl, .ref x, rfl, x, _, 1, .str o.short, rfl, rfl, SqL.of ex', rfl, .ref x, rfl, x, _, 2, .str o.takes, rfl, rfl, SqL.of ex', rfl, .ref x, rfl, x, _, 3, .bl o.need, rfl, rfl, SqL.of ex', rfl, .ref x, rfl, x, _, 4, .bl o.off, rfl, rfl, SqL.of ex', rfl, rfl, rfl, fun y dx n1 n2 n3 => ?_⟩
        refine mkOg (g := fun x => gVO [.ref x, .str o.long, .str o.short, .str o.takes] [.bl o.need, .bl o.off]) (Q := fun v H' => ∃ acc, H' D = some (.lst acc) ∧ acc.length < sizeLine ∧ Same H (upd H' D (.lst (acc ++ [v]))) ∧ ∃ zs : List Addr, (upd H' D (.lst (acc ++ [v]))) D = some (.lst (zs.map V.ref)) ∧ All2 (fun a (o : OT) => IsT (upd H' D (.lst (acc ++ [v]))) CO a o.vs) zs (t.os.take (i + 1))) ok (fun x => MA.hO _ _ _ _ _ _) (fun H' y s' ny iy => ?_) y dx n1 n2 n3
        have eD' := s' _ _ eD
        refine ⟨_, eD', by rw [List.length_map]; omega, fun b u e => ?_, zs ++ [y], by rw [upd_same, List.map_append]; rfl, all2_take (hz.mono fun a o h => (h.same s').lst eD') ho (iy.lst eD')⟩
        rw [upd_ne (ne_of_none e nD)]
        exact s' _ _ (sc _ _ e)
      rw [List.length_map, take_all T.ho.1] at hys
      have T1 := T.same s1
      refine ⟨.ref a, rfl, a, _, 2, .ref ap, rfl, rfl, SqL.of T1.ea, rfl, ap, rfl, ⟨_, SqL.of T1.ep⟩, fun D2 nD2 => ?_⟩
      refine lc_list (K := K) (a := ap) (xs := xp.map V.ref) (fun i Hc => Same H1 Hc ∧ ∃ zs : List Addr, Hc D2 = some (.lst (zs.map V.ref)) ∧ All2 (fun a (o : PL) => IsT Hc CP a o.vs) zs (t.ps.take i)) ⟨same_upd nD2, [], upd_same, All2.nil⟩ (fun i Hc _ h => SqL.of (h.1 _ _ T1.ep)) (fun i v Hc hv ⟨sc, zs, eD2, hz⟩ => ?_) (fun H2 ⟨s2, ws, eD2, hws⟩ => ?_)
      · rw [List.getElem?_map] at hv
        obtain ⟨x, hx, rfl⟩ := Option.map_eq_some_iff.mp hv
        have hi : i < xp.length := (List.getElem?_eq_some_iff.mp hx).1
        have lz : zs.length ≤ 6 := by
          rw [hz.1, List.length_take]
          have := T.lp
          omega
        obtain ⟨o, ho, ex, ok⟩ := T1.hp.2 i x hx
        have ex' := sc _ _ ex
        refine ⟨rfl, .ref x, rfl, x, _, 0, .str o.name, rfl, rfl, SqL.of ex', rfl, .ref x, rfl, x, _, 1, .str o.many, rfl, rfl, SqL.of ex', rfl, fun y dx n1 n2 n3 => ?_⟩
        refine mkP (Q := fun v H' => ∃ acc, H' D2 = some (.lst acc) ∧ acc.length < sizeLine ∧ Same H1 (upd H' D2 (.lst (acc ++ [v]))) ∧ ∃ zs : List Addr, (upd H' D2 (.lst (acc ++ [v]))) D2 = some (.lst (zs.map V.ref)) ∧ All2 (fun a (o : PL) => IsT (upd H' D2 (.lst (acc ++ [v]))) CP a o.vs) zs (t.ps.take (i + 1))) ok (fun H' y s' ny iy => ?_) y dx n1 n2 n3
        have eD' := s' _ _ eD2
        refine ⟨_, eD', by rw [List.length_map]; omega, fun b u e => ?_, zs ++ [y], by rw [upd_same, List.map_append]; rfl, all2_take (hz.mono fun a o h => (h.same s').lst eD') ho (iy.lst eD')⟩
        rw [upd_ne (ne_of_none e nD2)]
        exact s' _ _ (sc _ _ e)
      rw [List.length_map, take_all T.hp.1] at hws
      have T2 := T1.same s2
      have S2 := s1.trans s2
      refine ⟨.ref a, rfl, a, _, 0, .str t.name, rfl, rfl, SqL.of T2.ea, rfl, .ref D, rfl, .ref D2, rfl, .ref a, rfl, a, _, 3, .ref ag, rfl, rfl, SqL.of T2.ea, rfl, .ref a, rfl, a, _, 4, .ref ab, rfl, rfl, SqL.of T2.ea, rfl, ab, rfl, ⟨_, SqL.of T2.eb⟩, fun D3 nD3 => ?_⟩
      have sG := same_upd (o := .lst []) nD3
      have eG : (upd H2 D3 (.lst [])) D3 = some (.lst []) := upd_same
      have hG : ∀ b zs, (upd H2 D3 (.lst [])) b = some (.lst zs) → b = D3 ∨ H2 b = some (.lst zs) := fun b zs h => by
        by_cases z : b = D3
        · exact .inl z
        · rw [upd_ne z] at h
          exact .inr h
      obtain ⟨G, hGe⟩ : ∃ G, G = upd H2 D3 (.lst []) := ⟨_, rfl⟩
      rw [← hGe] at sG eG hG
      refine lc_list (K := K) (a := ab) (xs := xb.map V.ref) (fun i Hc => Same H2 Hc ∧ ∃ zs : List Addr, Hc D3 = some (.lst (zs.map V.ref)) ∧ All2 (fun a (u : Ct) => CdAt CO CP CC (nwl G Hc) d a u) zs (t.cs.take i)) ⟨same_upd nD3, [], upd_same, All2.nil⟩ (fun i Hc _ h => SqL.of (h.1 _ _ T2.eb)) (fun i v Hc hv ⟨sc, zs, eD3, hz⟩ => ?_) (fun H3 ⟨s3, us, eD3, hus⟩ => ?_)
      · rw [List.getElem?_map] at hv
        obtain ⟨x, hx, rfl⟩ := Option.map_eq_some_iff.mp hv
        have hi : i < xb.length := (List.getElem?_eq_some_iff.mp hx).1
        have lz : zs.length ≤ 8 := by
          rw [hz.1, List.length_take]
          have := T.lb
          omega
        have hi' : i < t.cs.length := by rw [← T.hl]; exact hi
        obtain ⟨e, he, tu⟩ := T2.hc i x t.cs[i] hx (List.getElem?_eq_getElem hi')
        obtain rfl : d = e := by omega
        refine ⟨rfl, .ref x, rfl, x, _, rfl, tu.same sc, fun H' y s' ny cy => ?_⟩
        have eD' := s' _ _ eD3
        refine ⟨_, eD', by rw [List.length_map]; omega, fun b u e => ?_, zs ++ [y], by rw [upd_same, List.map_append]; rfl, all2_take (hz.mono fun a u h => h.same (nwl_up s' eG)) (List.getElem?_eq_getElem hi') (cy.same (nwl_in (G := G) eD3 ?_))⟩
        · rw [upd_ne (ne_of_none e nD3)]
          exact s' _ _ (sc _ _ e)
        · intro b zs' h
          rcases hG b zs' h with h | h
          · exact .inl h
          · exact .inr ⟨_, sc _ _ h⟩
      rw [List.length_map, take_all T.hl] at hus
      have S3 := S2.trans s3
      have T3 := T2.same s3
      have hys3 := hys.mono fun a o h => h.same (s2.trans s3)
      have hws3 := hws.mono fun a o h => h.same s3
      have hgH : Same H G := fun b o e => by
        have := S2 b o e
        exact sG _ _ this
      refine mkC (t := t) (d := d) (G := H) S3 T.hn T.ab0 (Arg.ins (s3 _ _ (s2 _ _ eD)) (by rw [hys.1]; exact T.lo) (by decide) (by simp) hys3.ins) hys3 T.lo (Arg.ins (s3 _ _ eD2) (by rw [hws.1]; exact T.lp) (by decide) (by simp) hws3.ins) hws3 T.lp (Arg.gr T3.eg T3.hg T3.lg) T3.hg T3.lg (Arg.ins eD3 (by rw [hus.1]; exact T.lb) (by decide) (by simp) fun x hx => ?_) hus.1 T.lb (fun i b u h1 h2 => ?_) (fun H' x s' nx cx => q H' x (S3.trans s') (fresh_of S3 nx) cx)
      · obtain ⟨j, hj, ej⟩ := List.mem_iff_getElem.mp hx
        obtain ⟨u, _, hu⟩ := hus.2 j x (by rw [List.getElem?_eq_getElem hj, ej])
        obtain ⟨dx, fs, e⟩ := hu.ins
        exact ⟨dx, fs, nwl_le _ _ _ _ e⟩
      · obtain ⟨u', e1, hu⟩ := hus.2 i b h1
        rw [h2] at e1
        cases e1
        exact hu.same (nwl_base hgH)
end
end WB

set_option Elab.async false
set_option linter.all false
set_option maxRecDepth 100000
set_option maxHeartbeats 4000000
namespace WB
open PySem PySem.Spec PyProof.Rows L2 WG
open TL (tl)
/-! ### list.count, flat items -/
theorem countP_eqU {x : V} : ∀ {xs : List V} {us : List Value}, Vals xs us → xs.all flatV = true → us.countP (eqU x) = xs.countP fun y => eqV y x
  | _, _, .nil, _ => rfl
  | y :: xs, u :: us, .cons r t, f => by
    rw [List.all_cons, Bool.and_eq_true] at f
    rw [List.countP_cons, List.countP_cons, eqU_of r f.1, countP_eqU t f.2]
def rLcount (K : PySem.W.Frag) : V → List V → Hp → VK → Prop := fun x xs H Q => ∃ (a : Addr) (ys : List V) (y : V), x = V.ref a ∧ xs = [y] ∧ SqL K H a ys ∧ flatV y = true ∧ ys.all flatV = true ∧ Q (.int ((ys.countP fun z => eqV z y : Nat) : Int)) H
theorem mt_lcount {X : Cx} : MtR X "list.count" (rLcount X.K) := by
  intro pins s σ H x xs v us Q I rx rxs h
  obtain ⟨a, ys, y, rfl, rfl, hs, fy, fys, q⟩ := h
  cases rx
  cases rxs with
  | cons ry rt =>
    rename_i uy ut
    cases rt
    obtain ⟨its, rv, ⟨⟨cls, dd, data, sl⟩, n, ho, hc, hdn, hd⟩, hlen⟩ := I.list hs
    simp only at hc hd
    subst hc hd
    refine call_meets PySem.F.slot_list_count ⟨_, ho, rfl⟩ PySem.F.entry_list_count (PySem.F.args_list_count_2 _ _) (SeqAt.list_countAt a its.toArray n dd sl uy (eqU y)) ⟨ho, fun u hu => mem_eqAt ry fy rv fys u (by simpa using hu), ?_⟩
    rw [show its.toArray.toList = its from rfl, countP_eqU rv fys]
    exact ⟨.int _, H, I.tok _, ⟨_, rfl⟩, q⟩
theorem pe_lcount {X : Cx} {K : PySem.W.Frag} {o e : Expr} {to : TE} {t : TA} {apos cpos : Pos} (hK : X.K = K) (ho : PE X o to) (ha : PA X [e] t) (hbase : attributeBase o "count" X.env (eval o X.env) = eval o X.env := by rfl)
    (hfew : ((backTo cpos (starEach [e] X.env)).all (fun x => !x.1) && (backToKw cpos (keywordEach [] X.env)).all (fun x => x.1.isSome)
      && decide ([e].length + ([] : List Keyword).length + (if ([] : List Keyword).isEmpty then 0 else 1) < 30)) = true := by rfl)
    (hline : (apos.endLine == cpos.line) = true := by rfl) (hs : starEach [e] X.env = (false, eval e X.env) :: starEach [] X.env := by rfl) :
    PE X (.Call (.Attribute o "count" apos) [e] [] cpos) (tBM K "list" (rLcount K) to t) := by
  subst hK
  exact pe_bm PySem.F.plainAttrs_list PySem.F.slot_list_count PySem.F.type_list_count mt_lcount ho ha hbase hfew hline hs rfl
/-- a loop over enumerate(a list), by one word a turn -/
theorem for_enum {K : PySem.W.Frag} {a : Addr} {xs : List V} {g : TG} {tb : TS} {D : Ends} {σ : L2.St} {H : Hp} (Pv : Nat → L2.St → Hp → Prop) (h0 : Pv 0 σ H) (hl : ∀ i σ H, i ≤ xs.length → Pv i σ H → SqL K H a xs)
    (hs : ∀ i x σ H T, xs[i]? = some x → Pv i σ H → H T = none → g (.ref T) σ (upd H T (.tup [.int (i : Nat), x])) fun σ2 H2 => tb { D with nx := Pv (i + 1), ct := Pv (i + 1), bk := D.nx } σ2 H2) (hd : ∀ σ H, Pv xs.length σ H → D.nx σ H) :
    ∃ W : Nat → Nat → L2.St → Hp → Prop, (∃ m, W 0 m σ H) ∧ ∀ i m σ H, W i m σ H →
      ((Ite K a).stop i H ∧ D.nx σ H) ∨ ((Ite K a).go i H ∧ ∃ N : L2.St → Hp → Prop, (∀ σ' H', N σ' H' → ∃ m', m' < m ∧ W (i + 1) m' σ' H') ∧ ∀ x H', (Ite K a).yld i H x H' → g x σ H' fun σ2 H2 => tb { D with nx := N, ct := N, bk := D.nx } σ2 H2) := by
  refine ⟨fun i m σ H => m = xs.length - i ∧ i ≤ xs.length ∧ Pv i σ H, ⟨xs.length, by simp, Nat.zero_le _, h0⟩, ?_⟩
  rintro i m σ H ⟨rfl, hi, p⟩
  have q := hl i σ H hi p
  by_cases hlt : i < xs.length
  · refine .inr ⟨⟨xs, xs[i], q, by simp [hlt]⟩, Pv (i + 1), fun σ' H' p' => ⟨xs.length - (i + 1), by omega, rfl, hlt, p'⟩, fun x H' y => ?_⟩
    obtain ⟨T, x', rfl, nT, rfl, y⟩ := y
    exact hs i x' σ H T (y xs q) p nT
  · have e : i = xs.length := by omega
    subst e
    exact .inl ⟨⟨xs, q, Nat.le_refl _⟩, hd σ H p⟩
theorem firstRep_cons {y : Str} {r seen : List Str} : firstRep (y :: r) seen = if inS y seen = true then some y else firstRep r (seen ++ [y]) := rfl
theorem inS_mem {z : Str} {ys : List Str} : inS z ys = true ↔ z ∈ ys := by
  unfold inS inV
  rw [List.any_eq_true]
  constructor
  · rintro ⟨v, hv, e⟩
    obtain ⟨y, hy, rfl⟩ := List.mem_map.mp hv
    have e' : decide (y = z) = true := e
    rw [← of_decide_eq_true e']
    exact hy
  · exact fun h => ⟨.str z, List.mem_map.mpr ⟨z, h, rfl⟩, show decide (z = z) = true from decide_eq_true rfl⟩
theorem count_two {ys : List Str} {i : Nat} {y : Str} (hy : ys[i]? = some y) (h : y ∈ ys.take i) : 1 < (ys.map V.str).countP fun v => eqV v (.str y) := by
  have hi : i < ys.length := (List.getElem?_eq_some_iff.mp hy).1
  have e : ys = ys.take i ++ y :: ys.drop (i + 1) := by
    rw [← drop_at hy, List.take_append_drop]
  have self : eqV (.str y) (.str y) = true := show decide (y = y) = true from decide_eq_true rfl
  rw [e, List.map_append, List.map_cons, List.countP_append, List.countP_cons_of_pos (p := fun v => eqV v (.str y)) self]
  have h1 : 0 < ((ys.take i).map V.str).countP fun v => eqV v (.str y) := List.countP_pos_iff.mpr ⟨.str y, List.mem_map.mpr ⟨y, h, rfl⟩, self⟩
  omega
/-- a comprehension over enumerate(a list): each turn has its new pair -/
theorem lc_enum {K : PySem.W.Frag} {a : Addr} {xs : List V} {g : TG} {tt : TT} {te : TE} {vs : List Nat} {σ : L2.St} {H1 : Hp} {D : Addr} {Qd : Hp → Prop} (Pv : Nat → Hp → Prop) (h0 : Pv 0 (upd H1 D (.lst []))) (hl : ∀ i H, i ≤ xs.length → Pv i H → SqL K H a xs)
    (hs : ∀ i x H T, xs[i]? = some x → Pv i H → H T = none → g (.ref T) (wipe σ vs) (upd H T (.tup [.int (i : Nat), x])) fun σ2 H2 => wipe σ2 vs = wipe σ vs ∧ tt σ2 H2 fun b H3 =>
      if b = true then te σ2 H3 fun y H4 => ∃ acc, H4 D = some (.lst acc) ∧ acc.length < sizeLine ∧ Pv (i + 1) (upd H4 D (.lst (acc ++ [y]))) else Pv (i + 1) H3) (hd : ∀ H, Pv xs.length H → Qd H) :
    ∃ W : Nat → Nat → Hp → Prop, (∃ m, W 0 m (upd H1 D (.lst []))) ∧ ∀ i m H, W i m H →
      ((Ite K a).stop i H ∧ Qd H) ∨ ((Ite K a).go i H ∧ ∃ Nx : Hp → Prop, (∀ H', Nx H' → ∃ m', m' < m ∧ W (i + 1) m' H') ∧ ∀ x H', (Ite K a).yld i H x H' → g x (wipe σ vs) H' fun σ2 H2 => wipe σ2 vs = wipe σ vs ∧ tt σ2 H2 fun b H3 =>
        if b = true then te σ2 H3 fun y H4 => ∃ acc, H4 D = some (.lst acc) ∧ acc.length < sizeLine ∧ Nx (upd H4 D (.lst (acc ++ [y]))) else Nx H3) := by
  refine ⟨fun i m H => m = xs.length - i ∧ i ≤ xs.length ∧ Pv i H, ⟨xs.length, by simp, Nat.zero_le _, h0⟩, ?_⟩
  rintro i m H ⟨rfl, hi, p⟩
  have q := hl i H hi p
  by_cases hlt : i < xs.length
  · refine .inr ⟨⟨xs, xs[i], q, by simp [hlt]⟩, Pv (i + 1), fun H' p' => ⟨xs.length - (i + 1), by omega, rfl, hlt, p'⟩, fun x H' y => ?_⟩
    obtain ⟨T, x', rfl, nT, rfl, y⟩ := y
    exact hs i x' H T (y xs q) p nT
  · have e : i = xs.length := by omega
    subst e
    exact .inl ⟨⟨xs, q, Nat.le_refl _⟩, hd H p⟩
theorem firstRep_mem {z : Str} : ∀ {ys seen : List Str}, firstRep ys seen = some z → z ∈ ys
  | [], _, h => by cases h
  | y :: r, seen, h => by
    rw [firstRep_cons] at h
    split at h
    · cases h
      exact List.mem_cons_self
    · exact List.mem_cons_of_mem _ (firstRep_mem h)
theorem orderBad_mem {z : Str} : ∀ {ps : List PL} {ah : List Str}, orderBad ps ah = some z → ∃ p ∈ ps, z = p.name
  | [], _, h => by cases h
  | p :: r, ah, h => by
    rw [orderBad_cons] at h
    split at h
    · obtain ⟨p', h1, h2⟩ := orderBad_mem h
      exact ⟨p', List.mem_cons_of_mem _ h1, h2⟩
    · cases h
      exact ⟨p, List.mem_cons_self, rfl⟩
theorem groupBad_mem {ok : List Str} {z : Str} : ∀ {zs ah : List Str}, groupBad ok zs ah = some z → z ∈ zs
  | [], _, h => by cases h
  | y :: r, ah, h => by
    rw [groupBad_cons] at h
    split at h
    · cases h
      exact List.mem_cons_self
    · exact List.mem_cons_of_mem _ (groupBad_mem h)
theorem firstOf_mem {k z : Str} : ∀ {xs : List (Str × Option Str)}, firstOf xs = some (k, z) → (k, some z) ∈ xs
  | [], h => by cases h
  | (k', some z') :: r, h => by
    cases h
    exact List.mem_cons_self
  | (k', none) :: r, h => List.mem_cons_of_mem _ (firstOf_mem (xs := r) h)
theorem all2_mem {α : Type} {R : Addr → α → Prop} {as : List Addr} {xs : List α} (h : All2 R as xs) {x : α} (hx : x ∈ xs) : ∃ a, R a x := by
  obtain ⟨i, hi, e⟩ := List.mem_iff_getElem.mp hx
  obtain ⟨a, _, r⟩ := h.get (i := i) (x := x) (by rw [List.getElem?_eq_getElem hi, e])
  exact ⟨a, r⟩
def deepC (t : Ct) (path : List Str) : Option Str := if 4 < path.length then some t.name else none
def looks8 (t : Ct) (path : List Str) : List (Str × Option Str) := (Str.ofString "deep", deepC t path) :: looksC t
theorem looks8_eq (t : Ct) (path : List Str) : looks8 t path = [(Str.ofString "deep", deepC t path), (Str.ofString "long", firstRep (longsC t) []), (Str.ofString "short", firstRep (shortsC t) []), (Str.ofString "name", firstRep (t.ps.map PL.name) (longsC t)), (Str.ofString "order", orderBad t.ps []), (Str.ofString "both", bothC t), (Str.ofString "group", groupBad (freeC t) t.gs.flatten []), (Str.ofString "command", firstRep (t.cs.map Ct.name) [])] := rfl
theorem own_looks (t : Ct) (path : List Str) : ownC t path = firstOf (looks8 t path) := by
  unfold ownC looks8 deepC
  by_cases h : 4 < path.length
  · rw [if_pos h, if_pos h]
    rfl
  · rw [if_neg h, if_neg h]
    rfl
def upTo (n : Nat) (sp : Nat → Sp) : Sp := fun vs H Q E => ∃ d, d ≤ n ∧ sp d vs H Q E
section
variable {P : Program} {w : World} {K : PySem.W.Frag} {mg : Str → Option Value} {base : Heap} {CX : CXT} {k n : Nat} {f : Addr} {fd : FuncData} {ps : List Str} {sp : Nat → Sp}
theorem fn_up (G : ∀ d, d ≤ n → FnOk P w K mg base CX k f fd ps (sp d)) : FnOk P w K mg base CX k f fd ps (upTo n sp) :=
  ⟨fun vs H Q E ⟨d, h, q⟩ => (G d h).len vs H Q E q, fun A outer s H args us vs Q E hr he hb hv ⟨d, h, q⟩ => (G d h).run A outer s H args us vs Q E hr he hb hv q⟩
theorem g_up (G : ∀ d, d ≤ n → GOk P w K mg base CX k f fd ps (sp d)) : GOk P w K mg base CX k f fd ps (upTo n sp) :=
  ⟨fun vs H Q E ⟨d, h, q⟩ => (G d h).len vs H Q E q, fun A outer s H args us vs Q E hg hr he hb hv ⟨d, h, q⟩ => (G d h).run A outer s H args us vs Q E hg hr he hb hv q⟩
end
end WB

set_option Elab.async false
set_option linter.all false
set_option maxRecDepth 100000
set_option maxHeartbeats 4000000
namespace WB
open PySem PySem.Spec PyProof.Rows L2 WG
open TL (tl)
/-! ### how many things stand in a tree -/
mutual
def szC : Ct → Nat
  | .mk _ os ps gs cs _ => 1 + os.length + ps.length + gs.length + szCs cs
def szCs : List Ct → Nat
  | [] => 0
  | c :: r => szC c + szCs r
end
theorem szC_eq (t : Ct) : szC t = 1 + t.os.length + t.ps.length + t.gs.length + szCs t.cs := by
  cases t
  rw [szC]
  rfl
theorem szC_pos (t : Ct) : 0 < szC t := by
  rw [szC_eq]
  omega
theorem All2.cons_of {α : Type} {R : Addr → α → Prop} {a : Addr} {as : List Addr} {xs : List α} (h : All2 R (a :: as) xs) : ∃ x r, xs = x :: r ∧ R a x ∧ All2 R as r := by
  cases xs with
  | nil => exact absurd h.1 (by simp)
  | cons x r => exact ⟨x, r, rfl, h.tail.1, h.tail.2⟩
theorem less_sum {R R' : Addr → Ct → Prop} {xs ys : List Addr} (s : ys.Sublist xs) : ∀ {cs cs' : List Ct}, All2 R xs cs → All2 R' ys cs' → (∀ b ∈ xs, ∀ c c', R b c → R' b c' → szC c' ≤ szC c) → szCs cs' + xs.length ≤ szCs cs + ys.length := by
  induction s with
  | slnil =>
    intro cs cs' h h' _
    cases cs' with
    | nil => simp [szCs]
    | cons x r => exact absurd h'.1 (by simp)
  | cons a s ih =>
    intro cs cs' h h' k
    obtain ⟨c, r, rfl, rc, hr⟩ := h.cons_of
    have h1 := ih hr h' fun b hb => k b (List.mem_cons_of_mem _ hb)
    have h2 := szC_pos c
    rw [szCs, List.length_cons]
    omega
  | cons_cons a s ih =>
    intro cs cs' h h' k
    obtain ⟨c, r, rfl, rc, hr⟩ := h.cons_of
    obtain ⟨c', r', rfl, rc', hr'⟩ := h'.cons_of
    have h1 := ih hr hr' fun b hb => k b (List.mem_cons_of_mem _ hb)
    have h2 := k a List.mem_cons_self c c' rc rc'
    rw [szCs, szCs, List.length_cons, List.length_cons]
    omega
theorem less_strict {R R' : Addr → Ct → Prop} {b : Addr} {xs ys : List Addr} (s : ys.Sublist xs) : ∀ {cs cs' : List Ct}, All2 R xs cs → All2 R' ys cs' → (∀ b ∈ xs, ∀ c c', R b c → R' b c' → szC c' ≤ szC c) → b ∈ xs → (∀ c c', R b c → R' b c' → szC c' < szC c) → szCs cs' < szCs cs := by
  induction s with
  | slnil =>
    intro cs cs' h h' _ hb
    cases hb
  | cons a s ih =>
    intro cs cs' h h' k hb st
    obtain ⟨c, r, rfl, rc, hr⟩ := h.cons_of
    have h1 := less_sum s hr h' fun b hb => k b (List.mem_cons_of_mem _ hb)
    have h2 := szC_pos c
    have h3 := s.length_le
    rw [szCs]
    omega
  | cons_cons a s ih =>
    intro cs cs' h h' k hb st
    obtain ⟨c, r, rfl, rc, hr⟩ := h.cons_of
    obtain ⟨c', r', rfl, rc', hr'⟩ := h'.cons_of
    have h1 := less_sum s hr hr' fun b hb => k b (List.mem_cons_of_mem _ hb)
    have h3 := s.length_le
    rw [szCs, szCs]
    rcases List.mem_cons.mp hb with e | hb'
    · rw [e] at st
      have h2 := st c c' rc rc'
      omega
    · have h2 := k a List.mem_cons_self c c' rc rc'
      have h4 := ih hr hr' (fun b hb => k b (List.mem_cons_of_mem _ hb)) hb' st
      omega
/-! ### heaps in which less stands in the lists -/
structure Less (H H' : Hp) : Prop where
  nd : ∀ a n ao ap ag ab, H a = some (.lst [.str n, .ref ao, .ref ap, .ref ag, .ref ab]) → ∃ ap', H' a = some (.lst [.str n, .ref ao, .ref ap', .ref ag, .ref ab]) ∧ (ap' = ap ∨ H' ap' = some (.lst []))
  ls : ∀ a (xs : List Addr), H a = some (.lst (xs.map V.ref)) → ∃ ys : List Addr, H' a = some (.lst (ys.map V.ref)) ∧ ys.Sublist xs
theorem Less.of {H H' : Hp} (s : Same H H') : Less H H' := ⟨fun a n ao ap ag ab e => ⟨ap, s _ _ e, .inl rfl⟩, fun a xs e => ⟨xs, s _ _ e, List.Sublist.refl _⟩⟩
theorem Less.trans {H H1 H2 : Hp} (L : Less H H1) (M : Less H1 H2) : Less H H2 := by
  refine ⟨fun a n ao ap ag ab e => ?_, fun a xs e => ?_⟩
  · obtain ⟨ap1, e1, h1⟩ := L.nd _ _ _ _ _ _ e
    obtain ⟨ap2, e2, h2⟩ := M.nd _ _ _ _ _ _ e1
    refine ⟨ap2, e2, ?_⟩
    rcases h2 with rfl | h2
    · rcases h1 with h1 | h1
      · exact .inl h1
      · obtain ⟨ys, e3, s⟩ := M.ls ap2 [] h1
        rw [List.sublist_nil.mp s] at e3
        exact .inr e3
    · exact .inr h2
  · obtain ⟨ys, e1, s1⟩ := L.ls _ _ e
    obtain ⟨zs, e2, s2⟩ := M.ls _ _ e1
    exact ⟨zs, e2, s2.trans s1⟩
theorem er_map {α β : Type} (f : α → β) : ∀ (xs : List α) (k : Nat), (xs.map f).eraseIdx k = (xs.eraseIdx k).map f
  | [], _ => rfl
  | _ :: _, 0 => rfl
  | x :: r, k + 1 => by
    rw [List.map_cons, List.eraseIdx_cons_succ, List.eraseIdx_cons_succ, List.map_cons, er_map f r k]
theorem Less.pop {H : Hp} {l : Addr} {xs : List Addr} (el : H l = some (.lst (xs.map V.ref))) (k : Nat) : Less H (upd H l (.lst ((xs.map V.ref).eraseIdx k))) := by
  refine ⟨fun a n ao ap ag ab e => ⟨ap, ?_, .inl rfl⟩, fun a ys e => ?_⟩
  · rw [upd_ne (fun z => by
      rw [z, el] at e
      cases xs <;> cases e)]
    exact e
  · by_cases z : a = l
    · subst z
      rw [el] at e
      have := refs_inj (HO.lst.inj (Option.some.inj e))
      subst this
      exact ⟨xs.eraseIdx k, by rw [upd_same, er_map], List.eraseIdx_sublist _ _⟩
    · exact ⟨ys, by rw [upd_ne z]; exact e, List.Sublist.refl _⟩
theorem Less.sub {H H' : Hp} (L : Less H H') {a : Addr} {xs ys : List Addr} (e : H a = some (.lst (xs.map V.ref))) (e' : H' a = some (.lst (ys.map V.ref))) : ys.Sublist xs := by
  obtain ⟨zs, e1, s⟩ := L.ls _ _ e
  rw [e'] at e1
  rw [refs_inj (HO.lst.inj (Option.some.inj e1))]
  exact s
theorem TrO.kids {H : Hp} {d : Nat} {a : Addr} {t : Ct} {ao ap ag ab : Addr} {xo xp xg xb : List Addr} (T : TrO H d a t ao ap ag ab xo xp xg xb) : All2 (fun b u => ∃ e, d = e + 1 ∧ TrAt H e b u) xb t.cs := ⟨T.hl, fun i b e => by
  have hi : i < t.cs.length := by rw [← T.hl]; exact (List.getElem?_eq_some_iff.mp e).1
  exact ⟨t.cs[i], List.getElem?_eq_getElem hi, T.hc i b _ e (List.getElem?_eq_getElem hi)⟩⟩
/-- how long the lists of a node are -/
def lenL (H : Hp) (a : Addr) : Nat := match H a with
  | some (.lst vs) => vs.length
  | _ => 0
theorem lenL_of {H : Hp} {a : Addr} {xs : List Addr} (e : H a = some (.lst (xs.map V.ref))) : lenL H a = xs.length := by
  unfold lenL
  rw [e]
  exact List.length_map ..
def tot (H : Hp) (c : Addr) : Nat := match H c with
  | some (.lst [_, .ref ao, .ref ap, .ref ag, .ref ab]) => lenL H ao + lenL H ap + lenL H ag + lenL H ab
  | _ => 0
theorem tot_of {H : Hp} {c ao ap ag ab : Addr} {v : V} (e : H c = some (.lst [v, .ref ao, .ref ap, .ref ag, .ref ab])) : tot H c = lenL H ao + lenL H ap + lenL H ag + lenL H ab := by
  unfold tot
  rw [e]
theorem TrO.tot {H : Hp} {d : Nat} {a : Addr} {t : Ct} {ao ap ag ab : Addr} {xo xp xg xb : List Addr} (T : TrO H d a t ao ap ag ab xo xp xg xb) : tot H a = t.os.length + t.ps.length + t.gs.length + t.cs.length := by
  rw [tot_of T.ea, lenL_of T.eo, lenL_of T.ep, lenL_of T.eg, lenL_of T.eb, T.ho.1, T.hp.1, T.hg.1, T.hl]
theorem same_node {H' : Hp} {a : Addr} {n m : Str} {ao ap ag ab ao' ap' ag' ab' : Addr} (e : H' a = some (.lst [.str n, .ref ao, .ref ap, .ref ag, .ref ab])) (e' : H' a = some (.lst [.str m, .ref ao', .ref ap', .ref ag', .ref ab'])) : n = m ∧ ao = ao' ∧ ap = ap' ∧ ag = ag' ∧ ab = ab' := by
  rw [e] at e'
  simp only [Option.some.injEq, HO.lst.injEq, List.cons.injEq, V.str.injEq, V.ref.injEq, and_true] at e'
  exact e'
theorem Less.both {H H' : Hp} (L : Less H H') {d d' : Nat} {a : Addr} {t t' : Ct} {ao ap ag ab ao' ap' ag' ab' : Addr} {xo xp xg xb xo' xp' xg' xb' : List Addr} (T : TrO H d a t ao ap ag ab xo xp xg xb) (T' : TrO H' d' a t' ao' ap' ag' ab' xo' xp' xg' xb') :
    t'.os.length ≤ t.os.length ∧ t'.ps.length ≤ t.ps.length ∧ t'.gs.length ≤ t.gs.length ∧ xb'.Sublist xb := by
  obtain ⟨ap2, e1, hp⟩ := L.nd _ _ _ _ _ _ T.ea
  obtain ⟨_, rfl, rfl, rfl, rfl⟩ := same_node T'.ea e1
  have so := (L.sub T.eo T'.eo).length_le
  have sg := (L.sub T.eg T'.eg).length_le
  rw [T.ho.1, T'.ho.1] at so
  rw [T.hg.1, T'.hg.1] at sg
  refine ⟨so, ?_, sg, L.sub T.eb T'.eb⟩
  rcases hp with rfl | e
  · have sp := (L.sub T.ep T'.ep).length_le
    rw [T.hp.1, T'.hp.1] at sp
    exact sp
  · rw [T'.ep] at e
    have := HO.lst.inj (Option.some.inj e)
    have h0 : xp' = [] := List.map_eq_nil_iff.mp this
    rw [← T'.hp.1, h0]
    exact Nat.zero_le _
theorem Less.le {H H' : Hp} (L : Less H H') : ∀ (d : Nat) (a : Addr) (t : Ct), TrAt H d a t → ∀ (d' : Nat) (t' : Ct), TrAt H' d' a t' → szC t' ≤ szC t := by
  intro d
  induction d with
  | zero =>
    intro a t h
    cases h
  | succ d ih =>
    intro a t h d' t' h'
    obtain ⟨ao, ap, ag, ab, xo, xp, xg, xb, T⟩ := h.op
    obtain ⟨ao', ap', ag', ab', xo', xp', xg', xb', T'⟩ := h'.op
    obtain ⟨h1, h2, h3, sb⟩ := L.both T T'
    have h4 := less_sum sb T.kids T'.kids fun b _ c c' ⟨e, he, hc⟩ ⟨e', he', hc'⟩ => ih b c (by rw [show d = e from by omega]; exact hc) e' c' hc'
    have h5 := sb.length_le
    rw [szC_eq, szC_eq]
    omega
theorem Less.nlt {H H' : Hp} (L : Less H H') {d d' : Nat} {a : Addr} {t t' : Ct} (h : TrAt H d a t) (h' : TrAt H' d' a t') (st : tot H' a < tot H a) : szC t' < szC t := by
  obtain ⟨ao, ap, ag, ab, xo, xp, xg, xb, T⟩ := h.op
  obtain ⟨ao', ap', ag', ab', xo', xp', xg', xb', T'⟩ := h'.op
  obtain ⟨h1, h2, h3, sb⟩ := L.both T T'
  have h4 := less_sum sb T.kids T'.kids fun b _ c c' ⟨e, he, hc⟩ ⟨e', he', hc'⟩ => L.le e b c hc e' c' hc'
  rw [T.tot, T'.tot] at st
  rw [T.hl, T'.hl] at h4
  rw [szC_eq, szC_eq]
  omega
/-! ### down a path, where each name is told once -/
inductive Dn (H : Hp) : List Str → Addr → Addr → Prop
  | nil (a : Addr) : Dn H [] a a
  | cons {n : Str} {q : List Str} {a b c ab : Addr} {v0 v1 v2 v3 : V} {xs : List Addr} {ns : List Str} {i : Nat} (ea : H a = some (.lst [v0, v1, v2, v3, .ref ab])) (eb : H ab = some (.lst (xs.map V.ref))) (hn : All2 (fun x m => ∃ vs, H x = some (.lst (V.str m :: vs))) xs ns) (hb : xs[i]? = some b) (nb : ns[i]? = some n) (un : ∀ j, ns[j]? = some n → j = i) (dn : Dn H q b c) : Dn H (n :: q) a c
theorem Dn.same {H H' : Hp} {q : List Str} {a c : Addr} (h : Dn H q a c) (s : Same H H') : Dn H' q a c := by
  induction h with
  | nil a => exact .nil a
  | cons ea eb hn hb nb un dn ih => exact .cons (s _ _ ea) (s _ _ eb) (hn.mono fun x m ⟨vs, e⟩ => ⟨vs, s _ _ e⟩) hb nb un ih
theorem kid_same {H : Hp} {d : Nat} {a : Addr} {t : Ct} {ao ap ag ab ab' : Addr} {xo xp xg xb xs : List Addr} {v0 v1 v2 v3 : V} (T : TrO H d a t ao ap ag ab xo xp xg xb) (ea : H a = some (.lst [v0, v1, v2, v3, .ref ab'])) (eb : H ab' = some (.lst (xs.map V.ref))) : ab' = ab ∧ xs = xb := by
  rw [T.ea] at ea
  simp only [Option.some.injEq, HO.lst.injEq, List.cons.injEq, V.ref.injEq, and_true] at ea
  obtain ⟨_, _, _, _, rfl⟩ := ea
  rw [T.eb] at eb
  exact ⟨rfl, (refs_inj (HO.lst.inj (Option.some.inj eb))).symm⟩
theorem Dn.lt {H H' : Hp} (L : Less H H') {q : List Str} {a c : Addr} (h : Dn H q a c) (st : tot H' c < tot H c) : ∀ (d : Nat) (t : Ct) (d' : Nat) (t' : Ct), TrAt H d a t → TrAt H' d' a t' → szC t' < szC t := by
  induction h with
  | nil a => exact fun d t d' t' h h' => L.nlt h h' st
  | cons ea eb hn hb nb un dn ih =>
    intro d t d' t' h h'
    obtain ⟨ao, ap, ag, ab, xo, xp, xg, xb, T⟩ := h.op
    obtain ⟨ao', ap', ag', ab', xo', xp', xg', xb', T'⟩ := h'.op
    obtain ⟨h1, h2, h3, sb⟩ := L.both T T'
    obtain ⟨_, rfl⟩ := kid_same T ea eb
    have h4 := less_strict sb T.kids T'.kids (fun b _ c c' ⟨e, he, hc⟩ ⟨e', he', hc'⟩ => L.le e b c hc e' c' hc') (List.mem_of_getElem? hb) (fun c c' ⟨e, he, hc⟩ ⟨e', he', hc'⟩ => ih st e c e' c' hc hc')
    rw [szC_eq, szC_eq]
    omega
theorem Dn.node {ϕ : Nat} {κ : Addr → Rl} {H : Hp} (th : TH ϕ κ H) {q : List Str} {a c : Addr} (h : Dn H q a c) : ∀ r u, κ a = .node r u → ∃ r' u', κ c = .node r' u' := by
  induction h with
  | nil a => exact fun r u k => ⟨r, u, k⟩
  | cons ea eb hn hb nb un dn ih =>
    intro r u k
    obtain ⟨n, ao, ap, ag, ab, r', w', xb, ws, _, e1, _, _, _, _, _, e2, _, hw, _⟩ := th.nd k
    rw [e1] at ea
    simp only [Option.some.injEq, HO.lst.injEq, List.cons.injEq, V.ref.injEq, and_true] at ea
    obtain ⟨_, _, _, _, rfl⟩ := ea
    rw [e2] at eb
    have := refs_inj (HO.lst.inj (Option.some.inj eb))
    subst this
    obtain ⟨u', _, kb⟩ := hw.2 _ _ hb
    exact ih r' u' kb
end WB

set_option Elab.async false
set_option linter.all false
set_option maxRecDepth 100000
set_option maxHeartbeats 4000000
namespace WB
open PySem PySem.Spec PyProof.Rows L2 WG
open TL (tl)
/-! ### where a clash is -/
theorem rep_none : ∀ {ys seen : List Str}, firstRep ys seen = none → (∀ y ∈ ys, y ∉ seen) ∧ ∀ (i j : Nat) (y : Str), ys[i]? = some y → ys[j]? = some y → i = j
  | [], _, _ => ⟨(fun y h => by cases h), (fun i j y h => by cases h)⟩
  | y :: r, seen, h => by
    rw [firstRep_cons] at h
    split at h
    · cases h
    · rename_i hy
      have hy' : y ∉ seen := fun z => hy (inS_mem.mpr z)
      obtain ⟨h1, h2⟩ := rep_none h
      have hr : ∀ x ∈ r, x ∉ seen ∧ x ≠ y := fun x hx => ⟨fun z => h1 x hx (List.mem_append_left _ z), fun z => h1 x hx (by rw [z]; exact List.mem_append_right _ List.mem_cons_self)⟩
      refine ⟨fun x hx => ?_, fun i j x hi hj => ?_⟩
      · rcases List.mem_cons.mp hx with rfl | hx
        · exact hy'
        · exact (hr x hx).1
      · match i, j with
        | 0, 0 => rfl
        | 0, j + 1 =>
          cases hi
          exact absurd rfl (hr _ (List.mem_of_getElem? (show r[j]? = some y from hj))).2
        | i + 1, 0 =>
          cases hj
          exact absurd rfl (hr _ (List.mem_of_getElem? (show r[i]? = some y from hi))).2
        | i + 1, j + 1 => rw [h2 i j x hi hj]
theorem rep_some {z : Str} : ∀ {ys seen : List Str}, firstRep ys seen = some z → ∃ i, ys[i]? = some z ∧ (z ∈ seen ∨ ∃ j : Nat, j < i ∧ ys[j]? = some z)
  | [], _, h => by cases h
  | y :: r, seen, h => by
    rw [firstRep_cons] at h
    split at h
    · rename_i hy
      cases h
      exact ⟨0, rfl, .inl (inS_mem.mp hy)⟩
    · obtain ⟨i, h1, h2⟩ := rep_some h
      refine ⟨i + 1, h1, ?_⟩
      rcases h2 with h2 | ⟨j, hj, h2⟩
      · rcases List.mem_append.mp h2 with h2 | h2
        · exact .inl h2
        · rw [List.mem_singleton.mp h2]
          exact .inr ⟨0, Nat.succ_pos _, rfl⟩
      · exact .inr ⟨j + 1, Nat.succ_lt_succ hj, h2⟩
theorem firstOf_none : ∀ {xs : List (Str × Option Str)}, firstOf xs = none → ∀ p ∈ xs, p.2 = none
  | [], _, p, hp => by cases hp
  | (k, some z) :: r, h, _, _ => by cases h
  | (k, none) :: r, h, p, hp => by
    rcases List.mem_cons.mp hp with rfl | hp
    · rfl
    · exact firstOf_none (xs := r) h p hp
theorem own_none {t : Ct} {path : List Str} (h : ownC t path = none) : path.length ≤ 4 ∧ firstRep (longsC t) [] = none ∧ firstRep (shortsC t) [] = none ∧ firstRep (t.ps.map PL.name) (longsC t) = none ∧ orderBad t.ps [] = none ∧ bothC t = none ∧ groupBad (freeC t) t.gs.flatten [] = none ∧ firstRep (t.cs.map Ct.name) [] = none := by
  rw [own_looks] at h
  have hn := firstOf_none h
  rw [looks8_eq] at hn
  refine ⟨?_, hn (Str.ofString "long", firstRep (longsC t) []) (by simp), hn (Str.ofString "short", firstRep (shortsC t) []) (by simp), hn (Str.ofString "name", firstRep (t.ps.map PL.name) (longsC t)) (by simp), hn (Str.ofString "order", orderBad t.ps []) (by simp), hn (Str.ofString "both", bothC t) (by simp), hn (Str.ofString "group", groupBad (freeC t) t.gs.flatten []) (by simp), hn (Str.ofString "command", firstRep (t.cs.map Ct.name) []) (by simp)⟩
  have := hn (Str.ofString "deep", deepC t path) List.mem_cons_self
  unfold deepC at this
  dsimp only at this
  split at this
  · cases this
  · omega
theorem own_some {t : Ct} {path : List Str} {k z : Str} (h : ownC t path = some (k, z)) : (k = Str.ofString "deep" ∧ 4 < path.length ∧ z = t.name) ∨ (k = Str.ofString "long" ∧ firstRep (longsC t) [] = some z) ∨ (k = Str.ofString "short" ∧ firstRep (shortsC t) [] = some z) ∨ (k = Str.ofString "name" ∧ firstRep (t.ps.map PL.name) (longsC t) = some z) ∨
    (k = Str.ofString "order" ∧ firstRep (t.ps.map PL.name) (longsC t) = none ∧ orderBad t.ps [] = some z) ∨ (k = Str.ofString "both" ∧ bothC t = some z) ∨ (k = Str.ofString "group" ∧ groupBad (freeC t) t.gs.flatten [] = some z) ∨ (k = Str.ofString "command" ∧ firstRep (t.cs.map Ct.name) [] = some z) := by
  rw [own_looks, looks8_eq] at h
  cases o1 : deepC t path with
  | some y =>
    rw [o1] at h
    cases h
    unfold deepC at o1
    split at o1
    · cases o1
      exact .inl ⟨rfl, by assumption, rfl⟩
    · cases o1
  | none =>
    rw [o1] at h
    refine .inr ?_
    cases o2 : firstRep (longsC t) [] with
    | some y =>
      rw [o2] at h
      cases h
      exact .inl ⟨rfl, rfl⟩
    | none =>
      rw [o2] at h
      refine .inr ?_
      cases o3 : firstRep (shortsC t) [] with
      | some y =>
        rw [o3] at h
        cases h
        exact .inl ⟨rfl, rfl⟩
      | none =>
        rw [o3] at h
        refine .inr ?_
        cases o4 : firstRep (t.ps.map PL.name) (longsC t) with
        | some y =>
          rw [o4] at h
          cases h
          exact .inl ⟨rfl, rfl⟩
        | none =>
          rw [o4] at h
          refine .inr ?_
          cases o5 : orderBad t.ps [] with
          | some y =>
            rw [o5] at h
            cases h
            exact .inl ⟨rfl, rfl, rfl⟩
          | none =>
            rw [o5] at h
            refine .inr ?_
            cases o6 : bothC t with
            | some y =>
              rw [o6] at h
              cases h
              exact .inl ⟨rfl, rfl⟩
            | none =>
              rw [o6] at h
              refine .inr ?_
              cases o7 : groupBad (freeC t) t.gs.flatten [] with
              | some y =>
                rw [o7] at h
                cases h
                exact .inl ⟨rfl, rfl⟩
              | none =>
                rw [o7] at h
                refine .inr ?_
                cases o8 : firstRep (t.cs.map Ct.name) [] with
                | some y =>
                  rw [o8] at h
                  cases h
                  exact ⟨rfl, rfl⟩
                | none =>
                  rw [o8] at h
                  cases h
theorem clashes_some {path : List Str} {y : List Str × Str × Str} : ∀ {cs : List Ct}, clashesIn path cs = some y → ∃ (i : Nat) (c : Ct), cs[i]? = some c ∧ clashIn path c = some y
  | [], h => by
    rw [clashesIn] at h
    cases h
  | c :: r, h => by
    rw [clashesIn] at h
    cases hc : clashIn path c with
    | some z =>
      rw [hc] at h
      cases h
      exact ⟨0, c, rfl, hc⟩
    | none =>
      rw [hc] at h
      obtain ⟨i, d, h1, h2⟩ := clashes_some h
      exact ⟨i + 1, d, h1, h2⟩
theorem clashes_none {path : List Str} : ∀ {cs : List Ct}, clashesIn path cs = none → ∀ c ∈ cs, clashIn path c = none
  | [], _, c, hc => by cases hc
  | d :: r, h, c, hc => by
    rw [clashesIn] at h
    cases hd : clashIn path d with
    | some z =>
      rw [hd] at h
      cases h
    | none =>
      rw [hd] at h
      rcases List.mem_cons.mp hc with rfl | hc
      · exact hd
      · exact clashes_none h c hc
theorem TrO.names {H : Hp} {d : Nat} {a : Addr} {t : Ct} {ao ap ag ab : Addr} {xo xp xg xb : List Addr} (T : TrO H d a t ao ap ag ab xo xp xg xb) : All2 (fun x m => ∃ vs, H x = some (.lst (V.str m :: vs))) xb (t.cs.map Ct.name) := ⟨by rw [List.length_map]; exact T.hl, fun i b e => by
  obtain ⟨u, hu, e', _, tu⟩ := T.kids.2 i b e
  obtain ⟨_, _, _, _, _, _, _, _, U⟩ := tu.op
  exact ⟨u.name, by rw [List.getElem?_map, hu]; rfl, _, U.ea⟩⟩
theorem clash_dn {H : Hp} : ∀ (d : Nat) (a : Addr) (t : Ct) (above p : List Str) (k z : Str), TrAt H d a t → clashIn above t = some (p, k, z) → ∃ (q : List Str) (c : Addr) (e : Nat) (u : Ct), p = above ++ t.name :: q ∧ Dn H q a c ∧ TrAt H e c u ∧ ownC u p = some (k, z) ∧ e ≤ d := by
  intro d
  induction d with
  | zero =>
    intro a t above p k z h
    cases h
  | succ d ih =>
    intro a t above p k z h hc
    obtain ⟨ao, ap, ag, ab, xo, xp, xg, xb, T⟩ := h.op
    rw [clashIn_eq] at hc
    cases ho : ownC t (above ++ [t.name]) with
    | some y =>
      obtain ⟨k', z'⟩ := y
      rw [ho] at hc
      cases hc
      exact ⟨[], a, _, t, rfl, .nil a, h, ho, Nat.le_refl _⟩
    | none =>
      rw [ho] at hc
      obtain ⟨i, c, hi, hcc⟩ := clashes_some hc
      have hib : i < xb.length := by rw [T.hl]; exact (List.getElem?_eq_some_iff.mp hi).1
      obtain ⟨u, hu, e, he, tu⟩ := T.kids.2 i xb[i] (List.getElem?_eq_getElem hib)
      rw [hi] at hu
      cases hu
      have hed : e = d := by omega
      subst hed
      obtain ⟨q, c', e', u', hp, dn, tr', how, le'⟩ := ih _ _ _ _ _ _ tu hcc
      obtain ⟨_, _, _, _, _, _, _, hcs⟩ := own_none ho
      have nb : (t.cs.map Ct.name)[i]? = some c.name := by rw [List.getElem?_map, hi]; rfl
      exact ⟨c.name :: q, c', e', u', by rw [hp, List.append_assoc]; rfl, .cons T.ea T.eb T.names (List.getElem?_eq_getElem hib) nb (fun j hj => (rep_none hcs).2 j i _ hj nb) dn, tr', how, by omega⟩
theorem Dn.tr {H : Hp} {q : List Str} {a c : Addr} (h : Dn H q a c) : ∀ (d : Nat) (t : Ct), TrAt H d a t → ∃ e u, TrAt H e c u ∧ (q = [] → u.name = t.name) ∧ ∀ n, q.getLast? = some n → u.name = n := by
  induction h with
  | nil a => exact fun d t h => ⟨d, t, h, (fun _ => rfl), (fun n hn => by cases hn)⟩
  | @cons n0 q0 a0 b0 c0 ab0 v0 v1 v2 v3 xs ns i0 ea eb hn hb nb un dn ih =>
    intro d t h
    obtain ⟨ao, ap, ag, ab, xo, xp, xg, xb, T⟩ := h.op
    obtain ⟨_, rfl⟩ := kid_same T ea eb
    obtain ⟨u, hu, e, he, tu⟩ := T.kids.2 _ _ hb
    obtain ⟨e', u', tr', h0, h1⟩ := ih _ _ tu
    refine ⟨e', u', tr', (fun z => by cases z), fun n hq => ?_⟩
    obtain ⟨m, hm, vs, em⟩ := hn.2 _ _ hb
    rw [nb] at hm
    cases hm
    obtain ⟨_, _, _, _, _, _, _, _, U⟩ := tu.op
    rw [U.ea] at em
    have hun := V.str.inj (List.cons.inj (HO.lst.inj (Option.some.inj em))).1
    cases q0 with
    | nil =>
      rw [h0 rfl, hun]
      exact Option.some.inj hq
    | cons m r =>
      refine h1 n ?_
      rw [List.getLast?_cons_cons] at hq
      exact hq
/-- down to the one above the last -/
theorem Dn.snoc {H : Hp} : ∀ {q : List Str} {n : Str} {a c : Addr}, Dn H (q ++ [n]) a c → ∃ b, Dn H q a b ∧ Dn H [n] b c
  | [], n, a, c, h => ⟨a, .nil a, h⟩
  | m :: r, n, a, c, h => by
    cases h with
    | cons ea eb hn hb nb un dn =>
      obtain ⟨x, h1, h2⟩ := dn.snoc
      exact ⟨x, .cons ea eb hn hb nb un h1, h2⟩
end WB

set_option Elab.async false
set_option linter.all false
set_option maxRecDepth 100000
set_option maxHeartbeats 4000000
namespace WB
open PySem PySem.Spec PyProof.Rows L2 WG
open TL (tl)
/-! ### a list of the tree gets shorter -/
theorem all2_erase {α : Type} {R : Addr → α → Prop} {as : List Addr} {xs : List α} (h : All2 R as xs) (k : Nat) : All2 R (as.eraseIdx k) (xs.eraseIdx k) := by
  refine ⟨by rw [List.length_eraseIdx, List.length_eraseIdx, h.1], fun i a e => ?_⟩
  rw [List.getElem?_eraseIdx] at e ⊢
  split at e
  · rename_i z
    rw [if_pos z]
    exact h.2 i a e
  · rename_i z
    rw [if_neg z]
    exact h.2 (i + 1) a e
theorem sum_erase : ∀ (ws : List Nat) (k : Nat), (ws.eraseIdx k).sum ≤ ws.sum
  | [], _ => Nat.le_refl _
  | w :: r, 0 => by
    rw [List.eraseIdx_cons_zero, List.sum_cons]
    omega
  | w :: r, k + 1 => by
    rw [List.eraseIdx_cons_succ, List.sum_cons, List.sum_cons]
    have := sum_erase r k
    omega
theorem mem_erase {α : Type} {x : α} {xs : List α} {k : Nat} (h : x ∈ xs.eraseIdx k) : x ∈ xs := (List.eraseIdx_sublist xs k).subset h
theorem TH.pop {ϕ : Nat} {κ : Addr → Rl} {H : Hp} {l : Addr} {xs : List Addr} (th : TH ϕ κ H) (el : H l = some (.lst (xs.map V.ref))) (hk : κ l = .ops ∨ κ l = .pls ∨ κ l = .grs ∨ ∃ r u, κ l = .bel r u) (k : Nat) : TH ϕ κ (upd H l (.lst ((xs.map V.ref).eraseIdx k))) := by
  refine th.set ?_
  have ha := th l
  have hl : (xs.eraseIdx k).length ≤ xs.length := (List.eraseIdx_sublist xs k).length_le
  have eq : ∀ {ys : List Addr}, H l = some (.lst (ys.map V.ref)) → ys = xs := fun {ys} e => by
    rw [el] at e
    exact (refs_inj (HO.lst.inj (Option.some.inj e))).symm
  have eu : (upd H l (.lst ((xs.map V.ref).eraseIdx k))) l = some (.lst ((xs.eraseIdx k).map V.ref)) := by rw [upd_same, er_map]
  rcases hk with e | e | e | ⟨r, u, e⟩
  · rw [e] at ha ⊢
    obtain ⟨ys, h1, h2, h3⟩ := ha
    obtain rfl := eq h1
    exact ⟨_, eu, Nat.le_trans hl h2, fun x hx => h3 x (mem_erase hx)⟩
  · rw [e] at ha ⊢
    obtain ⟨ys, h1, h2, h3⟩ := ha
    obtain rfl := eq h1
    exact ⟨_, eu, Nat.le_trans hl h2, fun x hx => h3 x (mem_erase hx)⟩
  · rw [e] at ha ⊢
    obtain ⟨ys, h1, h2, h3⟩ := ha
    obtain rfl := eq h1
    exact ⟨_, eu, Nat.le_trans hl h2, fun x hx => h3 x (mem_erase hx)⟩
  · rw [e] at ha ⊢
    obtain ⟨ys, ws, h1, h2, h3, h4⟩ := ha
    obtain rfl := eq h1
    exact ⟨_, _, eu, Nat.le_trans hl h2, all2_erase h3 k, Nat.le_trans (Nat.add_le_add_right (sum_erase ws k) _) h4⟩
/-! ### weights anew -/
def refA : V → Option Addr
  | .ref a => some a
  | _ => none
def addrs (H : Hp) (l : Addr) : List Addr := match H l with
  | some (.lst vs) => vs.filterMap refA
  | _ => []
theorem addrs_of {H : Hp} {l : Addr} {xs : List Addr} (e : H l = some (.lst (xs.map V.ref))) : addrs H l = xs := by
  unfold addrs
  rw [e]
  show (xs.map V.ref).filterMap refA = xs
  rw [List.filterMap_map]
  show xs.filterMap some = xs
  exact List.filterMap_some
def kidsH (H : Hp) (a : Addr) : List Addr := match H a with
  | some (.lst [_, _, _, _, .ref ab]) => addrs H ab
  | _ => []
theorem kidsH_of {H : Hp} {a ab : Addr} {v0 v1 v2 v3 : V} {xs : List Addr} (e : H a = some (.lst [v0, v1, v2, v3, .ref ab])) (eb : H ab = some (.lst (xs.map V.ref))) : kidsH H a = xs := by
  unfold kidsH
  rw [e]
  exact addrs_of eb
def cntH (H : Hp) : Nat → Addr → Nat
  | 0, _ => 0
  | r + 1, a => 1 + ((kidsH H a).map (cntH H r)).sum
def rew (ϕ : Nat) (κ : Addr → Rl) (H : Hp) : Addr → Rl := fun x => match κ x with
  | .node r _ => .node r ((ϕ + 1) * cntH H r x)
  | .bel r _ => .bel r (((addrs H x).map fun b => (ϕ + 1) * cntH H r b).sum + ϕ)
  | k => k
theorem rew_node {ϕ : Nat} {κ : Addr → Rl} {H : Hp} {x : Addr} {r u : Nat} (k : κ x = .node r u) : rew ϕ κ H x = .node r ((ϕ + 1) * cntH H r x) := by
  unfold rew
  rw [k]
theorem rew_bel {ϕ : Nat} {κ : Addr → Rl} {H : Hp} {x : Addr} {r u : Nat} (k : κ x = .bel r u) : rew ϕ κ H x = .bel r (((addrs H x).map fun b => (ϕ + 1) * cntH H r b).sum + ϕ) := by
  unfold rew
  rw [k]
theorem rew_else {ϕ : Nat} {κ : Addr → Rl} {H : Hp} {x : Addr} {s : Rl} (k : κ x = s) (h1 : ∀ r u, s ≠ .node r u) (h2 : ∀ r u, s ≠ .bel r u) : rew ϕ κ H x = s := by
  unfold rew
  rw [k]
  cases s with
  | node r u => exact absurd rfl (h1 r u)
  | bel r u => exact absurd rfl (h2 r u)
  | _ => rfl
theorem sum_mul (c : Nat) (f : Addr → Nat) : ∀ xs : List Addr, (xs.map fun b => c * f b).sum = c * (xs.map f).sum
  | [] => by simp
  | x :: r => by
    rw [List.map_cons, List.sum_cons, List.map_cons, List.sum_cons, sum_mul c f r, Nat.mul_add]
theorem TH.rew {ϕ0 : Nat} (ϕ : Nat) {κ : Addr → Rl} {H : Hp} (th : TH ϕ0 κ H) : TH ϕ (WB.rew ϕ κ H) H := fun a => by
  have ha := th a
  have el : ∀ {x : Addr} {s : Rl}, κ x = s → (∀ r u, s ≠ .node r u) → (∀ r u, s ≠ .bel r u) → WB.rew ϕ κ H x = s := fun k h1 h2 => rew_else k h1 h2
  cases e : κ a with
  | no =>
    rw [el e (by simp) (by simp)]
    trivial
  | node r u =>
    rw [e] at ha
    obtain ⟨n, ao, ap, ag, ab, r', w', ⟨h1, _⟩, h2, h3, h4, h5, h6, h7⟩ := ha
    subst h1
    rw [rew_node e]
    have hb := th ab
    rw [h7] at hb
    obtain ⟨xb, ws, b1, _⟩ := hb
    refine ⟨n, ao, ap, ag, ab, r', ((addrs H ab).map fun b => (ϕ + 1) * cntH H r' b).sum + ϕ, ⟨rfl, ?_⟩, h2, h3, el h4 (by simp) (by simp), el h5 (by simp) (by simp), el h6 (by simp) (by simp), rew_bel h7⟩
    rw [addrs_of b1, sum_mul]
    show (ϕ + 1) * (1 + ((kidsH H a).map (cntH H r')).sum) = _
    rw [kidsH_of h2 b1, Nat.mul_add]
    omega
  | ops =>
    rw [e] at ha
    rw [el e (by simp) (by simp)]
    obtain ⟨xs, h1, h2, h3⟩ := ha
    exact ⟨xs, h1, h2, fun x hx => el (h3 x hx) (by simp) (by simp)⟩
  | op =>
    rw [e] at ha
    rw [el e (by simp) (by simp)]
    exact ha
  | pls =>
    rw [e] at ha
    rw [el e (by simp) (by simp)]
    obtain ⟨xs, h1, h2, h3⟩ := ha
    exact ⟨xs, h1, h2, fun x hx => el (h3 x hx) (by simp) (by simp)⟩
  | pl =>
    rw [e] at ha
    rw [el e (by simp) (by simp)]
    exact ha
  | grs =>
    rw [e] at ha
    rw [el e (by simp) (by simp)]
    obtain ⟨xs, h1, h2, h3⟩ := ha
    exact ⟨xs, h1, h2, fun x hx => el (h3 x hx) (by simp) (by simp)⟩
  | gr =>
    rw [e] at ha
    rw [el e (by simp) (by simp)]
    exact ha
  | bel r u =>
    rw [e] at ha
    rw [rew_bel e]
    obtain ⟨xs, ws, h1, h2, h3, h4⟩ := ha
    refine ⟨xs, xs.map fun b => (ϕ + 1) * cntH H r b, h1, h2, ⟨by rw [List.length_map], fun i x hx => ?_⟩, by rw [addrs_of h1]; exact Nat.le_refl _⟩
    obtain ⟨v, _, kx⟩ := h3.2 i x hx
    exact ⟨_, by rw [List.getElem?_map, hx]; rfl, rew_node kx⟩
theorem Mn.rew {ϕ m : Nat} {κ : Addr → Rl} {H : Hp} (h : Mn κ m) : Mn (WB.rew ϕ κ H) m := fun b r u e => by
  unfold WB.rew at e
  cases k : κ b with
  | node r' u' =>
    rw [k] at e
    cases e
    exact h b r u' k
  | _ =>
    rw [k] at e
    cases e
theorem rew_no {ϕ : Nat} {κ : Addr → Rl} {H : Hp} {x : Addr} (k : κ x = .no) : rew ϕ κ H x = .no := rew_else k (by simp) (by simp)
/-! ### all commands of a tree, in a row -/
mutual
def allC : Ct → List Ct
  | .mk n os ps gs cs ab => .mk n os ps gs cs ab :: allCs cs
def allCs : List Ct → List Ct
  | [] => []
  | c :: r => allC c ++ allCs r
end
theorem allC_eq (t : Ct) : allC t = t :: allCs t.cs := by
  cases t
  rw [allC]
  rfl
def ownN (t : Ct) : Nat := 1 + t.os.length + t.ps.length + t.gs.length
mutual
theorem szC_all : ∀ t : Ct, szC t = ((allC t).map ownN).sum
  | .mk n os ps gs cs ab => by
    rw [szC, allC, List.map_cons, List.sum_cons, szCs_all cs]
    rfl
theorem szCs_all : ∀ cs : List Ct, szCs cs = ((allCs cs).map ownN).sum
  | [] => by simp [szCs, allCs]
  | c :: r => by
    rw [szCs, allCs, List.map_append, List.sum_append, szC_all c, szCs_all r]
end
theorem allCs_take {cs : List Ct} {i : Nat} {c : Ct} (h : cs[i]? = some c) : allCs (cs.take (i + 1)) = allCs (cs.take i) ++ allC c := by
  have ap : ∀ xs ys : List Ct, allCs (xs ++ ys) = allCs xs ++ allCs ys := fun xs ys => by
    induction xs with
    | nil => simp [allCs]
    | cons x r ih => rw [List.cons_append, allCs, allCs, ih, List.append_assoc]
  rw [List.take_add_one, h, ap]
  simp [allCs]
theorem cnt_tr {H : Hp} : ∀ (d : Nat) (a : Addr) (t : Ct), TrAt H d a t → cntH H d a = (allC t).length := by
  intro d
  induction d with
  | zero =>
    intro a t h
    cases h
  | succ d ih =>
    intro a t h
    obtain ⟨ao, ap, ag, ab, xo, xp, xg, xb, T⟩ := h.op
    rw [allC_eq, List.length_cons]
    show 1 + ((kidsH H a).map (cntH H d)).sum = _
    rw [kidsH_of T.ea T.eb]
    have go : ∀ (xs : List Addr) (cs : List Ct), All2 (fun b u => ∃ e, d + 1 = e + 1 ∧ TrAt H e b u) xs cs → (xs.map (cntH H d)).sum = (allCs cs).length := by
      intro xs
      induction xs with
      | nil =>
        intro cs h
        cases cs with
        | nil => simp [allCs]
        | cons c r => exact absurd h.1 (by simp)
      | cons x r ih2 =>
        intro cs h
        obtain ⟨c, s, rfl, ⟨e, he, hc⟩, hr⟩ := h.cons_of
        have hed : e = d := by omega
        subst hed
        rw [List.map_cons, List.sum_cons, allCs, List.length_append, ih2 s hr, ih x c hc]
    rw [go xb t.cs T.kids]
    omega
theorem cnt_le {ϕ : Nat} {κ : Addr → Rl} {H : Hp} (th : TH ϕ κ H) : ∀ (r : Nat) (a : Addr) (w : Nat), κ a = .node r w → cntH H r a ≤ w := by
  intro r
  induction r with
  | zero =>
    intro a w k
    exact Nat.zero_le _
  | succ r ih =>
    intro a w k
    obtain ⟨n, ao, ap, ag, ab, r', w', xb, ws, ⟨hr, hw⟩, ea, _, _, _, _, _, eb, _, hb, sb⟩ := th.nd k
    obtain rfl : r' = r := by omega
    show 1 + ((kidsH H a).map (cntH H r')).sum ≤ _
    rw [kidsH_of ea eb]
    have go : ∀ (xs : List Addr) (us : List Nat), All2 (fun x u => κ x = .node r' u) xs us → (xs.map (cntH H r')).sum ≤ us.sum := by
      intro xs
      induction xs with
      | nil =>
        intro us h
        exact Nat.zero_le _
      | cons x s ih2 =>
        intro us h
        obtain ⟨u, t, rfl, hu, ht⟩ := h.cons_of
        have h1 := ih x u hu
        have h2 := ih2 t ht
        rw [List.map_cons, List.sum_cons, List.sum_cons]
        omega
    have := go xb ws hb
    omega
theorem All2.append {α : Type} {R : Addr → α → Prop} : ∀ {as bs : List Addr} {xs ys : List α}, All2 R as xs → All2 R bs ys → All2 R (as ++ bs) (xs ++ ys)
  | [], bs, xs, ys, h, k => by
    cases xs with
    | nil => exact k
    | cons x r => exact absurd h.1 (by simp)
  | a :: as, bs, xs, ys, h, k => by
    obtain ⟨x, r, rfl, hx, hr⟩ := h.cons_of
    exact All2.cons hx (hr.append k)
section
variable {P : Program} {w : World} {K : PySem.W.Frag} {mg : Str → Option Value} {base : Heap}
def spAllT (d : Nat) : Sp := fun vs H Q _ => ∃ (a : Addr) (t : Ct), vs = [.ref a] ∧ TrAt H d a t ∧ (allC t).length ≤ 5000 ∧ ∀ H' l (xs : List Addr), Same H H' → H l = none → H' l = some (.lst (xs.map V.ref)) → All2 (fun x u => ∃ e, TrAt H' e x u) xs (allC t) → Q (.ref l) H'
theorem ok_allT {f : Addr} {fd : FuncData} {k : Nat} (D_all : Df K mg "_law_all" st_all ["_law_tree_here"] f fd) : ∀ d, FnOk P w K mg base CX0 (k + d) f fd ["_law_tree_here"] (spAllT d) := by
  intro d
  induction d with
  | zero =>
    refine ⟨fun vs H Q E h => ?_, fun A outer s H ar us vs Q E hr he hb hv h => ?_⟩
    · obtain ⟨a, t, rfl, _⟩ := h
      rfl
    · obtain ⟨a, t, rfl, tr, _⟩ := h
      cases tr
  | succ d G_all =>
    show FnOk P w K mg base CX0 ((k + d) + 1) f fd ["_law_tree_here"] (spAllT (d + 1))
    refine D_all.F.ok sc_all (fun vs H Q E h => ?_) (fun cdv A outer s H vs Q E hr h => ?_)
    · obtain ⟨a, t, rfl, _⟩ := h
      rfl
    · obtain ⟨a, t, rfl, tr, lt, q⟩ := h
      have sl : sizeLine = 16777216 := sizeLine_eq
      obtain ⟨ao, ap, ag, ab, xo, xp, xg, xb, T⟩ := tr.op
      refine ⟨_, pss_cons (ps_set (i := 1) sc_all.nd rfl (.inl rfl) (pe_lst (pa_cons (pv 0) pa_nil)))
      (pss_cons (ps_for PassesOwn.never rfl (pi_list (pe_ix ix_list (pv 0) pe_int (fun _ _ => rfl))) (pg_name (i := 2) sc_all.nd rfl (Or.inl rfl)) (pss_one (ps_set (i := 1) sc_all.nd rfl (.inl rfl) (pe_op op_cat (pv 1) (pe_call G_all hr (by rfl) D_all.g D_all.F.kp D_all.b .nil pass0 (pa_cons (pv 2) pa_nil))))))
      (pss_one (ps_ret (pv 1)))), ?_⟩
      refine ⟨.ref a, rfl, by show 1 ≤ sizeLine; decide, fun l1 n1 => ?_⟩
      have s1 := same_upd (o := .lst [.ref a]) n1
      have e1 : (upd H l1 (.lst [.ref a])) l1 = some (.lst (([a] : List Addr).map V.ref)) := upd_same
      revert s1 e1
      generalize upd H l1 (.lst [.ref a]) = H1
      intro s1 e1
      have hT : (allCs t.cs).length + 1 ≤ 5000 := by
        rw [allC_eq, List.length_cons] at lt
        exact lt
      refine ⟨.ref a, rfl, a, _, 4, .ref ab, rfl, rfl, SqL.of (s1 _ _ T.ea), rfl, ab, rfl, ⟨_, SqL.of (s1 _ _ T.eb)⟩, ?_⟩
      refine for_list (K := K) (a := ab) (xs := xb.map V.ref) (fun i σ Hc => Same H Hc ∧ ∃ (l : Addr) (xs : List Addr) (x2 : Option V), H l = none ∧ Hc l = some (.lst (xs.map V.ref)) ∧ All2 (fun x u => ∃ e, TrAt Hc e x u) xs (t :: allCs (t.cs.take i)) ∧ σ = [some (.ref a), some (.ref l), x2])
        ⟨s1, l1, [a], none, n1, e1, by rw [List.take_zero, allCs]; exact All2.cons ⟨_, tr.same s1⟩ All2.nil, rfl⟩ (fun i σ Hc _ h => SqL.of (h.1 _ _ T.eb)) ?_ ?_
      · rintro i v σ Hc hv ⟨sc, l, xs, x2, nl, el, hx, rfl⟩
        rw [List.getElem?_map] at hv
        obtain ⟨c, hc, rfl⟩ := Option.map_eq_some_iff.mp hv
        obtain ⟨u, hu, e, he, tu⟩ := T.kids.2 i c hc
        obtain rfl : e = d := by omega
        have len1 : ∀ j, (allCs (t.cs.take j)).length ≤ (allCs t.cs).length := fun j => by
          have ap : ∀ xs ys : List Ct, allCs (xs ++ ys) = allCs xs ++ allCs ys := fun xs ys => by
            induction xs with
            | nil => simp [allCs]
            | cons x r ih => rw [List.cons_append, allCs, allCs, ih, List.append_assoc]
          conv => rhs; rw [← List.take_append_drop j t.cs, ap, List.length_append]
          omega
        have hl1 := len1 (i + 1)
        rw [allCs_take hu, List.length_append] at hl1
        have hxl := hx.1
        rw [List.length_cons] at hxl
        refine ⟨.ref l, rfl, .ref c, rfl, c, u, rfl, tu.same sc, by omega, fun H2 l2 ys s2 n2 e2 hy => ?_⟩
        have hyl := hy.1
        refine ⟨l, l2, _, _, rfl, rfl, s2 _ _ el, e2, by rw [List.length_map, List.length_map]; omega, fun l3 n3 => ?_⟩
        have S2 := sc.trans s2
        have s3 := same_upd (o := .lst (xs.map V.ref ++ ys.map V.ref)) n3
        refine ⟨S2.trans s3, l3, xs ++ ys, _, fresh_of S2 n3, by rw [upd_same, List.map_append], ?_, rfl⟩
        rw [allCs_take hu, ← List.cons_append]
        exact (hx.mono fun x u ⟨e, h⟩ => ⟨e, (h.same s2).same s3⟩).append (hy.mono fun x u ⟨e, h⟩ => ⟨e, h.same s3⟩)
      · rintro σ Hc ⟨sc, l, xs, x2, nl, el, hx, rfl⟩
        rw [List.length_map, T.hl, List.take_length, ← allC_eq] at hx
        exact ⟨_, rfl, q _ l xs sc nl el hx⟩
end
end WB

set_option Elab.async false
set_option linter.all false
set_option maxRecDepth 100000
set_option maxHeartbeats 4000000
namespace WB
open PySem PySem.Spec PyProof.Rows L2 WG
open TL (tl)
abbrev st_last : Stmt := topS 77
theorem sc_last : FnScope ["_law_things", "_law_who", "_law_at_here", "_law_found", "_law_k", "_law_one"] ["_law_things", "_law_who", "_law_at_here"] (defScope st_last) := ⟨rfl, rfl, rfl, by decide +kernel, rfl, by decide +kernel, by decide +kernel⟩
abbrev st_without : Stmt := topS 78
theorem sc_without : FnScope ["_law_things", "_law_who", "_law_at_here", "_law_one"] ["_law_things", "_law_who", "_law_at_here"] (defScope st_without) := ⟨rfl, rfl, rfl, by decide +kernel, rfl, by decide +kernel, by decide +kernel⟩
/-! ### where a text stands last -/
theorem last_at {z : Str} : ∀ {ns : List Str}, z ∈ ns → ∃ j : Nat, ns[j]? = some z ∧ ∀ i : Nat, j < i → ns[i]? ≠ some z
  | [], h => by cases h
  | y :: r, h => by
    by_cases hr : z ∈ r
    · obtain ⟨j, h1, h2⟩ := last_at hr
      refine ⟨j + 1, h1, fun i hi => ?_⟩
      match i, hi with
      | i + 1, hi => exact h2 i (by omega)
    · rcases List.mem_cons.mp h with rfl | h'
      · refine ⟨0, rfl, fun i hi e => ?_⟩
        match i, hi with
        | i + 1, _ => exact hr (List.mem_of_getElem? (show r[i]? = some z from e))
      · exact absurd h' hr
def ixs (p : Nat → Bool) (n : Nat) : List Nat := (List.range n).filter p
theorem ixs_succ (p : Nat → Bool) (n : Nat) : ixs p (n + 1) = if p n = true then ixs p n ++ [n] else ixs p n := by
  unfold ixs
  rw [List.range_succ, List.filter_append]
  split
  · rename_i h
    simp [h]
  · rename_i h
    simp [h]
theorem ixs_last {p : Nat → Bool} {j : Nat} (hj : p j = true) : ∀ {n : Nat}, j < n → (∀ i, j < i → i < n → p i = false) → ixs p n = ixs p j ++ [j]
  | 0, h, _ => absurd h (Nat.not_lt_zero _)
  | n + 1, h, k => by
    rw [ixs_succ]
    by_cases e : j = n
    · subst e
      rw [if_pos hj]
    · rw [k n (by omega) (Nat.lt_succ_self _), if_neg (by simp)]
      exact ixs_last hj (by omega) fun i h1 h2 => k i h1 (by omega)
theorem ixs_len (p : Nat → Bool) : ∀ n, (ixs p n).length ≤ n
  | 0 => Nat.le_refl _
  | n + 1 => by
    rw [ixs_succ]
    have := ixs_len p n
    split
    · rw [List.length_append]
      show _ + 1 ≤ _
      omega
    · omega
theorem ixs_mono (p : Nat → Bool) {m : Nat} : ∀ {n : Nat}, m ≤ n → (ixs p m).length ≤ (ixs p n).length
  | 0, h => by
    rw [Nat.le_zero.mp h]
    exact Nat.le_refl _
  | n + 1, h => by
    by_cases e : m = n + 1
    · rw [e]
      exact Nat.le_refl _
    · have := ixs_mono p (n := n) (by omega : m ≤ n)
      rw [ixs_succ p n]
      split
      · rw [List.length_append]
        omega
      · exact this
theorem ixs_two {p : Nat → Bool} {i j n : Nat} (hi : p i = true) (hj : p j = true) (h1 : i < j) (h2 : j < n) : 2 ≤ (ixs p n).length := by
  have a := ixs_mono p (show i + 1 ≤ j from h1)
  have b := ixs_mono p (show j + 1 ≤ n from h2)
  rw [ixs_succ p i, if_pos hi, List.length_append] at a
  rw [ixs_succ p j, if_pos hj, List.length_append] at b
  have c : [i].length = 1 := rfl
  have d : [j].length = 1 := rfl
  omega
/-- things with their texts at a place -/
def Ky (H : Hp) (at_ : Nat) (xs : List Addr) (ns : List Str) : Prop := All2 (fun x m => ∃ vs, H x = some (.lst vs) ∧ vs[at_]? = some (.str m)) xs ns
theorem Ky.same {H H' : Hp} {at_ : Nat} {xs : List Addr} {ns : List Str} (h : Ky H at_ xs ns) (s : Same H H') : Ky H' at_ xs ns := h.mono fun x m ⟨vs, e, z⟩ => ⟨vs, s _ _ e, z⟩
def isAt (z : Str) (ns : List Str) (i : Nat) : Bool := decide (ns[i]? = some z)
theorem seqIx {j n : Nat} (h : j < n) : seqIndex? (j : Int) n = some j := by
  unfold seqIndex?
  have h1 : ¬ ((j : Int) < 0) := by omega
  simp [h1, h]
/-- one thing is taken out of a list -/
def Popd (H : Hp) (l : Addr) (xs : List Addr) (H' : Hp) : Prop := ∃ (Ha : Hp) (k : Nat), Same H Ha ∧ k < xs.length ∧ Same (upd Ha l (.lst ((xs.map V.ref).eraseIdx k))) H'
section
variable {P : Program} {w : World} {K : PySem.W.Frag} {mg : Str → Option Value} {base : Heap}
def spLast : Sp := fun vs H Q _ => ∃ (l : Addr) (z : Str) (at_ j : Nat) (xs : List Addr) (ns : List Str), vs = [.ref l, .str z, .int at_] ∧ H l = some (.lst (xs.map V.ref)) ∧ Ky H at_ xs ns ∧ ns.length ≤ 1000 ∧ at_ ≤ 1000 ∧ ns[j]? = some z ∧ (∀ i : Nat, j < i → ns[i]? ≠ some z) ∧ ∀ H', Same H H' → Q (.int j) H'
theorem ok_last {f : Addr} {fd : FuncData} {k : Nat} (F : Fun K "_law_last" "_law_last" st_last f fd) (m_enumerate : mg "enumerate" = none) : FnOk P w K mg base CX0 (k + 1) f fd ["_law_things", "_law_who", "_law_at_here"] spLast := by
  refine F.ok sc_last (fun vs H Q E h => ?_) (fun cdv A outer s H vs Q E hr h => ?_)
  · obtain ⟨l, z, at_, j, xs, ns, rfl, _⟩ := h
    rfl
  · obtain ⟨l, z, at_, j, xs, ns, rfl, el, ky, ln, la, hj, hj2, q⟩ := h
    have sl : sizeLine = 16777216 := sizeLine_eq
    refine ⟨_, pss_cons (ps_setLc (i := 3) (own := [("_law_k", 4), ("_law_one", 5)]) (g := gTup K 2 (gCons (gName 4) (gCons (gName 5) gNil)))  rfl sc_last.nd rfl rfl (sw_true rfl rfl rfl (by decide +kernel)) (pi_enum (by rfl) m_enumerate (pa_cons (pv 0) pa_nil)) (blkOk_by (N := ["_law_things", "_law_who", "_law_at_here", "_law_found", "_law_k", "_law_one"]) (sc := defScope st_last) (by decide +kernel)) (fun _ _ _ _ _ => (pg_tup rfl (pgs_cons (pg_name (i := 4) sc_last.nd rfl (Or.inl rfl)) (pgs_cons (pg_name (i := 5) sc_last.nd rfl (Or.inl rfl)) pgs_nil)))) (fun _ _ _ _ _ => pts_one (pt_cmpR op_eq (pe_ix (r := rIxL K) ix_list (pv 5) (pv 2) (fun _ _ => rfl)) (pv 1) (nomark _))) (fun _ _ _ _ _ => (pv 4)))
      (pss_one (ps_ret (pe_ifExp (pt_cmpR (op_neE hr.units) (pv 3) (pe_lst pa_nil) (nomark _)) (pe_ix ix_list (pv 3) (pe_un un_neg pe_int) (fun _ _ => rfl)) (pe_un un_neg pe_int)))), ?_⟩
    refine ⟨.ref l, rfl, l, _, rfl, SqL.of el, fun D nD => ?_⟩
    refine lc_enum (K := K) (a := l) (xs := xs.map V.ref) (fun i Hc => Same H Hc ∧ Hc D = some (.lst ((ixs (isAt z ns) i).map fun (k : Nat) => V.int (k : Int)))) ⟨same_upd nD, upd_same⟩ (fun i Hc _ h => SqL.of (h.1 _ _ el)) (fun i v Hc T hv ⟨sc, eD⟩ nT => ?_) (fun H1 ⟨s1, eD⟩ => ?_)
    · rw [List.getElem?_map] at hv
      obtain ⟨x, hx, rfl⟩ := Option.map_eq_some_iff.mp hv
      have hi : i < ns.length := by rw [← ky.1]; exact (List.getElem?_eq_some_iff.mp hx).1
      obtain ⟨m, hm, vs, ex, ez⟩ := ky.2 i x hx
      refine ⟨T, _, rfl, SqT.of upd_same, rfl, _, _, rfl, _, _, rfl, rfl, rfl, ?_⟩
      have sT := sc.trans (same_upd (o := .tup [.int (i : Nat), .ref x]) nT)
      have eD' : (upd Hc T (.tup [.int (i : Nat), .ref x])) D = some (.lst ((ixs (isAt z ns) i).map fun (k : Nat) => V.int (k : Int))) := same_upd nT _ _ eD
      revert sT eD'
      generalize upd Hc T (.tup [.int (i : Nat), .ref x]) = Ha
      intro sT eD'
      refine ⟨.ref x, rfl, .int at_, rfl, x, vs, at_, .str m, rfl, rfl, SqL.of (sT _ _ ex), atI_nat ez, .str z, rfl, rfl, _, rfl, ite2 (fun e => ?_) (fun e => ?_)⟩
      · have hmz : m = z := V.str.inj (of_decide_eq_true e)
        refine ⟨.int i, rfl, _, eD', by rw [List.length_map]; have := ixs_len (isAt z ns) i; omega, fun b u e => ?_, ?_⟩
        · rw [upd_ne (ne_of_none e nD)]
          exact sT _ _ e
        · rw [upd_same, ixs_succ, if_pos (show isAt z ns i = true from decide_eq_true (by rw [hm, hmz])), List.map_append]
          rfl
      · have hmz : ¬ m = z := fun z' => e (decide_eq_true (by rw [z']))
        refine ⟨sT, ?_⟩
        rw [eD', ixs_succ, if_neg (show ¬ isAt z ns i = true from fun h => hmz (Option.some.inj (by rw [← hm]; exact of_decide_eq_true h)))]
    rw [List.length_map, ky.1, ixs_last (show isAt z ns j = true from decide_eq_true hj) (List.getElem?_eq_some_iff.mp hj).1 (fun i h1 h2 => decide_eq_false (hj2 i h1)), List.map_append] at eD
    refine ⟨.ref D, rfl, by show 0 ≤ sizeLine; decide, fun p0 n0 => ⟨D, p0, _, rfl, rfl, same_upd n0 _ _ eD, upd_same, _, rfl, ite2 (fun e => ?_) (fun e => ?_)⟩⟩
    · exact ⟨.ref D, rfl, 1, rfl, D, _, -1, .int j, rfl, rfl, SqL.of (same_upd n0 _ _ eD), atI_last _ _, q _ (s1.trans (same_upd n0))⟩
    · refine absurd ?_ e
      simp
def spWithout : Sp := fun vs H Q _ => ∃ (l : Addr) (z : Str) (at_ i j : Nat) (xs : List Addr) (ns : List Str), vs = [.ref l, .str z, .int at_] ∧ H l = some (.lst (xs.map V.ref)) ∧ Ky H at_ xs ns ∧ ns.length ≤ 1000 ∧ at_ ≤ 1000 ∧ i < j ∧ ns[i]? = some z ∧ ns[j]? = some z ∧
  ∀ H', Popd H l xs H' → Q (.bl true) H'
theorem ok_without {f fL : Addr} {fd fdL : FuncData} {k : Nat} (F : Fun K "_law_without" "_law_without" st_without f fd) (D_last : Df K mg "_law_last" st_last ["_law_things", "_law_who", "_law_at_here"] fL fdL) (m_enumerate : mg "enumerate" = none) (m_len : mg "len" = none) :
    FnOk P w K mg base CX0 (k + 2) f fd ["_law_things", "_law_who", "_law_at_here"] spWithout := by
  have G_last : FnOk P w K mg base CX0 (k + 1) fL fdL ["_law_things", "_law_who", "_law_at_here"] spLast := ok_last D_last.F m_enumerate
  refine F.ok sc_without (fun vs H Q E h => ?_) (fun cdv A outer s H vs Q E hr h => ?_)
  · obtain ⟨l, z, at_, i, j, xs, ns, rfl, _⟩ := h
    rfl
  · obtain ⟨l, z, at_, i0, j0, xs, ns, rfl, el, ky, ln, la, hij, hi0, hj0, q⟩ := h
    have sl : sizeLine = 16777216 := sizeLine_eq
    refine ⟨_, pss_cons (ps_if (pt_cmpR op_lt (pe_callB call_len_seq (by rfl) m_len PySem.boot_len (pa_cons (pe_lc (own := [("_law_one", 3)]) (g := gName 3) rfl sc_without.nd (pi_list (pv 0)) (blkOk_by (N := ["_law_things", "_law_who", "_law_at_here", "_law_one"]) (sc := defScope st_without) (by decide +kernel)) (fun _ _ _ _ _ => (pg_name (i := 3) sc_without.nd rfl (Or.inl rfl))) (fun _ _ _ _ _ => pts_one (pt_cmpR op_eq (pe_ix (r := rIxL K) ix_list (pv 3) (pv 2) (fun _ _ => rfl)) (pv 1) (nomark _))) (fun _ _ _ _ _ => (pv 3))) pa_nil)) pe_int (nomark _)) (pss_one (ps_ret pe_bl)) pss_nil)
      (pss_cons (ps_expr (pe_bm PySem.F.plainAttrs_list PySem.F.slot_list_pop PySem.F.type_list_pop mt_popAt (pv 0) (pa_cons (pe_call G_last hr (by rfl) D_last.g D_last.F.kp D_last.b .nil pass0 (pa_cons (pv 0) (pa_cons (pv 1) (pa_cons (pv 2) pa_nil)))) pa_nil)))
      (pss_one (ps_ret pe_bl))), ?_⟩
    refine ⟨.ref l, rfl, l, rfl, ⟨_, SqL.of el⟩, fun D nD => ?_⟩
    refine lc_list (K := K) (a := l) (xs := xs.map V.ref) (fun i Hc => Same H Hc ∧ ∃ zs : List V, Hc D = some (.lst zs) ∧ zs.length = (ixs (isAt z ns) i).length) ⟨same_upd nD, [], upd_same, rfl⟩ (fun i Hc _ h => SqL.of (h.1 _ _ el)) (fun i v Hc hv ⟨sc, zs, eD, lz⟩ => ?_) (fun H1 ⟨s1, zs, eD, lz⟩ => ?_)
    · rw [List.getElem?_map] at hv
      obtain ⟨x, hx, rfl⟩ := Option.map_eq_some_iff.mp hv
      have hi : i < ns.length := by rw [← ky.1]; exact (List.getElem?_eq_some_iff.mp hx).1
      obtain ⟨m, hm, vs, ex, ez⟩ := ky.2 i x hx
      refine ⟨rfl, .ref x, rfl, .int at_, rfl, x, vs, at_, .str m, rfl, rfl, SqL.of (sc _ _ ex), atI_nat ez, .str z, rfl, rfl, _, rfl, ite2 (fun e => ?_) (fun e => ?_)⟩
      · have hmz : m = z := V.str.inj (of_decide_eq_true e)
        refine ⟨.ref x, rfl, _, eD, by have := ixs_len (isAt z ns) i; omega, fun b u e => ?_, _, upd_same, ?_⟩
        · rw [upd_ne (ne_of_none e nD)]
          exact sc _ _ e
        · rw [ixs_succ, if_pos (show isAt z ns i = true from decide_eq_true (by rw [hm, hmz])), List.length_append, List.length_append, lz]
          rfl
      · have hmz : ¬ m = z := fun z' => e (decide_eq_true (by rw [z']))
        refine ⟨sc, zs, eD, ?_⟩
        rw [lz, ixs_succ, if_neg (show ¬ isAt z ns i = true from fun h => hmz (Option.some.inj (by rw [← hm]; exact of_decide_eq_true h)))]
    rw [List.length_map, ky.1] at lz
    have two := ixs_two (p := isAt z ns) (decide_eq_true hi0) (decide_eq_true hj0) hij (List.getElem?_eq_some_iff.mp hj0).1
    refine ⟨D, _, rfl, .inl (SqL.of eD), _, _, rfl, rfl, _, rfl, ite2 (fun e => ?_) (fun e => ?_)⟩
    · have e' : ((zs.length : Nat) : Int) < 2 := of_decide_eq_true e
      omega
    · obtain ⟨jm, h1, h2⟩ := last_at (List.mem_of_getElem? hj0)
      have hjm : jm < xs.length := by rw [ky.1]; exact (List.getElem?_eq_some_iff.mp h1).1
      have hl : xs.length ≤ 1000 := by rw [ky.1]; exact ln
      refine ⟨.ref l, rfl, Or.inl ⟨rfl, _, SqL.of (s1 _ _ el)⟩, .ref l, rfl, .str z, rfl, .int at_, rfl, l, z, at_, jm, xs, ns, rfl, s1 _ _ el, ky.same s1, ln, la, h1, h2, fun H2 s2 => ?_⟩
      have S2 := s1.trans s2
      refine ⟨l, _, jm, jm, _, rfl, rfl, S2 _ _ el, by omega, by omega, by rw [List.length_map]; exact seqIx hjm, by rw [List.getElem?_map, List.getElem?_eq_getElem hjm]; rfl, ?_⟩
      exact q _ ⟨H2, jm, S2, hjm, Same.refl _⟩
end
end WB

set_option Elab.async false
set_option linter.all false
set_option maxRecDepth 100000
set_option maxHeartbeats 4000000
namespace WB
open PySem PySem.Spec PyProof.Rows L2 WG
open TL (tl)
abbrev st_group_out : Stmt := topS 80
theorem sc_group_out : FnScope ["_law_tree_here", "_law_who", "_law_some", "_law_many", "_law_may", "_law_k", "_law_group", "_law_one"] ["_law_tree_here", "_law_who"] (defScope st_group_out) := ⟨rfl, rfl, rfl, by decide +kernel, rfl, by decide +kernel, by decide +kernel⟩
/-! ### a group is taken out -/
def cntS (z : Str) (g : List Str) : Nat := (g.map V.str).countP fun v => eqV v (.str z)
theorem cntS_flat (z : Str) : ∀ gs : List (List Str), (gs.map (cntS z)).sum = cntS z gs.flatten
  | [] => rfl
  | g :: r => by
    rw [List.map_cons, List.sum_cons, cntS_flat z r, List.flatten_cons]
    unfold cntS
    rw [List.map_append, List.countP_append]
theorem bad_some {ok : List Str} {z : Str} : ∀ {zs ah : List Str}, groupBad ok zs ah = some z → ∃ i : Nat, zs[i]? = some z ∧ (z ∉ ok ∨ z ∈ ah ∨ z ∈ zs.take i)
  | [], _, h => by cases h
  | y :: r, ah, h => by
    rw [groupBad_cons] at h
    split at h
    · rename_i c
      cases h
      refine ⟨0, rfl, ?_⟩
      rcases Bool.or_eq_true_iff.mp c with c | c
      · refine .inl fun m => ?_
        rw [inS_mem.mpr m] at c
        cases c
      · exact .inr (.inl (inS_mem.mp c))
    · obtain ⟨i, h1, h2⟩ := bad_some h
      refine ⟨i + 1, h1, ?_⟩
      rcases h2 with h2 | h2 | h2
      · exact .inl h2
      · rcases List.mem_append.mp h2 with h3 | h3
        · exact .inr (.inl h3)
        · refine .inr (.inr ?_)
          rw [List.take_succ_cons, List.mem_singleton.mp h3]
          exact List.mem_cons_self
      · refine .inr (.inr ?_)
        rw [List.take_succ_cons]
        exact List.mem_cons_of_mem _ h2
theorem ixs_mem {p : Nat → Bool} {i n : Nat} : i ∈ ixs p n ↔ i < n ∧ p i = true := by
  unfold ixs
  rw [List.mem_filter, List.mem_range]
theorem ixs_ends {p : Nat → Bool} {n : Nat} (h : ixs p n ≠ []) : ∃ r j, ixs p n = r ++ [j] ∧ j < n := by
  obtain ⟨r, j, e⟩ : ∃ r j, ixs p n = r ++ [j] := ⟨(ixs p n).dropLast, (ixs p n).getLast h, (List.dropLast_concat_getLast h).symm⟩
  refine ⟨r, j, e, ?_⟩
  exact (ixs_mem.mp (by rw [e]; simp : j ∈ ixs p n)).1
section
variable {P : Program} {w : World} {K : PySem.W.Frag} {mg : Str → Option Value} {base : Heap}
def spGroupOut (d : Nat) : Sp := fun vs H Q _ => ∃ (a : Addr) (z : Str) (t : Ct) (ao ap ag ab : Addr) (xo xp xg xb : List Addr), vs = [.ref a, .str z] ∧ TrO H d a t ao ap ag ab xo xp xg xb ∧ groupBad (freeC t) t.gs.flatten [] = some z ∧
  ∀ H', Popd H ag xg H' → Q (.bl true) H'
theorem ok_groupOut {f : Addr} {fd : FuncData} {k d : Nat} (F : Fun K "_law_group_out" "_law_group_out" st_group_out f fd) (m_enumerate : mg "enumerate" = none) (m_sum : mg "sum" = none) : FnOk P w K mg base CX0 (k + 1) f fd ["_law_tree_here", "_law_who"] (spGroupOut d) := by
  refine F.ok sc_group_out (fun vs H Q E h => ?_) (fun cdv A outer s H vs Q E hr h => ?_)
  · obtain ⟨a, z, t, _, _, _, _, _, _, _, _, rfl, _⟩ := h
    rfl
  · obtain ⟨a, z, t, ao, ap, ag, ab, xo, xp, xg, xb, rfl, T, hb, q⟩ := h
    have sl : sizeLine = 16777216 := sizeLine_eq
    have lg := T.lg
    have lhg := T.hg.1
    have lo := T.lo
    have lho := T.ho.1
    obtain ⟨i0, hi0, hw⟩ := bad_some hb
    refine ⟨_, pss_cons (ps_setLc (i := 2) (own := [("_law_k", 5), ("_law_group", 6)]) (g := gTup K 2 (gCons (gName 5) (gCons (gName 6) gNil)))  rfl sc_group_out.nd rfl rfl (sw_true rfl rfl rfl (by decide +kernel)) (pi_enum (by rfl) m_enumerate (pa_cons (pe_ix ix_list (pv 0) pe_int (fun _ _ => rfl)) pa_nil)) (blkOk_by (N := ["_law_tree_here", "_law_who", "_law_some", "_law_many", "_law_may", "_law_k", "_law_group", "_law_one"]) (sc := defScope st_group_out) (by decide +kernel)) (fun _ _ _ _ _ => (pg_tup rfl (pgs_cons (pg_name (i := 5) sc_group_out.nd rfl (Or.inl rfl)) (pgs_cons (pg_name (i := 6) sc_group_out.nd rfl (Or.inl rfl)) pgs_nil)))) (fun _ _ _ _ _ => pts_one (pt_cmpR (r := rIn K false) op_in_seq (pv 1) (pv 6) (by rfl))) (fun _ _ _ _ _ => (pv 5)))
      (pss_cons (ps_if (pt_cmpR (op_eqE hr.units) (pv 2) (pe_lst pa_nil) (nomark _)) (pss_one (ps_ret pe_bl)) pss_nil)
      (pss_cons (ps_set (i := 3) sc_group_out.nd rfl (.inl rfl) (pe_callB (cr_sum rfl) (by rfl) m_sum (by decide +kernel) (pa_cons (pe_lc (own := [("_law_group", 6)]) (g := gName 6) (tt := tYes) rfl sc_group_out.nd (pi_list (pe_ix ix_list (pv 0) pe_int (fun _ _ => rfl))) (blkOk_by (N := ["_law_tree_here", "_law_who", "_law_some", "_law_many", "_law_may", "_law_k", "_law_group", "_law_one"]) (sc := defScope st_group_out) (by decide +kernel)) (fun _ _ _ _ _ => (pg_name (i := 6) sc_group_out.nd rfl (Or.inl rfl))) (fun _ _ _ _ _ => pts_nil) (fun _ _ _ _ _ => (pe_lcount (K := K) rfl (pv 6) (pa_cons (pv 1) pa_nil)))) pa_nil)))
      (pss_cons (ps_setLc (i := 4) (own := [("_law_one", 7)]) (g := gName 7)  rfl sc_group_out.nd rfl rfl (sw_true rfl rfl rfl (by decide +kernel)) (pi_list (pe_ix ix_list (pv 0) pe_int (fun _ _ => rfl))) (blkOk_by (N := ["_law_tree_here", "_law_who", "_law_some", "_law_many", "_law_may", "_law_k", "_law_group", "_law_one"]) (sc := defScope st_group_out) (by decide +kernel)) (fun _ _ _ _ _ => (pg_name (i := 7) sc_group_out.nd rfl (Or.inl rfl))) (fun _ _ _ _ _ => pts_one (PW.pt (pw_and (pt_cmpR op_eq (pe_ix (r := rIxL K) ix_list (pv 7) pe_int (fun _ _ => rfl)) (pv 1) (nomark _)) (pw_and1 (pt_not (pt_val (pe_ix (r := rIxL K) ix_list (pv 7) pe_int (fun _ _ => rfl)))))))) (fun _ _ _ _ _ => (pv 7)))
      (pss_cons (ps_expr (pe_bm PySem.F.plainAttrs_list PySem.F.slot_list_pop PySem.F.type_list_pop mt_popAt (pe_ix ix_list (pv 0) pe_int (fun _ _ => rfl)) (pa_cons (pe_ix ix_list (pv 2) (pe_un un_neg pe_int) (fun _ _ => rfl)) pa_nil)))
      (pss_one (ps_ret (pe_or (pe_cmpR op_gt (pv 3) pe_int (nomark _)) (pe_one (pe_cmpR (op_eqE hr.units) (pv 4) (pe_lst pa_nil) (nomark _)))))))))), ?_⟩
    -- where it stands
    obtain ⟨p, hp⟩ : ∃ p : Nat → Bool, p = fun i => decide (∃ g, t.gs[i]? = some g ∧ z ∈ g) := ⟨_, rfl⟩
    refine ⟨.ref a, rfl, a, _, 3, .ref ag, rfl, rfl, SqL.of T.ea, rfl, ag, _, rfl, SqL.of T.eg, fun D nD => ?_⟩
    refine lc_enum (K := K) (a := ag) (xs := xg.map V.ref) (fun i Hc => Same H Hc ∧ Hc D = some (.lst ((ixs p i).map fun (k : Nat) => V.int (k : Int)))) ⟨same_upd nD, upd_same⟩ (fun i Hc _ h => SqL.of (h.1 _ _ T.eg)) (fun i v Hc Tp hv ⟨sc, eD⟩ nT => ?_) (fun H1 ⟨s1, eD⟩ => ?_)
    · rw [List.getElem?_map] at hv
      obtain ⟨x, hx, rfl⟩ := Option.map_eq_some_iff.mp hv
      have hi : i < xg.length := (List.getElem?_eq_some_iff.mp hx).1
      obtain ⟨g, hg, ex, l2, l6, _⟩ := T.hg.2 i x hx
      refine ⟨Tp, _, rfl, SqT.of upd_same, rfl, _, _, rfl, _, _, rfl, rfl, rfl, ?_⟩
      have sT := sc.trans (same_upd (o := .tup [.int (i : Nat), .ref x]) nT)
      have eD' : (upd Hc Tp (.tup [.int (i : Nat), .ref x])) D = some (.lst ((ixs p i).map fun (k : Nat) => V.int (k : Int))) := same_upd nT _ _ eD
      revert sT eD'
      generalize upd Hc Tp (.tup [.int (i : Nat), .ref x]) = Ha
      intro sT eD'
      refine ⟨.str z, rfl, .ref x, rfl, x, _, rfl, .inl (SqL.of (sT _ _ ex)), rfl, flat_strs _, _, rfl, ite2 (fun e => ?_) (fun e => ?_)⟩
      · have pi : p i = true := by rw [hp]; exact decide_eq_true ⟨g, hg, inS_mem.mp e⟩
        refine ⟨.int i, rfl, _, eD', by rw [List.length_map]; have := ixs_len p i; omega, fun b u e => ?_, ?_⟩
        · rw [upd_ne (ne_of_none e nD)]
          exact sT _ _ e
        · rw [upd_same, ixs_succ, if_pos pi, List.map_append]
          rfl
      · have pi : ¬ p i = true := by
          rw [hp]
          intro h
          obtain ⟨g', hg', hz⟩ := of_decide_eq_true h
          rw [hg] at hg'
          cases hg'
          exact e (inS_mem.mpr hz)
        refine ⟨sT, ?_⟩
        rw [eD', ixs_succ, if_neg pi]
    rw [List.length_map] at eD
    have hne : ixs p xg.length ≠ [] := by
      obtain ⟨g, hg, hz⟩ := List.mem_flatten.mp (List.mem_of_getElem? hi0)
      obtain ⟨i, hi, e⟩ := List.mem_iff_getElem.mp hg
      have : i ∈ ixs p xg.length := ixs_mem.mpr ⟨by omega, by rw [hp]; exact decide_eq_true ⟨g, by rw [List.getElem?_eq_getElem hi, e], hz⟩⟩
      intro h
      rw [h] at this
      cases this
    obtain ⟨r, jl, er, hjl⟩ := ixs_ends hne
    rw [er, List.map_append] at eD
    have T1 := T.same s1
    refine ⟨.ref D, rfl, by show 0 ≤ sizeLine; decide, fun p0 n0 => ⟨D, p0, _, rfl, rfl, same_upd n0 _ _ eD, upd_same, _, rfl, ite2 (fun e => ?_) (fun e => ?_)⟩⟩
    · simp at e
    have s2 := s1.trans (same_upd (o := .lst []) n0)
    have eD2 := same_upd (o := .lst []) n0 _ _ eD
    have T2 := T.same s2
    revert s2 eD2 T2
    generalize upd H1 p0 (.lst []) = H2
    intro s2 eD2 T2
    -- how often
    refine ⟨.ref a, rfl, a, _, 3, .ref ag, rfl, rfl, SqL.of T2.ea, rfl, ag, rfl, ⟨_, SqL.of T2.eg⟩, fun C nC => ?_⟩
    refine lc_list (K := K) (a := ag) (xs := xg.map V.ref) (fun i Hc => Same H2 Hc ∧ Hc C = some (.lst ((((t.gs.take i).map fun g => ((cntS z g : Nat) : Int))).map V.int))) ⟨same_upd nC, upd_same⟩ (fun i Hc _ h => SqL.of (h.1 _ _ T2.eg)) (fun i v Hc hv ⟨sc, eC⟩ => ?_) (fun H3 ⟨s3, eC⟩ => ?_)
    · rw [List.getElem?_map] at hv
      obtain ⟨x, hx, rfl⟩ := Option.map_eq_some_iff.mp hv
      have hi : i < xg.length := (List.getElem?_eq_some_iff.mp hx).1
      obtain ⟨g, hg, ex, l2, l6, _⟩ := T2.hg.2 i x hx
      refine ⟨rfl, .ref x, rfl, Or.inl ⟨rfl, _, SqL.of (sc _ _ ex)⟩, .str z, rfl, x, _, .str z, rfl, rfl, SqL.of (sc _ _ ex), rfl, flat_strs _, _, eC, by rw [List.length_map, List.length_map, List.length_take]; omega, fun b u e => ?_, ?_⟩
      · rw [upd_ne (ne_of_none e nC)]
        exact sc _ _ e
      · rw [upd_same, List.take_add_one, hg, List.map_append, List.map_append]
        rfl
    rw [List.length_map, lhg, List.take_length] at eC
    have hsum : (t.gs.map fun g => ((cntS z g : Nat) : Int)).sum = ((cntS z t.gs.flatten : Nat) : Int) := by
      rw [← cntS_flat]
      generalize t.gs = gs
      induction gs with
      | nil => rfl
      | cons g r ih =>
        rw [List.map_cons, List.sum_cons, ih, List.map_cons, List.sum_cons]
        omega
    refine ⟨C, _, rfl, SqL.of eC, ?_⟩
    rw [hsum]
    have S3 := s2.trans s3
    have T3 := T.same S3
    have eD3 := s3 _ _ eD2
    -- which options it may be
    refine ⟨.ref a, rfl, a, _, 1, .ref ao, rfl, rfl, SqL.of T3.ea, rfl, ao, rfl, ⟨_, SqL.of T3.eo⟩, fun M nM => ?_⟩
    refine lc_list (K := K) (a := ao) (xs := xo.map V.ref) (fun n He => Same H3 He ∧ ∃ zs : List V, He M = some (.lst zs) ∧ zs.length ≤ n ∧ (zs ≠ [] → z ∈ freeC t)) ⟨same_upd nM, [], upd_same, Nat.le_refl _, fun h => absurd rfl h⟩ (fun n He _ h => SqL.of (h.1 _ _ T3.eo)) (fun n v He hv ⟨se, zs, eM, lz, hzs⟩ => ?_) (fun H4 ⟨s4, zs, eM, lz, hzs⟩ => ?_)
    · rw [List.getElem?_map] at hv
      obtain ⟨y, hy, rfl⟩ := Option.map_eq_some_iff.mp hv
      obtain ⟨o, ho, ey, ok⟩ := T3.ho.2 n y hy
      have hn : n < xo.length := (List.getElem?_eq_some_iff.mp hy).1
      have eyc := se _ _ ey
      refine ⟨rfl, .ref y, rfl, y, _, 0, .str o.long, rfl, rfl, SqL.of eyc, rfl, .str z, rfl, rfl, _, rfl, ite2 (fun e => ?_) (fun e => ?_)⟩
      · have e1 : o.long = z := V.str.inj (of_decide_eq_true e)
        refine ⟨.ref y, rfl, y, _, 3, .bl o.need, rfl, rfl, SqL.of eyc, rfl, _, rfl, ?_⟩
        cases hbn : o.need with
        | true => exact ⟨se, zs, eM, by omega, hzs⟩
        | false =>
          refine ⟨.ref y, rfl, _, eM, by omega, fun b u e => ?_, _, upd_same, by rw [List.length_append]; show _ + 1 ≤ _; omega, fun _ => ?_⟩
          · rw [upd_ne (ne_of_none e nM)]
            exact se _ _ e
          · unfold freeC
            exact List.mem_map.mpr ⟨o, List.mem_filter.mpr ⟨List.mem_of_getElem? ho, by simp [hbn]⟩, e1⟩
      · exact ⟨se, zs, eM, by omega, hzs⟩
    have S4 := S3.trans s4
    have T4 := T.same S4
    have eD4 := s4 _ _ eD3
    -- the last one goes
    have hat : (xg.map V.ref)[jl]? = some (.ref (xg[jl]'hjl)) := by rw [List.getElem?_map, List.getElem?_eq_getElem hjl]; rfl
    refine ⟨.ref a, rfl, a, _, 3, .ref ag, rfl, rfl, SqL.of T4.ea, rfl, Or.inl ⟨rfl, _, SqL.of T4.eg⟩, .ref D, rfl, 1, rfl, D, _, -1, .int jl, rfl, rfl, SqL.of eD4, atI_last _ _, ag, _, jl, jl, _, rfl, rfl, T4.eg, by omega, by omega, by rw [List.length_map]; exact seqIx hjl, hat, ?_⟩
    have nMg : M ≠ ag := fun e => by
      rw [e] at nM
      rw [T3.eg] at nM
      cases nM
    refine ⟨_, rfl, _, _, rfl, rfl, _, rfl, ite2 (fun e => ?_) (fun e => ?_)⟩
    · exact q _ ⟨H4, jl, S4, hjl, Same.refl _⟩
    · have e' := fun z' => e (decide_eq_true z')
      have h1 : zs = [] := by
        by_cases c : zs = []
        · exact c
        · exfalso
          have hf := hzs c
          rcases hw with h | h | h
          · exact h hf
          · cases h
          · have := count_two hi0 h
            exact e' (show ((cntS z t.gs.flatten : Nat) : Int) > 1 by unfold cntS; omega)
      rw [h1] at eM
      have eM5 : (upd H4 ag (.lst ((xg.map V.ref).eraseIdx jl))) M = some (.lst []) := by rw [upd_ne nMg]; exact eM
      refine ⟨.ref M, rfl, by show 0 ≤ sizeLine; decide, fun q0 m0 => ⟨M, q0, _, rfl, rfl, same_upd m0 _ _ eM5, upd_same, ?_⟩⟩
      exact q _ ⟨H4, jl, S4, hjl, same_upd m0⟩
end
end WB

set_option Elab.async false
set_option linter.all false
set_option maxRecDepth 100000
set_option maxHeartbeats 4000000
namespace L2
open PySem PySem.Spec PyProof.Rows
/-! ### a list from behind: xs[::-1] -/
def tRev (K : PySem.W.Frag) (te : TE) (ts : TO) : TE := fun σ H Q => te σ H fun x H1 => ts σ H1 fun i H2 => i = some (-1) ∧ ∃ (a : Addr) (xs : List V), x = .ref a ∧ SqL K H2 a xs ∧ ∀ p, H2 p = none → Q (.ref p) (upd H2 p (.lst xs.reverse))
theorem vals_rev : ∀ {vs : List V} {us : List Value}, Vals vs us → Vals vs.reverse us.reverse
  | _, _, .nil => .nil
  | _, _, .cons r t => by
    rw [List.reverse_cons, List.reverse_cons]
    exact (vals_rev t).append (.cons r .nil)
theorem pe_rev {X : Cx} {e st : Expr} {te : TE} {ts : TO} {pos p2 : Pos} (he : PE X e te) (hst : PO X (some st) ts) : PE X (.Subscript e (.Slice none none (some st) p2) pos) (tRev X.K te ts) := by
  constructor
  intro pins s0 σ H Qw inv ask
  refine Subscript_ (thn (he.run pins s0 σ H _ inv ask) fun v s1 got => ?_)
  obtain ⟨x, H1, inv1, rel, ask1⟩ := got
  refine wpAny_Slice ?_
  rw [evalPart_none]
  refine wpAny_pure ?_
  refine wpAny_pure ?_
  refine thn (hst.run pins s1 σ H1 _ inv1 ask1) fun vk s2 got => ?_
  obtain ⟨i, H2, inv2, part, rfl, a, xs, rfl, hx, ask2⟩ := got
  have inv3 : Inv X pins σ H2 { s2 with heap := s2.heap.push { cls := .type "slice", data := .fields #[.none, .none, vk] } } := inv2.kept (t' := s2.toks) fun b ob z => Heap.get?_push_of_some _ z
  cases rel
  obtain ⟨its, vals, at_, size⟩ := inv3.list hx
  have len := vals.length
  refine tail_any (ops := [.ref a, .ref s2.heap.objs.size]) at_.isList.typeIs slot_list_getitem.lookup ?_ rfl
  refine wpAny_getItem_list_slice at_.isList (Heap.IsSliceOf.new ..) .none .none part (by simp) ?_ (by rw [List.size_toArray] <;> omega)
  rw [PySem.W.krv_pick]
  refine ⟨.ref _, _, inv3.laid (t' := s2.toks) (o := .lst xs.reverse) (fun b ob z => Heap.get?_push_of_some _ z) (Nat.le_refl _) ?_, rfl, ask2 _ (inv3.hok.fresh (Nat.le_refl _))⟩
  exact ⟨by rw [List.length_reverse]; exact size, _, 0, vals_rev vals, Heap.get?_push_size _ rfl⟩
end L2
namespace WB
open PySem PySem.Spec PyProof.Rows L2 WG
open TL (tl)
abbrev st_place_out : Stmt := topS 79
theorem sc_place_out : FnScope ["_law_tree_here", "_law_kind", "_law_who", "_law_names", "_law_at_here", "_law_place", "_law_ahead", "_law_one"] ["_law_tree_here", "_law_kind", "_law_who"] (defScope st_place_out) := ⟨rfl, rfl, rfl, by decide +kernel, rfl, by decide +kernel, by decide +kernel⟩
/-! ### a place is taken out -/
theorem order_some {z : Str} : ∀ {ps : List PL} {ah : List Str}, orderBad ps ah = some z → ∃ (i : Nat) (p : PL), ps[i]? = some p ∧ p.name = z ∧ mayStand p.many (ah ++ (ps.take i).map PL.many) = false
  | [], _, h => by cases h
  | p :: r, ah, h => by
    rw [orderBad_cons] at h
    split at h
    · obtain ⟨i, p', h1, h2, h3⟩ := order_some h
      refine ⟨i + 1, p', h1, h2, ?_⟩
      rw [List.take_succ_cons, List.map_cons]
      rw [List.append_assoc] at h3
      exact h3
    · rename_i c
      cases h
      refine ⟨0, p, rfl, rfl, ?_⟩
      rw [List.take_zero, List.map_nil, List.append_nil]
      cases e : mayStand p.many ah with
      | false => rfl
      | true => exact absurd e c
theorem take_erase {α : Type} {xs : List α} {k : Nat} (h : k < xs.length) : (xs.eraseIdx k).take k = xs.take k := by
  rw [List.eraseIdx_eq_take_drop_succ, List.take_append_of_le_length (by rw [List.length_take]; omega), List.take_take, Nat.min_self]
theorem may_false {m : Str} {ahead : List Str} (hm : among (.str m) WP.manies = true) (h : mayStand m ahead = false) : inS (Str.ofString "some") ahead = true ∨ inS (Str.ofString "any") ahead = true ∨ (inS (Str.ofString "maybe") ahead = true ∧ inV (.str m) [.str (Str.ofString "one"), .str (Str.ofString "some")] = true) := by
  unfold mayStand at h
  cases h1 : inS (Str.ofString "some") ahead with
  | true => exact .inl rfl
  | false =>
    cases h2 : inS (Str.ofString "any") ahead with
    | true => exact .inr (.inl rfl)
    | false =>
      rw [h1, h2] at h
      cases h3 : inS (Str.ofString "maybe") ahead with
      | false =>
        rw [h3] at h
        cases h
      | true =>
        rw [h3] at h
        refine .inr (.inr ⟨rfl, ?_⟩)
        have h4 : inS m [Str.ofString "maybe", Str.ofString "any"] = false := h
        have h5 := among_takes hm
        have h6 : m ∈ [Str.ofString "one", Str.ofString "maybe", Str.ofString "some", Str.ofString "any"] := h5
        simp only [List.mem_cons, List.not_mem_nil, or_false] at h6
        rcases h6 with rfl | rfl | rfl | rfl
        · exact (by decide +kernel : inV (.str (Str.ofString "one")) [.str (Str.ofString "one"), .str (Str.ofString "some")] = true)
        · exact absurd h4 (by decide +kernel)
        · exact (by decide +kernel : inV (.str (Str.ofString "some")) [.str (Str.ofString "one"), .str (Str.ofString "some")] = true)
        · exact absurd h4 (by decide +kernel)
theorem not_in {z : Str} {ys : List Str} (h : z ∈ ys) : inV (.str z) (ys.map V.str) = true := inS_mem.mpr h
section
variable {P : Program} {w : World} {K : PySem.W.Frag} {mg : Str → Option Value} {base : Heap}
def spPlaceOut (d : Nat) : Sp := fun vs H Q _ => ∃ (a : Addr) (kd z : Str) (t : Ct) (ao ap ag ab : Addr) (xo xp xg xb : List Addr), vs = [.ref a, .str kd, .str z] ∧ TrO H d a t ao ap ag ab xo xp xg xb ∧
  ((kd = Str.ofString "name" ∧ firstRep (t.ps.map PL.name) (longsC t) = some z) ∨ (kd = Str.ofString "order" ∧ firstRep (t.ps.map PL.name) (longsC t) = none ∧ orderBad t.ps [] = some z)) ∧ ∀ H', Popd H ap xp H' → Q (.bl true) H'
theorem ok_placeOut {f : Addr} {fd : FuncData} {k d : Nat} (F : Fun K "_law_place_out" "_law_place_out" st_place_out f fd) (m_len : mg "len" = none) : FnOk P w K mg base CX0 (k + 1) f fd ["_law_tree_here", "_law_kind", "_law_who"] (spPlaceOut d) := by
  refine F.ok sc_place_out (fun vs H Q E h => ?_) (fun cdv A outer s H vs Q E hr h => ?_)
  · obtain ⟨a, kd, z, t, _, _, _, _, _, _, _, _, rfl, _⟩ := h
    rfl
  · obtain ⟨a, kd, z, t, ao, ap, ag, ab, xo, xp, xg, xb, rfl, T, hk, q⟩ := h
    have sl : sizeLine = 16777216 := sizeLine_eq
    have lp := T.lp
    have lhp := T.hp.1
    have lo := T.lo
    have lho := T.ho.1
    obtain ⟨ns, hns⟩ : ∃ ns, ns = t.ps.map PL.name := ⟨_, rfl⟩
    have lns : ns.length = xp.length := by rw [hns, List.length_map, lhp]
    have hz : z ∈ ns := by
      rw [hns]
      rcases hk with ⟨_, h⟩ | ⟨_, _, h⟩
      · obtain ⟨i, h1, _⟩ := rep_some h
        exact List.mem_of_getElem? h1
      · obtain ⟨i, p, h1, h2, _⟩ := order_some h
        exact List.mem_map.mpr ⟨p, List.mem_of_getElem? h1, h2⟩
    obtain ⟨jm, hj1, hj2⟩ := last_at hz
    have hjn : jm < ns.length := (List.getElem?_eq_some_iff.mp hj1).1
    have hjx : jm < xp.length := by omega
    refine ⟨_, pss_cons (ps_setLc (i := 3) (own := [("_law_one", 7)]) (g := gName 7) (tt := tYes)  rfl sc_place_out.nd rfl rfl (sw_true rfl rfl rfl (by decide +kernel)) (pi_list (pe_ix ix_list (pv 0) pe_int (fun _ _ => rfl))) (blkOk_by (N := ["_law_tree_here", "_law_kind", "_law_who", "_law_names", "_law_at_here", "_law_place", "_law_ahead", "_law_one"]) (sc := defScope st_place_out) (by decide +kernel)) (fun _ _ _ _ _ => (pg_name (i := 7) sc_place_out.nd rfl (Or.inl rfl))) (fun _ _ _ _ _ => pts_nil) (fun _ _ _ _ _ => (pe_ix (r := rIxL K) ix_list (pv 7) pe_int (fun _ _ => rfl))))
      (pss_cons (ps_if (pt_cmpR op_notIn_seq (pv 2) (pv 3) (by rfl)) (pss_one (ps_ret pe_bl)) pss_nil)
      (pss_cons (ps_set (i := 4) sc_place_out.nd rfl (.inl rfl) (pe_op op_sub (pe_op op_sub (pe_callB call_len_seq (by rfl) m_len PySem.boot_len (pa_cons (pv 3) pa_nil)) pe_int) (pe_bm PySem.F.plainAttrs_list PySem.F.slot_list_index PySem.F.type_list_index mt_index (pe_rev (pv 3) (po_some (pe_un un_neg pe_int))) (pa_cons (pv 2) pa_nil))))
      (pss_cons (ps_set (i := 5) sc_place_out.nd rfl (.inl rfl) (pe_bm PySem.F.plainAttrs_list PySem.F.slot_list_pop PySem.F.type_list_pop mt_popAt (pe_ix ix_list (pv 0) pe_int (fun _ _ => rfl)) (pa_cons (pv 4) pa_nil)))
      (pss_cons (ps_setLc (i := 6) (own := [("_law_one", 7)]) (g := gName 7) (tt := tYes)  rfl sc_place_out.nd rfl rfl (sw_true rfl rfl rfl (by decide +kernel)) (pi_list (pe_slice sl_list (pe_ix ix_list (pv 0) pe_int (fun _ _ => rfl)) po_none (po_some (pv 4)))) (blkOk_by (N := ["_law_tree_here", "_law_kind", "_law_who", "_law_names", "_law_at_here", "_law_place", "_law_ahead", "_law_one"]) (sc := defScope st_place_out) (by decide +kernel)) (fun _ _ _ _ _ => (pg_name (i := 7) sc_place_out.nd rfl (Or.inl rfl))) (fun _ _ _ _ _ => pts_nil) (fun _ _ _ _ _ => (pe_ix (r := rIxL K) ix_list (pv 7) pe_int (fun _ _ => rfl))))
      (pss_cons (ps_if (pt_cmpR op_eq (pv 1) pe_str (nomark _)) (pss_one (ps_ret (pe_or (pe_cmpR op_in_seq (pv 2) (pe_slice sl_list (pv 3) po_none (po_some (pv 4))) (by rfl)) (pe_one (pe_cmpR op_in_seq (pv 2) (pe_lc (own := [("_law_one", 7)]) (g := gName 7) (tt := tYes) rfl sc_place_out.nd (pi_list (pe_ix ix_list (pv 0) pe_int (fun _ _ => rfl))) (blkOk_by (N := ["_law_tree_here", "_law_kind", "_law_who", "_law_names", "_law_at_here", "_law_place", "_law_ahead", "_law_one"]) (sc := defScope st_place_out) (by decide +kernel)) (fun _ _ _ _ _ => (pg_name (i := 7) sc_place_out.nd rfl (Or.inl rfl))) (fun _ _ _ _ _ => pts_nil) (fun _ _ _ _ _ => (pe_ix (r := rIxL K) ix_list (pv 7) pe_int (fun _ _ => rfl)))) (by rfl)))))) pss_nil)
      (pss_one (ps_ret (pe_or (pe_cmpR op_in_seq pe_str (pv 6) (by rfl)) (pe_or (pe_cmpR op_in_seq pe_str (pv 6) (by rfl)) (pe_one (pe_and (pe_cmpR op_in_seq pe_str (pv 6) (by rfl)) (pe_one (pe_cmpR op_in_seq (pe_ix ix_list (pv 5) pe_int (fun _ _ => rfl)) (pe_tup (pa_cons pe_str (pa_cons pe_str pa_nil))) (by rfl)))))))))))))), ?_⟩
    -- the names
    refine ⟨.ref a, rfl, a, _, 2, .ref ap, rfl, rfl, SqL.of T.ea, rfl, ap, rfl, ⟨_, SqL.of T.ep⟩, fun N nN => ?_⟩
    refine lc_list (K := K) (a := ap) (xs := xp.map V.ref) (fun i Hc => Same H Hc ∧ Hc N = some (.lst ((ns.take i).map V.str))) ⟨same_upd nN, upd_same⟩ (fun i Hc _ h => SqL.of (h.1 _ _ T.ep)) (fun i v Hc hv ⟨sc, eN⟩ => ?_) (fun H1 ⟨s1, eN⟩ => ?_)
    · rw [List.getElem?_map] at hv
      obtain ⟨y, hy, rfl⟩ := Option.map_eq_some_iff.mp hv
      obtain ⟨o, ho, ey, _⟩ := T.hp.2 i y hy
      have hi : i < xp.length := (List.getElem?_eq_some_iff.mp hy).1
      refine ⟨rfl, .ref y, rfl, y, _, 0, .str o.name, rfl, rfl, SqL.of (sc _ _ ey), rfl, _, eN, by rw [List.length_map, List.length_take]; omega, fun b u e => ?_, ?_⟩
      · rw [upd_ne (ne_of_none e nN)]
        exact sc _ _ e
      · rw [upd_same, List.take_add_one, hns, List.getElem?_map, ho, List.map_append]
        rfl
    rw [List.length_map, ← lns, List.take_length] at eN
    have T1 := T.same s1
    refine ⟨.str z, rfl, .ref N, rfl, N, _, rfl, .inl (SqL.of eN), rfl, flat_strs _, _, rfl, ite2 (fun e => ?_) (fun e => ?_)⟩
    · rw [not_in hz] at e
      cases e
    -- the last one's place
    refine ⟨.ref N, rfl, N, _, rfl, .inl (SqL.of eN), _, _, rfl, rfl, ?_⟩
    refine ⟨.ref N, rfl, 1, rfl, _, rfl, rfl, N, _, rfl, SqL.of eN, fun R nR => ?_⟩
    have s2 := same_upd (o := .lst (ns.map V.str).reverse) nR
    have eR : (upd H1 R (.lst (ns.map V.str).reverse)) R = some (.lst (ns.reverse.map V.str)) := by rw [upd_same, List.map_reverse]
    revert s2 eR
    generalize upd H1 R (.lst (ns.map V.str).reverse) = H2
    intro s2 eR
    have S2 := s1.trans s2
    have T2 := T.same S2
    have eN2 := s2 _ _ eN
    have hrev : ∀ m : Nat, m < ns.length → ns.reverse[m]? = ns[ns.length - 1 - m]? := fun m hm => List.getElem?_reverse hm
    have hix : ns.reverse[ns.length - 1 - jm]? = some z := by
      rw [hrev _ (by omega), show ns.length - 1 - (ns.length - 1 - jm) = jm from by omega]
      exact hj1
    refine ⟨Or.inl ⟨rfl, _, SqL.of eR⟩, .str z, rfl, R, _, .str z, ns.length - 1 - jm, .str z, rfl, rfl, SqL.of eR, rfl, flat_strs _, by rw [List.getElem?_map, hix]; rfl, show decide (z = z) = true from decide_eq_true rfl, fun m z' hm hz' => ?_, _, _, rfl, rfl, ?_⟩
    · rw [List.getElem?_map, hrev m (by omega)] at hz'
      obtain ⟨y, hy, rfl⟩ := Option.map_eq_some_iff.mp hz'
      show decide (y = z) = false
      refine decide_eq_false fun e => hj2 (ns.length - 1 - m) (by omega) (by rw [hy, e])
    dsimp only
    rw [show (((ns.map V.str).length : Nat) : Int) - 1 - ((ns.length - 1 - jm : Nat) : Int) = (jm : Int) from by rw [List.length_map]; omega]
    -- it goes
    have hat : (xp.map V.ref)[jm]? = some (.ref (xp[jm]'hjx)) := by rw [List.getElem?_map, List.getElem?_eq_getElem hjx]; rfl
    refine ⟨.ref a, rfl, a, _, 2, .ref ap, rfl, rfl, SqL.of T2.ea, rfl, Or.inl ⟨rfl, _, SqL.of T2.ep⟩, .int jm, rfl, ap, _, jm, jm, _, rfl, rfl, T2.ep, by omega, by omega, by rw [List.length_map]; exact seqIx hjx, hat, ?_⟩
    have keep : ∀ {x : Addr} {v : Str} {r : List V}, H2 x = some (.lst (V.str v :: r)) → (upd H2 ap (.lst ((xp.map V.ref).eraseIdx jm))) x = some (.lst (V.str v :: r)) := fun {x v r} e => by
      rw [upd_ne (fun z => by
        rw [z, T2.ep] at e
        cases xp <;> cases e)]
      exact e
    have eN3 : (upd H2 ap (.lst ((xp.map V.ref).eraseIdx jm))) N = some (.lst (ns.map V.str)) := by
      rw [upd_ne (fun z => by
        rw [z, T.ep] at nN
        cases nN)]
      exact eN2
    obtain ⟨pj, hpj, epj, okj⟩ := T2.hp.2 jm _ (List.getElem?_eq_getElem hjx)
    have nao : ao ≠ ap := fun e => by
      have e1 := T2.eo
      rw [e, T2.ep] at e1
      have := refs_inj (HO.lst.inj (Option.some.inj e1))
      obtain ⟨o, _, eo, _⟩ := T2.ho.2 jm _ (by rw [← this]; exact List.getElem?_eq_getElem hjx)
      rw [epj] at eo
      have := congrArg List.length (HO.lst.inj (Option.some.inj eo))
      simp at this
    have ea3 := keep T2.ea
    have ep3 : (upd H2 ap (.lst ((xp.map V.ref).eraseIdx jm))) ap = some (.lst ((xp.map V.ref).eraseIdx jm)) := upd_same
    have eo3 : (upd H2 ap (.lst ((xp.map V.ref).eraseIdx jm))) ao = some (.lst (xo.map V.ref)) := by
      rw [upd_ne nao]
      exact T2.eo
    have pl3 : ∀ (i : Nat) (x : Addr), xp[i]? = some x → ∃ p : PL, t.ps[i]? = some p ∧ (upd H2 ap (.lst ((xp.map V.ref).eraseIdx jm))) x = some (.lst [.str p.name, .str p.many]) := fun i x hx => by
      obtain ⟨p, hp, ex, _⟩ := T2.hp.2 i x hx
      exact ⟨p, hp, keep ex⟩
    have op3 : ∀ (i : Nat) (x : Addr), xo[i]? = some x → ∃ o : OT, t.os[i]? = some o ∧ (upd H2 ap (.lst ((xp.map V.ref).eraseIdx jm))) x = some (.lst [.str o.long, .str o.short, .str o.takes, .bl o.need, .bl o.off]) := fun i x hx => by
      obtain ⟨p, hp, ex, _⟩ := T2.ho.2 i x hx
      exact ⟨p, hp, keep ex⟩
    have epj3 := keep epj
    have pop : ∀ {Hx : Hp}, Same (upd H2 ap (.lst ((xp.map V.ref).eraseIdx jm))) Hx → Q (.bl true) Hx := fun {Hx} sx => q _ ⟨H2, jm, S2, hjx, sx⟩
    revert eN3 ea3 ep3 eo3 pl3 op3 epj3 pop
    clear keep
    generalize upd H2 ap (.lst ((xp.map V.ref).eraseIdx jm)) = H3
    intro eN3 ea3 ep3 eo3 pl3 op3 epj3 pop
    -- those ahead
    refine ⟨.ref a, rfl, a, _, 2, .ref ap, rfl, rfl, SqL.of ea3, rfl, .int jm, rfl, _, rfl, ap, _, rfl, SqL.of ep3, fun C nC => ?_⟩
    rw [cutV_to _ jm (by rw [List.length_eraseIdx]; split <;> rw [List.length_map] <;> omega), take_erase (by rw [List.length_map]; exact hjx), ← List.map_take]
    have s4 := same_upd (o := .lst ((xp.take jm).map V.ref)) nC
    have eC : (upd H3 C (.lst ((xp.take jm).map V.ref))) C = some (.lst ((xp.take jm).map V.ref)) := upd_same
    revert s4 eC
    generalize upd H3 C (.lst ((xp.take jm).map V.ref)) = H4
    intro s4 eC
    refine ⟨C, rfl, ⟨_, SqL.of eC⟩, fun M nM => ?_⟩
    refine lc_list (K := K) (a := C) (xs := (xp.take jm).map V.ref) (fun i Hc => Same H4 Hc ∧ Hc M = some (.lst ((((t.ps.take jm).take i).map PL.many).map V.str))) ⟨same_upd nM, upd_same⟩ (fun i Hc _ h => SqL.of (h.1 _ _ eC)) (fun i v Hc hv ⟨sc, eM⟩ => ?_) (fun H5 ⟨s5, eM⟩ => ?_)
    · rw [List.getElem?_map] at hv
      obtain ⟨y, hy, rfl⟩ := Option.map_eq_some_iff.mp hv
      have hi : i < jm := by
        have := (List.getElem?_eq_some_iff.mp hy).1
        rw [List.length_take] at this
        omega
      rw [List.getElem?_take_of_lt hi] at hy
      obtain ⟨p, hp, ey⟩ := pl3 i y hy
      have hp' : (t.ps.take jm)[i]? = some p := by rw [List.getElem?_take_of_lt hi]; exact hp
      refine ⟨rfl, .ref y, rfl, y, _, 1, .str p.many, rfl, rfl, SqL.of (sc _ _ (s4 _ _ ey)), rfl, _, eM, by rw [List.length_map, List.length_map, List.length_take, List.length_take]; omega, fun b u e => ?_, ?_⟩
      · rw [upd_ne (ne_of_none e nM)]
        exact sc _ _ e
      · rw [upd_same, List.take_add_one, hp', List.map_append, List.map_append]
        rfl
    rw [List.length_map, List.length_take, Nat.min_eq_left (by omega), List.take_take, Nat.min_self] at eM
    have S5 := s4.trans s5
    refine ⟨.str kd, rfl, rfl, _, rfl, ite2 (fun e => ?_) (fun e => ?_)⟩
    · have hkd := V.str.inj (of_decide_eq_true e)
      have hrep : firstRep ns (longsC t) = some z := by
        rw [hns]
        rcases hk with ⟨_, h⟩ | ⟨h1, _, _⟩
        · exact h
        · rw [hkd] at h1
          exact absurd h1 (by decide +kernel)
      obtain ⟨i, hi1, hi2⟩ := rep_some hrep
      refine ⟨.str z, rfl, .ref N, rfl, .int jm, rfl, _, rfl, N, _, rfl, SqL.of (S5 _ _ eN3), fun L nL => ?_⟩
      rw [cutV_to _ jm (by rw [List.length_map]; omega), ← List.map_take]
      have s6 := same_upd (o := .lst ((ns.take jm).map V.str)) nL
      have eL : (upd H5 L (.lst ((ns.take jm).map V.str))) L = some (.lst ((ns.take jm).map V.str)) := upd_same
      revert s6 eL
      generalize upd H5 L (.lst ((ns.take jm).map V.str)) = H6
      intro s6 eL
      have S6 := S5.trans s6
      refine ⟨L, _, rfl, .inl (SqL.of eL), rfl, flat_strs _, _, rfl, ite2 (fun e => ?_) (fun e => ?_)⟩
      · exact pop S6
      · have hl : z ∈ longsC t := by
          rcases hi2 with h | ⟨j, hj, h⟩
          · exact h
          · refine absurd (not_in ?_) e
            have hij : i ≤ jm := Nat.le_of_not_lt fun c => hj2 i c hi1
            have : (ns.take jm)[j]? = some z := by rw [List.getElem?_take_of_lt (by omega)]; exact h
            exact List.mem_of_getElem? this
        refine ⟨.str z, rfl, .ref a, rfl, a, _, 1, .ref ao, rfl, rfl, SqL.of (S6 _ _ ea3), rfl, ao, rfl, ⟨_, SqL.of (S6 _ _ eo3)⟩, fun B nB => ?_⟩
        refine lc_list (K := K) (a := ao) (xs := xo.map V.ref) (fun i Hc => Same H6 Hc ∧ Hc B = some (.lst (((t.os.take i).map OT.long).map V.str))) ⟨same_upd nB, upd_same⟩ (fun i Hc _ h => SqL.of (h.1 _ _ (S6 _ _ eo3))) (fun i v Hc hv ⟨sc, eB⟩ => ?_) (fun H7 ⟨s7, eB⟩ => ?_)
        · rw [List.getElem?_map] at hv
          obtain ⟨y, hy, rfl⟩ := Option.map_eq_some_iff.mp hv
          have hi : i < xo.length := (List.getElem?_eq_some_iff.mp hy).1
          obtain ⟨o, ho, ey⟩ := op3 i y hy
          refine ⟨rfl, .ref y, rfl, y, _, 0, .str o.long, rfl, rfl, SqL.of (sc _ _ (S6 _ _ ey)), rfl, _, eB, by rw [List.length_map, List.length_map, List.length_take]; omega, fun b u e => ?_, ?_⟩
          · rw [upd_ne (ne_of_none e nB)]
            exact sc _ _ e
          · rw [upd_same, List.take_add_one, ho, List.map_append, List.map_append]
            rfl
        rw [List.length_map, lho, List.take_length] at eB
        refine ⟨B, _, rfl, .inl (SqL.of eB), rfl, flat_strs _, ?_⟩
        rw [show inV (.str z) ((t.os.map OT.long).map V.str) = true from not_in hl]
        exact pop (S6.trans s7)
    · have hord : firstRep ns (longsC t) = none ∧ orderBad t.ps [] = some z := by
        rw [hns]
        rcases hk with ⟨h1, _⟩ | ⟨_, h2, h3⟩
        · exact absurd (decide_eq_true (by rw [h1])) e
        · exact ⟨h2, h3⟩
      obtain ⟨i, p, hi1, hi2, hi3⟩ := order_some hord.2
      have hni : ns[i]? = some z := by rw [hns, List.getElem?_map, hi1, ← hi2]; rfl
      have hij : i = jm := (rep_none hord.1).2 i jm z hni hj1
      rw [hij] at hi1 hi3
      rw [hpj] at hi1
      cases hi1
      have hm := may_false okj.many (show mayStand pj.many ((t.ps.take jm).map PL.many) = false from hi3)
      refine ⟨.ref M, rfl, M, _, rfl, .inl (SqL.of eM), rfl, flat_strs _, _, rfl, ite2 (fun e1 => ?_) (fun e1 => ?_)⟩
      · exact pop S5
      · refine ⟨.ref M, rfl, M, _, rfl, .inl (SqL.of eM), rfl, flat_strs _, _, rfl, ite2 (fun e2 => ?_) (fun e2 => ?_)⟩
        · exact pop S5
        · rcases hm with h | h | ⟨h1, h2⟩
          · exact absurd h e1
          · exact absurd h e2
          · refine ⟨.ref M, rfl, M, _, rfl, .inl (SqL.of eM), rfl, flat_strs _, _, rfl, ite2 (fun e3 => ?_) (fun e3 => ?_)⟩
            · refine ⟨.ref _, rfl, _, _, 1, .str pj.many, rfl, rfl, SqL.of (S5 _ _ epj3), rfl, by show 2 ≤ sizeLine; decide, fun tt nt => ?_⟩
              refine ⟨tt, _, rfl, .inr (SqT.of upd_same), rfl, rfl, ?_⟩
              rw [h2]
              exact pop (S5.trans (same_upd nt))
            · exact absurd h1 e3
end
end WB

set_option Elab.async false
set_option linter.all false
set_option maxRecDepth 100000
set_option maxHeartbeats 4000000
namespace WB
open PySem PySem.Spec PyProof.Rows L2 WG
open TL (tl)
abbrev st_taken_out : Stmt := topS 81
theorem sc_taken_out : FnScope ["_law_tree_here", "_law_kind", "_law_who", "_law_is_both"] ["_law_tree_here", "_law_kind", "_law_who"] (defScope st_taken_out) := ⟨rfl, rfl, rfl, by decide +kernel, rfl, by decide +kernel, by decide +kernel⟩
/-! ### what is told is taken out of a node -/
def Chg (H : Hp) (a : Addr) (t : Ct) (ao ap ag ab : Addr) (xo xp xg xb : List Addr) (H' : Hp) : Prop :=
  (∃ (l : Addr) (xs : List Addr), ((l = ao ∧ xs = xo) ∨ (l = ap ∧ xs = xp) ∨ (l = ag ∧ xs = xg) ∨ (l = ab ∧ xs = xb)) ∧ Popd H l xs H') ∨
  (0 < xp.length ∧ ∃ (Ha : Hp) (e : Addr), Same H Ha ∧ Ha e = none ∧ Same (upd (upd Ha e (.lst [])) a (.lst [.str t.name, .ref ao, .ref e, .ref ag, .ref ab])) H')
theorem sub_two {z : Str} {ys xs : List Str} (s : ys.Sublist xs) : ∀ {i j : Nat}, i < j → ys[i]? = some z → ys[j]? = some z → ∃ i' j' : Nat, i' < j' ∧ xs[i']? = some z ∧ xs[j']? = some z := by
  induction s with
  | slnil =>
    intro i j _ h
    cases h
  | cons a s ih =>
    intro i j hij hi hj
    obtain ⟨i', j', h1, h2, h3⟩ := ih hij hi hj
    exact ⟨i' + 1, j' + 1, by omega, h2, h3⟩
  | cons_cons a s ih =>
    intro i j hij hi hj
    match i, j, hij with
    | 0, j + 1, _ =>
      have hm := s.subset (List.mem_of_getElem? (show _ = some z from hj))
      obtain ⟨m, hm1, hm2⟩ := List.mem_iff_getElem.mp hm
      exact ⟨0, m + 1, by omega, hi, by rw [List.getElem?_cons_succ, List.getElem?_eq_getElem hm1, hm2]⟩
    | i + 1, j + 1, hij =>
      obtain ⟨i', j', h1, h2, h3⟩ := ih (by omega : i < j) hi hj
      exact ⟨i' + 1, j' + 1, by omega, h2, h3⟩
theorem rep_two {z : Str} {ys : List Str} (h : firstRep ys [] = some z) : ∃ i j : Nat, i < j ∧ ys[i]? = some z ∧ ys[j]? = some z := by
  obtain ⟨j, hj, h2⟩ := rep_some h
  rcases h2 with h2 | ⟨i, hi, h2⟩
  · cases h2
  · exact ⟨i, j, hi, h2, hj⟩
theorem TrO.kyL {H : Hp} {d : Nat} {a : Addr} {t : Ct} {ao ap ag ab : Addr} {xo xp xg xb : List Addr} (T : TrO H d a t ao ap ag ab xo xp xg xb) : Ky H 0 xo (longsC t) := ⟨by unfold longsC; rw [List.length_map]; exact T.ho.1, fun i x e => by
  obtain ⟨o, ho, ex, _⟩ := T.ho.2 i x e
  exact ⟨o.long, by unfold longsC; rw [List.getElem?_map, ho]; rfl, _, ex, rfl⟩⟩
theorem TrO.kyS {H : Hp} {d : Nat} {a : Addr} {t : Ct} {ao ap ag ab : Addr} {xo xp xg xb : List Addr} (T : TrO H d a t ao ap ag ab xo xp xg xb) : Ky H 1 xo (t.os.map OT.short) := ⟨by rw [List.length_map]; exact T.ho.1, fun i x e => by
  obtain ⟨o, ho, ex, _⟩ := T.ho.2 i x e
  exact ⟨o.short, by rw [List.getElem?_map, ho]; rfl, _, ex, rfl⟩⟩
theorem TrO.kyB {H : Hp} {d : Nat} {a : Addr} {t : Ct} {ao ap ag ab : Addr} {xo xp xg xb : List Addr} (T : TrO H d a t ao ap ag ab xo xp xg xb) : Ky H 0 xb (t.cs.map Ct.name) := T.names.mono fun x m ⟨vs, e⟩ => ⟨_, e, rfl⟩
section
variable {P : Program} {w : World} {K : PySem.W.Frag} {mg : Str → Option Value} {base : Heap}
def Told (t : Ct) (k z : Str) : Prop := (k = Str.ofString "long" ∧ firstRep (longsC t) [] = some z) ∨ (k = Str.ofString "short" ∧ firstRep (shortsC t) [] = some z) ∨ (k = Str.ofString "name" ∧ firstRep (t.ps.map PL.name) (longsC t) = some z) ∨
    (k = Str.ofString "order" ∧ firstRep (t.ps.map PL.name) (longsC t) = none ∧ orderBad t.ps [] = some z) ∨ (k = Str.ofString "both" ∧ bothC t = some z) ∨ (k = Str.ofString "group" ∧ groupBad (freeC t) t.gs.flatten [] = some z) ∨ (k = Str.ofString "command" ∧ firstRep (t.cs.map Ct.name) [] = some z)
def spTaken (d : Nat) : Sp := fun vs H Q _ => ∃ (a : Addr) (kd z : Str) (t : Ct) (ao ap ag ab : Addr) (xo xp xg xb : List Addr), vs = [.ref a, .str kd, .str z] ∧ TrO H d a t ao ap ag ab xo xp xg xb ∧ Told t kd z ∧ ∀ H', Chg H a t ao ap ag ab xo xp xg xb H' → Q (.bl true) H'
theorem ok_taken {f fW fL fP fG : Addr} {fd fdW fdL fdP fdG : FuncData} {k d : Nat} (F : Fun K "_law_taken_out" "_law_taken_out" st_taken_out f fd) (D_last : Df K mg "_law_last" st_last ["_law_things", "_law_who", "_law_at_here"] fL fdL) (D_without : Df K mg "_law_without" st_without ["_law_things", "_law_who", "_law_at_here"] fW fdW)
    (D_place_out : Df K mg "_law_place_out" st_place_out ["_law_tree_here", "_law_kind", "_law_who"] fP fdP) (D_group_out : Df K mg "_law_group_out" st_group_out ["_law_tree_here", "_law_who"] fG fdG) (m_len : mg "len" = none) (m_enumerate : mg "enumerate" = none) (m_sum : mg "sum" = none) :
    FnOk P w K mg base CX0 (k + 3) f fd ["_law_tree_here", "_law_kind", "_law_who"] (spTaken d) := by
  have G_without : FnOk P w K mg base CX0 (k + 2) fW fdW ["_law_things", "_law_who", "_law_at_here"] spWithout := ok_without D_without.F D_last m_enumerate m_len
  have G_place_out : FnOk P w K mg base CX0 (k + 2) fP fdP ["_law_tree_here", "_law_kind", "_law_who"] (spPlaceOut d) := ok_placeOut D_place_out.F m_len
  have G_group_out : FnOk P w K mg base CX0 (k + 2) fG fdG ["_law_tree_here", "_law_who"] (spGroupOut d) := ok_groupOut D_group_out.F m_enumerate m_sum
  refine F.ok sc_taken_out (fun vs H Q E h => ?_) (fun cdv A outer s H vs Q E hr h => ?_)
  · obtain ⟨a, kd, z, t, _, _, _, _, _, _, _, _, rfl, _⟩ := h
    rfl
  · obtain ⟨a, kd, z, t, ao, ap, ag, ab, xo, xp, xg, xb, rfl, T, hk, q⟩ := h
    have sl : sizeLine = 16777216 := sizeLine_eq
    have lo := T.lo
    have lho := T.ho.1
    have lb := T.lb
    have lhb := T.hl
    have dec : ∀ (x : Str) (s : Str), (decide (V.str x = V.str s) = true) ↔ x = s := fun x s => ⟨fun h => V.str.inj (of_decide_eq_true h), fun h => by rw [h]; exact decide_eq_true rfl⟩
    refine ⟨_, pss_cons (ps_if (pt_cmpR op_eq (pv 1) pe_str (nomark _)) (pss_one (ps_ret (pe_call G_without hr (by rfl) D_without.g D_without.F.kp D_without.b .nil pass0 (pa_cons (pe_ix ix_list (pv 0) pe_int (fun _ _ => rfl)) (pa_cons (pv 2) (pa_cons pe_int pa_nil)))))) pss_nil)
      (pss_cons (ps_if (pt_cmpR op_eq (pv 1) pe_str (nomark _)) (pss_one (ps_ret (pe_and (pe_cmpR op_ne (pv 2) pe_str (nomark _)) (pe_one (pe_call G_without hr (by rfl) D_without.g D_without.F.kp D_without.b .nil pass0 (pa_cons (pe_ix ix_list (pv 0) pe_int (fun _ _ => rfl)) (pa_cons (pv 2) (pa_cons pe_int pa_nil)))))))) pss_nil)
      (pss_cons (ps_if (pt_cmpR op_in_seq (pv 1) (pe_tup (pa_cons pe_str (pa_cons pe_str pa_nil))) (by rfl)) (pss_one (ps_ret (pe_call G_place_out hr (by rfl) D_place_out.g D_place_out.F.kp D_place_out.b .nil pass0 (pa_cons (pv 0) (pa_cons (pv 1) (pa_cons (pv 2) pa_nil)))))) pss_nil)
      (pss_cons (ps_if (pt_cmpR op_eq (pv 1) pe_str (nomark _)) (pss_cons (ps_set (i := 3) sc_taken_out.nd rfl (.inl rfl) (pe_and (pe_cmpR (op_neE hr.units) (pe_ix ix_list (pv 0) pe_int (fun _ _ => rfl)) (pe_lst pa_nil) (nomark _)) (pe_and (pe_cmpR (op_neE hr.units) (pe_ix ix_list (pv 0) pe_int (fun _ _ => rfl)) (pe_lst pa_nil) (nomark _)) (pe_one (pe_cmpR op_eq (pv 2) (pe_ix ix_list (pv 0) pe_int (fun _ _ => rfl)) (nomark _))))))
      (pss_cons (ps_asg (pe_lst pa_nil) (pg_sub (pv 0) pe_int set_list))
      (pss_one (ps_ret (pv 3))))) pss_nil)
      (pss_cons (ps_if (pt_cmpR op_eq (pv 1) pe_str (nomark _)) (pss_one (ps_ret (pe_call G_group_out hr (by rfl) D_group_out.g D_group_out.F.kp D_group_out.b .nil pass0 (pa_cons (pv 0) (pa_cons (pv 2) pa_nil))))) pss_nil)
      (pss_one (ps_ret (pe_and (pe_cmpR op_eq (pv 1) pe_str (nomark _)) (pe_one (pe_call G_without hr (by rfl) D_without.g D_without.F.kp D_without.b .nil pass0 (pa_cons (pe_ix ix_list (pv 0) pe_int (fun _ _ => rfl)) (pa_cons (pv 2) (pa_cons pe_int pa_nil)))))))))))), ?_⟩
    rcases hk with ⟨rfl, h⟩ | ⟨rfl, h⟩ | ⟨rfl, h⟩ | ⟨rfl, h⟩ | ⟨rfl, h⟩ | ⟨rfl, h⟩ | ⟨rfl, h⟩
    · obtain ⟨i, j, hij, hi, hj⟩ := rep_two h
      refine ⟨_, rfl, rfl, _, rfl, ite2 (fun e => ?_) (fun e => ?_)⟩
      · refine ⟨.ref a, rfl, a, _, 1, .ref ao, rfl, rfl, SqL.of T.ea, rfl, .str z, rfl, ao, z, 0, i, j, xo, _, rfl, T.eo, T.kyL, by unfold longsC; rw [List.length_map]; omega, by omega, hij, hi, hj, fun H' h' => q H' (.inl ⟨ao, xo, .inl ⟨rfl, rfl⟩, h'⟩)⟩
      · exact absurd (decide_eq_true rfl) e
    · obtain ⟨i0, j0, hij0, hi0, hj0⟩ := rep_two h
      obtain ⟨i, j, hij, hi, hj⟩ := sub_two (List.filter_sublist (l := t.os.map OT.short) (p := fun z => !decide (V.str z = V.str (Str.ofString "")))) hij0 hi0 hj0
      have hne : decide (V.str z = V.str (Str.ofString "")) = false := by
        have := (List.mem_filter.mp (List.mem_of_getElem? hi0)).2
        simpa using this
      refine ⟨_, rfl, rfl, _, rfl, ite2 (fun e => ?_) (fun e => ?_)⟩
      · exact absurd e (by decide +kernel)
      refine ⟨_, rfl, rfl, _, rfl, ite2 (fun e => ?_) (fun e => ?_)⟩
      · refine ⟨.str z, rfl, rfl, true, by rw [hne]; rfl, ?_⟩
        refine ⟨.ref a, rfl, a, _, 1, .ref ao, rfl, rfl, SqL.of T.ea, rfl, .str z, rfl, ao, z, 1, i, j, xo, _, rfl, T.eo, T.kyS, by rw [List.length_map]; omega, by omega, hij, hi, hj, fun H' h' => q H' (.inl ⟨ao, xo, .inl ⟨rfl, rfl⟩, h'⟩)⟩
      · exact absurd (decide_eq_true rfl) e
    · refine ⟨_, rfl, rfl, _, rfl, ite2 (fun e => ?_) (fun e => ?_)⟩
      · exact absurd e (by decide +kernel)
      refine ⟨_, rfl, rfl, _, rfl, ite2 (fun e => ?_) (fun e => ?_)⟩
      · exact absurd e (by decide +kernel)
      refine ⟨_, rfl, by show 2 ≤ sizeLine; decide, fun tt nt => ⟨tt, _, rfl, .inr (SqT.of upd_same), rfl, rfl, _, rfl, ite2 (fun e => ?_) (fun e => ?_)⟩⟩
      · have s1 := same_upd (o := .tup [.str (Str.ofString "name"), .str (Str.ofString "order")]) nt
        refine ⟨.ref a, rfl, _, rfl, .str z, rfl, a, _, z, t, ao, ap, ag, ab, xo, xp, xg, xb, rfl, T.same s1, .inl ⟨rfl, h⟩, fun H' ⟨Ha, kk, sa, hkk, sb⟩ => q H' (.inl ⟨ap, xp, .inr (.inl ⟨rfl, rfl⟩), Ha, kk, s1.trans sa, hkk, sb⟩)⟩
      · exact absurd (by decide +kernel) e
    · refine ⟨_, rfl, rfl, _, rfl, ite2 (fun e => ?_) (fun e => ?_)⟩
      · exact absurd e (by decide +kernel)
      refine ⟨_, rfl, rfl, _, rfl, ite2 (fun e => ?_) (fun e => ?_)⟩
      · exact absurd e (by decide +kernel)
      refine ⟨_, rfl, by show 2 ≤ sizeLine; decide, fun tt nt => ⟨tt, _, rfl, .inr (SqT.of upd_same), rfl, rfl, _, rfl, ite2 (fun e => ?_) (fun e => ?_)⟩⟩
      · have s1 := same_upd (o := .tup [.str (Str.ofString "name"), .str (Str.ofString "order")]) nt
        refine ⟨.ref a, rfl, _, rfl, .str z, rfl, a, _, z, t, ao, ap, ag, ab, xo, xp, xg, xb, rfl, T.same s1, .inr ⟨rfl, h⟩, fun H' ⟨Ha, kk, sa, hkk, sb⟩ => q H' (.inl ⟨ap, xp, .inr (.inl ⟨rfl, rfl⟩), Ha, kk, s1.trans sa, hkk, sb⟩)⟩
      · exact absurd (by decide +kernel) e
    · refine ⟨_, rfl, rfl, _, rfl, ite2 (fun e => ?_) (fun e => ?_)⟩
      · exact absurd e (by decide +kernel)
      refine ⟨_, rfl, rfl, _, rfl, ite2 (fun e => ?_) (fun e => ?_)⟩
      · exact absurd e (by decide +kernel)
      refine ⟨_, rfl, by show 2 ≤ sizeLine; decide, fun tt nt => ⟨tt, _, rfl, .inr (SqT.of upd_same), rfl, rfl, _, rfl, ite2 (fun e => ?_) (fun e => ?_)⟩⟩
      · exact absurd e (by decide +kernel)
      have s1 := same_upd (o := .tup [.str (Str.ofString "name"), .str (Str.ofString "order")]) nt
      have T1 := T.same s1
      revert s1 T1
      generalize upd H tt (.tup [.str (Str.ofString "name"), .str (Str.ofString "order")]) = H1
      intro s1 T1
      refine ⟨_, rfl, rfl, _, rfl, ite2 (fun e => ?_) (fun e => ?_)⟩
      · unfold bothC at h
        split at h
        · rename_i hb
          cases h
          obtain ⟨hb1, hb2⟩ := hb
          have xp0 : 0 < xp.length := by rw [T.hp.1]; exact hb1
          have xb0 : 0 < xb.length := by rw [T.hl]; exact hb2
          have np : decide ((xp.map V.ref).length = 0) = false := by rw [List.length_map]; exact decide_eq_false (by omega)
          have nb : decide ((xb.map V.ref).length = 0) = false := by rw [List.length_map]; exact decide_eq_false (by omega)
          have ep : (xp.map V.ref).isEmpty = false := by
            cases xp with
            | nil => cases xp0
            | cons _ _ => rfl
          have eb : (xb.map V.ref).isEmpty = false := by
            cases xb with
            | nil => cases xb0
            | cons _ _ => rfl
          refine ⟨.ref a, rfl, a, _, 2, .ref ap, rfl, rfl, SqL.of T1.ea, rfl, by show 0 ≤ sizeLine; decide, fun p0 n0 => ⟨ap, p0, _, rfl, rfl, same_upd n0 _ _ T1.ep, upd_same, true, by simp [ep], ?_⟩⟩
          have s2 := s1.trans (same_upd (o := .lst []) n0)
          have T2 := T.same s2
          revert s2 T2
          generalize upd H1 p0 (.lst []) = H2
          intro s2 T2
          refine ⟨.ref a, rfl, a, _, 4, .ref ab, rfl, rfl, SqL.of T2.ea, rfl, by show 0 ≤ sizeLine; decide, fun p1 n1 => ⟨ab, p1, _, rfl, rfl, same_upd n1 _ _ T2.eb, upd_same, true, by simp [eb], ?_⟩⟩
          have s3 := s2.trans (same_upd (o := .lst []) n1)
          have T3 := T.same s3
          revert s3 T3
          generalize upd H2 p1 (.lst []) = H3
          intro s3 T3
          refine ⟨.str t.name, rfl, .ref a, rfl, a, _, 0, .str t.name, rfl, rfl, SqL.of T3.ea, rfl, rfl, ?_⟩
          refine ⟨by show 0 ≤ sizeLine; decide, fun e0 ne0 => ?_⟩
          have nae : a ≠ e0 := ne_of_none T3.ea ne0
          refine ⟨.ref a, rfl, a, _, 2, 2, rfl, rfl, same_upd ne0 _ _ T3.ea, rfl, ?_⟩
          refine ⟨_, rfl, ?_⟩
          rw [decide_eq_true rfl]
          exact q _ (.inr ⟨xp0, H3, e0, s3, ne0, Same.refl _⟩)
        · cases h
      · exact absurd (decide_eq_true rfl) e
    · refine ⟨_, rfl, rfl, _, rfl, ite2 (fun e => ?_) (fun e => ?_)⟩
      · exact absurd e (by decide +kernel)
      refine ⟨_, rfl, rfl, _, rfl, ite2 (fun e => ?_) (fun e => ?_)⟩
      · exact absurd e (by decide +kernel)
      refine ⟨_, rfl, by show 2 ≤ sizeLine; decide, fun tt nt => ⟨tt, _, rfl, .inr (SqT.of upd_same), rfl, rfl, _, rfl, ite2 (fun e => ?_) (fun e => ?_)⟩⟩
      · exact absurd e (by decide +kernel)
      have s1 := same_upd (o := .tup [.str (Str.ofString "name"), .str (Str.ofString "order")]) nt
      refine ⟨_, rfl, rfl, _, rfl, ite2 (fun e => ?_) (fun e => ?_)⟩
      · exact absurd e (by decide +kernel)
      refine ⟨_, rfl, rfl, _, rfl, ite2 (fun e => ?_) (fun e => ?_)⟩
      · refine ⟨.ref a, rfl, .str z, rfl, a, z, t, ao, ap, ag, ab, xo, xp, xg, xb, rfl, T.same s1, h, fun H' ⟨Ha, kk, sa, hkk, sb⟩ => q H' (.inl ⟨ag, xg, .inr (.inr (.inl ⟨rfl, rfl⟩)), Ha, kk, s1.trans sa, hkk, sb⟩)⟩
      · exact absurd (decide_eq_true rfl) e
    · obtain ⟨i, j, hij, hi, hj⟩ := rep_two h
      refine ⟨_, rfl, rfl, _, rfl, ite2 (fun e => ?_) (fun e => ?_)⟩
      · exact absurd e (by decide +kernel)
      refine ⟨_, rfl, rfl, _, rfl, ite2 (fun e => ?_) (fun e => ?_)⟩
      · exact absurd e (by decide +kernel)
      refine ⟨_, rfl, by show 2 ≤ sizeLine; decide, fun tt nt => ⟨tt, _, rfl, .inr (SqT.of upd_same), rfl, rfl, _, rfl, ite2 (fun e => ?_) (fun e => ?_)⟩⟩
      · exact absurd e (by decide +kernel)
      have s1 := same_upd (o := .tup [.str (Str.ofString "name"), .str (Str.ofString "order")]) nt
      have T1 := T.same s1
      refine ⟨_, rfl, rfl, _, rfl, ite2 (fun e => ?_) (fun e => ?_)⟩
      · exact absurd e (by decide +kernel)
      refine ⟨_, rfl, rfl, _, rfl, ite2 (fun e => ?_) (fun e => ?_)⟩
      · exact absurd e (by decide +kernel)
      refine ⟨_, rfl, rfl, true, congrArg V.bl (decide_eq_true rfl), ?_⟩
      refine ⟨.ref a, rfl, a, _, 4, .ref ab, rfl, rfl, SqL.of T1.ea, rfl, .str z, rfl, ab, z, 0, i, j, xb, _, rfl, T1.eb, T1.kyB, by rw [List.length_map]; omega, by omega, hij, hi, hj, fun H' ⟨Ha, kk, sa, hkk, sb⟩ => q H' (.inl ⟨ab, xb, .inr (.inr (.inr ⟨rfl, rfl⟩)), Ha, kk, s1.trans sa, hkk, sb⟩)⟩
end
end WB

set_option Elab.async false
set_option linter.all false
set_option maxRecDepth 100000
set_option maxHeartbeats 4000000
namespace WB
open PySem PySem.Spec PyProof.Rows L2 WG
open TL (tl)
abbrev st_at : Stmt := topS 82
theorem sc_at : FnScope ["_law_tree_here", "_law_path", "_law_name_here", "_law_some", "_law_below"] ["_law_tree_here", "_law_path"] (defScope st_at) := ⟨rfl, rfl, rfl, by decide +kernel, rfl, by decide +kernel, by decide +kernel⟩
theorem cut_tail (v : V) (xs : List V) : cutV (v :: xs) (some 1) none = xs := by
  unfold cutV
  have h1 : HT.sIx (v :: xs).length 0 (some 1) = 1 := by
    rw [show HT.sIx (v :: xs).length 0 (some 1) = min 1 (v :: xs).length from HT.sIx_nat (v :: xs).length 0 1, List.length_cons]
    omega
  rw [h1, HT.sIx_none, List.drop_succ_cons, List.drop_zero, List.length_cons, Nat.add_sub_cancel, List.take_length]
section
variable {P : Program} {w : World} {K : PySem.W.Frag} {mg : Str → Option Value} {base : Heap}
def spAtL : Sp := fun vs H Q _ => ∃ (a c l : Addr) (n : Str) (q : List Str), vs = [.ref a, .ref l] ∧ H l = some (.lst ((n :: q).map V.str)) ∧ Dn H q a c ∧ ∀ H', Same H H' → Q (.ref c) H'
theorem ok_at {f : Addr} {fd : FuncData} {k : Nat} (F : Fun K "_law_at" "_law_at" st_at f fd) (m_len : mg "len" = none) : FnOk P w K mg base CX0 (k + 1) f fd ["_law_tree_here", "_law_path"] spAtL := by
  refine F.ok sc_at (fun vs H Q E h => ?_) (fun cdv A outer s H vs Q E hr h => ?_)
  · obtain ⟨a, c, l, n, q, rfl, _⟩ := h
    rfl
  · obtain ⟨a, c, l, n0, qs, rfl, el, dn, q⟩ := h
    have sl : sizeLine = 16777216 := sizeLine_eq
    refine ⟨_, pss_cons (ps_for PassesOwn.never rfl (pi_list (pe_slice sl_list (pv 1) (po_some pe_int) po_none)) (pg_name (i := 2) sc_at.nd rfl (Or.inr rfl)) (pss_cons (ps_setLc (i := 3) (own := [("_law_below", 4)]) (g := gName 4)  rfl sc_at.nd rfl rfl (sw_true rfl rfl rfl (by decide +kernel)) (pi_list (pe_ix ix_list (pv 0) pe_int (fun _ _ => rfl))) (blkOk_by (N := ["_law_tree_here", "_law_path", "_law_name_here", "_law_some", "_law_below"]) (sc := defScope st_at) (by decide +kernel)) (fun _ _ _ _ _ => (pg_name (i := 4) sc_at.nd rfl (Or.inl rfl))) (fun _ _ _ _ _ => pts_one (pt_cmpR op_eq (pe_ix (r := rIxL K) ix_list (pv 4) pe_int (fun _ _ => rfl)) (pv 2) (nomark _))) (fun _ _ _ _ _ => (pv 4)))
      (pss_cons (ps_if (pt_cmpR op_ne (pe_callB call_len_seq (by rfl) m_len PySem.boot_len (pa_cons (pv 3) pa_nil)) pe_int (nomark _)) (pss_one (ps_ret pe_non)) pss_nil)
      (pss_one (ps_set (i := 0) sc_at.nd rfl (.inl rfl) (pe_ix ix_list (pv 3) pe_int (fun _ _ => rfl)))))))
      (pss_one (ps_ret (pv 0))), ?_⟩
    refine ⟨.ref l, rfl, 1, rfl, l, _, rfl, SqL.of el, fun L nL => ?_⟩
    rw [show cutV ((n0 :: qs).map V.str) (some 1) none = qs.map V.str from cut_tail _ _]
    have s1 := same_upd (o := .lst (qs.map V.str)) nL
    have e1 : (upd H L (.lst (qs.map V.str))) L = some (.lst (qs.map V.str)) := upd_same
    revert s1 e1
    generalize upd H L (.lst (qs.map V.str)) = H1
    intro s1 e1
    refine ⟨L, rfl, ⟨_, SqL.of e1⟩, ?_⟩
    refine for_list (K := K) (a := L) (xs := qs.map V.str) (fun i σ Hc => Same H Hc ∧ Hc L = some (.lst (qs.map V.str)) ∧ ∃ (ai : Addr) (x2 x3 x4 : Option V), Dn H (qs.drop i) ai c ∧ σ = [some (.ref ai), some (.ref l), x2, x3, x4])
      ⟨s1, e1, a, none, none, none, by rw [List.drop_zero]; exact dn, rfl⟩ (fun i σ Hc _ h => SqL.of h.2.1) ?_ ?_
    · rintro i v σ Hc hv ⟨sc, eL, ai, x2, x3, x4, dni, rfl⟩
      rw [List.getElem?_map] at hv
      obtain ⟨y, hy, rfl⟩ := Option.map_eq_some_iff.mp hv
      rw [drop_at hy] at dni
      cases dni with
      | @cons _ _ _ b _ ab v0 v1 v2 v3 xs ns i0 ea eb hn hb nb un dnb =>
        refine ⟨.ref ai, rfl, ai, _, 4, .ref ab, rfl, rfl, SqL.of (sc _ _ ea), rfl, ab, rfl, ⟨_, SqL.of (sc _ _ eb)⟩, fun D nD => ?_⟩
        refine lc_list (K := K) (a := ab) (xs := xs.map V.ref) (fun j He => Same Hc He ∧ He D = some (.lst (if j ≤ i0 then [] else [.ref b]))) ⟨same_upd nD, by rw [upd_same, if_pos (Nat.zero_le _)]⟩ (fun j He _ h => SqL.of (h.1 _ _ (sc _ _ eb))) (fun j v He hv ⟨se, eD⟩ => ?_) (fun H2 ⟨s2, eD⟩ => ?_)
        · rw [List.getElem?_map] at hv
          obtain ⟨x, hx, rfl⟩ := Option.map_eq_some_iff.mp hv
          obtain ⟨m, hm, vs, ex⟩ := hn.2 j x hx
          refine ⟨rfl, .ref x, rfl, x, _, 0, .str m, rfl, rfl, SqL.of (se _ _ (sc _ _ ex)), atI_nat (j := 0) rfl, .str y, rfl, rfl, _, rfl, ite2 (fun e => ?_) (fun e => ?_)⟩
          · have hmy : m = y := V.str.inj (of_decide_eq_true e)
            have hj : j = i0 := un j (by rw [hm, hmy])
            subst hj
            rw [hb] at hx
            cases hx
            rw [if_pos (Nat.le_refl _)] at eD
            refine ⟨.ref b, rfl, _, eD, by show 0 < _; omega, fun b' u e => ?_, by rw [upd_same, if_neg (by omega)]; rfl⟩
            rw [upd_ne (ne_of_none e nD)]
            exact se _ _ e
          · have hj : j ≠ i0 := fun z => e (decide_eq_true (by
              rw [z, nb] at hm
              rw [Option.some.inj hm]))
            refine ⟨se, ?_⟩
            rw [eD]
            by_cases c1 : j ≤ i0
            · rw [if_pos c1, if_pos (by omega)]
            · rw [if_neg c1, if_neg (by omega)]
        have hlt : ¬ xs.length ≤ i0 := by
          have := (List.getElem?_eq_some_iff.mp hb).1
          omega
        rw [List.length_map, if_neg hlt] at eD
        refine ⟨.ref D, rfl, D, _, rfl, .inl (SqL.of eD), rfl, _, rfl, ite2 (fun e => ?_) (fun e => ?_)⟩
        · exact absurd e (by show ¬ (!decide (V.int (1 : Nat) = V.int 1)) = true; decide)
        · exact ⟨.ref D, rfl, D, _, 0, .ref b, rfl, rfl, SqL.of eD, rfl, sc.trans s2, s2 _ _ eL, b, _, _, _, dnb, rfl⟩
    · rintro σ Hc ⟨sc, eL, ai, x2, x3, x4, dni, rfl⟩
      rw [List.length_map, List.drop_length] at dni
      cases dni
      exact ⟨_, rfl, q _ sc⟩
end
end WB

set_option Elab.async false
set_option linter.all false
set_option maxRecDepth 100000
set_option maxHeartbeats 4000000
namespace WB
open PySem PySem.Spec PyProof.Rows L2 WG
open TL (tl)
abbrev st_mended : Stmt := topS 83
theorem sc_mended : FnScope ["_law_tree_here", "_law_told", "_law_path", "_law_kind", "_law_who", "_law_home", "_law_below"] ["_law_tree_here", "_law_told"] (defScope st_mended) := ⟨rfl, rfl, rfl, by decide +kernel, rfl, by decide +kernel, by decide +kernel⟩
/-! ### what a change leaves -/
theorem Less.len {H H' : Hp} (L : Less H H') {l : Addr} {xs : List Addr} (e : H l = some (.lst (xs.map V.ref))) : lenL H' l ≤ lenL H l := by
  obtain ⟨ys, e1, s⟩ := L.ls _ _ e
  rw [lenL_of e, lenL_of e1]
  exact s.length_le
theorem tx_node {H H' : Hp} {l x : Addr} {xs : List Addr} {v : Str} {r : List V} {o : HO} (el : H l = some (.lst (xs.map V.ref))) (e : H x = some (.lst (V.str v :: r))) : (upd H l o) x = some (.lst (V.str v :: r)) := by
  rw [upd_ne (fun z => by
    rw [z, el] at e
    cases xs <;> cases e)]
  exact e
theorem chg_ok {κ : Addr → Rl} {H H' : Hp} {d r u : Nat} {c : Addr} {t : Ct} {ao ap ag ab : Addr} {xo xp xg xb : List Addr} (th : TH 0 κ H) (kc : κ c = .node r u) (T : TrO H d c t ao ap ag ab xo xp xg xb) (h : Chg H c t ao ap ag ab xo xp xg xb H') :
    ∃ κ', TH 0 κ' H' ∧ (∀ b, H b ≠ none → κ' b = κ b) ∧ (∀ b o, κ b = .no → H b = some o → H' b = some o) ∧ (∀ b r u, κ' b = .node r u → κ b = .node r u) ∧ Less H H' ∧ tot H' c < tot H c := by
  obtain ⟨n, ao', ap', ag', ab', r', w', xb', ws, _, e1, hn, k1, k2, k3, k4, _⟩ := th.nd kc
  obtain ⟨_, rfl, rfl, rfl, rfl⟩ := same_node T.ea e1
  rcases h with ⟨l, xs, hl, Ha, k, sa, hk, sb⟩ | ⟨hp0, Ha, e, sa, ne, sb⟩
  · have el : H l = some (.lst (xs.map V.ref)) := by
      rcases hl with ⟨rfl, rfl⟩ | ⟨rfl, rfl⟩ | ⟨rfl, rfl⟩ | ⟨rfl, rfl⟩
      · exact T.eo
      · exact T.ep
      · exact T.eg
      · exact T.eb
    have kl : κ l = .ops ∨ κ l = .pls ∨ κ l = .grs ∨ ∃ r u, κ l = .bel r u := by
      rcases hl with ⟨rfl, rfl⟩ | ⟨rfl, rfl⟩ | ⟨rfl, rfl⟩ | ⟨rfl, rfl⟩
      · exact .inl k1
      · exact .inr (.inl k2)
      · exact .inr (.inr (.inl k3))
      · exact .inr (.inr (.inr ⟨_, _, k4⟩))
    have ela := sa _ _ el
    have L : Less H H' := (Less.of sa).trans ((Less.pop ela k).trans (Less.of sb))
    refine ⟨κ, ((th.same sa).pop ela kl k).same sb, fun _ _ => rfl, fun b o hb eb => ?_, fun _ _ _ h => h, L, ?_⟩
    · refine sb _ _ ?_
      rw [upd_ne (fun z => by
        rw [← z, hb] at kl
        rcases kl with h | h | h | ⟨_, _, h⟩ <;> cases h)]
      exact sa _ _ eb
    · have ec := sb _ _ (tx_node (H' := H') (o := .lst ((xs.map V.ref).eraseIdx k)) ela (sa _ _ T.ea))
      have e2 : H' l = some (.lst ((xs.eraseIdx k).map V.ref)) := sb _ _ (by rw [upd_same, er_map])
      have h1 : lenL H' l < lenL H l := by
        rw [lenL_of el, lenL_of e2, List.length_eraseIdx, if_pos hk]
        omega
      have o1 := L.len T.eo
      have o2 := L.len T.ep
      have o3 := L.len T.eg
      have o4 := L.len T.eb
      rw [tot_of T.ea, tot_of ec]
      rcases hl with ⟨rfl, rfl⟩ | ⟨rfl, rfl⟩ | ⟨rfl, rfl⟩ | ⟨rfl, rfl⟩ <;> omega
  · have eca := sa _ _ T.ea
    have nce : c ≠ e := ne_of_none eca ne
    have tha := th.same sa
    have th1 : TH 0 κ (upd Ha e (.lst [])) := tha.same (same_upd ne)
    have ke : κ e = .no := tha.fresh ne
    have th2 : TH 0 (put κ e .pls) (upd Ha e (.lst [])) := th1.put ke ⟨[], upd_same, by decide, fun x hx => by cases hx⟩
    have kc2 : put κ e .pls c = .node r u := by rw [put_ne nce]; exact kc
    have m : ∀ {x : Addr} {s : Rl}, κ x = s → s ≠ .no → put κ e .pls x = s := fun {x s} h1 h2 => by
      rw [put_ne (fun z => h2 (by rw [← h1, z]; exact ke))]
      exact h1
    have th3 : TH 0 (put κ e .pls) (upd (upd Ha e (.lst [])) c (.lst [.str t.name, .ref ao, .ref e, .ref ag, .ref ab])) := th2.set (by
      rw [kc2]
      obtain ⟨n', ao', ap', ag', ab', r'', w'', _, _, hh, e1', _, k1', _, k3', k4', _⟩ := th.nd kc
      obtain ⟨_, rfl, rfl, rfl, rfl⟩ := same_node T.ea e1'
      exact ⟨t.name, ao, e, ag, ab, r'', w'', hh, upd_same, T.hn, m k1' (by simp), put_same, m k3' (by simp), m k4' (by simp)⟩)
    have ee : H' e = some (.lst []) := sb _ _ (by rw [upd_ne nce.symm, upd_same])
    have ec : H' c = some (.lst [.str t.name, .ref ao, .ref e, .ref ag, .ref ab]) := sb _ _ upd_same
    have sm : ∀ b o, b ≠ c → H b = some o → H' b = some o := fun b o hb eb => by
      refine sb _ _ ?_
      rw [upd_ne hb]
      exact same_upd ne _ _ (sa _ _ eb)
    have L : Less H H' := by
      refine ⟨fun b n bo bp bg bb eb => ?_, fun b xs eb => ?_⟩
      · by_cases z : b = c
        · subst z
          obtain ⟨rfl, rfl, rfl, rfl, rfl⟩ := same_node T.ea eb
          exact ⟨e, ec, .inr ee⟩
        · exact ⟨bp, sm _ _ z eb, .inl rfl⟩
      · refine ⟨xs, sm _ _ (fun z => ?_) eb, List.Sublist.refl _⟩
        rw [z, T.ea] at eb
        cases xs <;> cases eb
    refine ⟨put κ e .pls, th3.same sb, fun b hb => put_ne (fun z => ?_), fun b o hb eb => sm b o (fun z => by rw [z, kc] at hb; cases hb) eb, fun b r u hb => ?_, L, ?_⟩
    · rw [z] at hb
      cases eh : H e with
      | none => exact hb eh
      | some o =>
        rw [sa _ _ eh] at ne
        cases ne
    · by_cases z : b = e
      · rw [z, put_same] at hb
        cases hb
      · rw [put_ne z] at hb
        exact hb
    · have o1 := L.len T.eo
      have o3 := L.len T.eg
      have o4 := L.len T.eb
      have o2 : lenL H' e = 0 := lenL_of (xs := []) ee
      have o5 : lenL H ap = xp.length := lenL_of T.ep
      rw [tot_of T.ea, tot_of ec]
      omega
theorem cut_init (v : V) (xs : List V) : cutV (xs ++ [v]) none (some (-1)) = xs := by
  unfold cutV
  have h1 : HT.sIx (xs ++ [v]).length (xs ++ [v]).length (some (-1)) = xs.length := by
    show (if (-1 : Int) < 0 then (-1 + (((xs ++ [v]).length : Nat) : Int)).toNat else min (-1 : Int).toNat (xs ++ [v]).length) = _
    rw [if_pos (by decide), List.length_append, List.length_singleton]
    omega
  rw [h1, HT.sIx_none, List.drop_zero, Nat.sub_zero, List.take_left']
  rfl
/-! ### lists of texts as data -/
def txD (p : List Str) : List PyData := p.map PyData.str
theorem dp_tx {K : PySem.W.Frag} {H : Hp} : ∀ p : List Str, DpAll K H (p.map V.str) (txD p)
  | [] => .nil
  | z :: r => .cons (.str z) (dp_tx r)
theorem tx_lay : ∀ {p : List Str}, (∀ n ∈ p, P8 n) → PyData.canLayAll0 (txD p) = true ∧ PyData.depthAll (txD p) ≤ 0
  | [], _ => ⟨by simp [txD, PyData.canLayAll0], by simp [txD, PyData.depthAll]⟩
  | z :: r, h => by
    obtain ⟨h1, h2⟩ := tx_lay (p := r) fun n hn => h n (List.mem_cons_of_mem _ hn)
    have h3 := h z List.mem_cons_self
    unfold txD at h1 h2 ⊢
    refine ⟨?_, ?_⟩
    · simp [PyData.canLayAll0, PyData.canLay0, strOk_of h3, h1]
    · simp only [List.map_cons, PyData.depthAll, PyData.depth]
      omega
theorem txl_lay {p : List Str} (h : ∀ n ∈ p, P8 n) : (PyData.list (txD p)).canLay0 = true := by
  simp [PyData.canLay0, (tx_lay h).1]
theorem txl_shaped {p : List Str} (h : ∀ n ∈ p, P8 n) : SeqAt.shaped (.list (txD p)) = true := by
  unfold SeqAt.shaped
  have hd : (PyData.list (txD p)).depth ≤ 64 := by
    have := (tx_lay h).2
    simp only [PyData.depth]
    omega
  rw [txl_lay h, decide_eq_true hd]
  rfl
theorem txl_eqv {p : List Str} (h : ∀ n ∈ p, P8 n) : PyData.eqv (.list (txD p)) (.list (txD p)) = true := SeqAt.eqv_refl _ (txl_lay h)
theorem dp_l {K : PySem.W.Frag} {H : Hp} {l : Addr} {p : List Str} (e : H l = some (.lst (p.map V.str))) : Dp K H (.ref l) (.list (txD p)) := .lst (SqL.of e) (dp_tx p)
section
variable {P : Program} {w : World} {K : PySem.W.Frag} {mg : Str → Option Value} {base : Heap}
/-- what a mending leaves -/
structure Mded (κ : Addr → Rl) (H : Hp) (a : Addr) (t : Ct) (κ' : Addr → Rl) (H' : Hp) : Prop where
  th : TH 0 κ' H'
  k : ∀ b, H b ≠ none → κ' b = κ b
  fr : ∀ b o, κ b = .no → H b = some o → H' b = some o
  nd : ∀ b r u, κ' b = .node r u → κ b = .node r u
  sz : ∀ (d' : Nat) (t' : Ct), TrAt H' d' a t' → szC t' < szC t
theorem mded_of {κ : Addr → Rl} {H H1 H' : Hp} {d e R W : Nat} {a c : Addr} {q : List Str} {t u : Ct} {ao ap ag ab : Addr} {xo xp xg xb : List Addr} (th : TH 0 κ H) (ka : κ a = .node R W) (tr : TrAt H d a t) (s : Same H H1) (dn : Dn H q a c) (T : TrO H1 e c u ao ap ag ab xo xp xg xb) (h : Chg H1 c u ao ap ag ab xo xp xg xb H') : ∃ κ', Mded κ H a t κ' H' := by
  obtain ⟨r, w, kc⟩ := dn.node th R W ka
  obtain ⟨κ', h1, h2, h3, h4, L, st⟩ := chg_ok (th.same s) kc T h
  refine ⟨κ', h1, fun b hb => h2 b ?_, fun b o hb eb => h3 b o hb (s _ _ eb), h4, fun d' t' tr' => (dn.same s).lt L st _ _ _ _ (tr.same s) tr'⟩
  cases e : H b with
  | none => exact absurd e hb
  | some o => exact some_al (s _ _ e)
def spMended : Sp := fun vs H Q _ => ∃ (a r l : Addr) (t : Ct) (κ : Addr → Rl) (R W d : Nat) (p : List Str) (k z : Str), vs = [.ref a, .ref r] ∧ TH 0 κ H ∧ κ a = .node R W ∧ TrAt H d a t ∧ d ≤ 60 ∧ clashIn [] t = some (p, k, z) ∧ H r = some (.tup [.ref l, .str k, .str z]) ∧ H l = some (.lst (p.map V.str)) ∧ p.length ≤ 1000 ∧
  ∀ H' κ', Mded κ H a t κ' H' → Q (.bl true) H'
theorem ok_mended {f fA fT fL : Addr} {fd fdA fdT fdL : FuncData} {k : Nat} (F : Fun K "_law_mended" "_law_mended" st_mended f fd) (D_at : Df K mg "_law_at" st_at ["_law_tree_here", "_law_path"] fA fdA) (D_last : Df K mg "_law_last" st_last ["_law_things", "_law_who", "_law_at_here"] fL fdL) (D_taken_out : Df K mg "_law_taken_out" st_taken_out ["_law_tree_here", "_law_kind", "_law_who"] fT fdT)
    (G_taken : ∀ d, FnOk P w K mg base CX0 (k + 3) fT fdT ["_law_tree_here", "_law_kind", "_law_who"] (spTaken d)) (m_len : mg "len" = none) (m_enumerate : mg "enumerate" = none) :
    FnOk P w K mg base CX0 (k + 4) f fd ["_law_tree_here", "_law_told"] spMended := by
  have G_at : FnOk P w K mg base CX0 (k + 3) fA fdA ["_law_tree_here", "_law_path"] spAtL := (ok_at (k := k) D_at.F m_len).mono (by omega)
  have G_last : FnOk P w K mg base CX0 (k + 3) fL fdL ["_law_things", "_law_who", "_law_at_here"] spLast := (ok_last (k := k) D_last.F m_enumerate).mono (by omega)
  have G_taken_out : FnOk P w K mg base CX0 (k + 3) fT fdT ["_law_tree_here", "_law_kind", "_law_who"] (upTo 60 spTaken) := fn_up fun d _ => G_taken d
  refine F.ok sc_mended (fun vs H Q E h => ?_) (fun cdv A outer s H vs Q E hr h => ?_)
  · obtain ⟨a, r, l, t, κ, R, W, d, p, k, z, rfl, _⟩ := h
    rfl
  · obtain ⟨a, r, l, t, κ, R, W, d, p, kd, z, rfl, th, ka, tr, ld, hc, er, el, lp, q⟩ := h
    have sl : sizeLine = 16777216 := sizeLine_eq
    obtain ⟨qs, c, e0, u, hp, dn, tu, how, le0⟩ := clash_dn d a t [] p kd z tr hc
    have hp : p = t.name :: qs := hp
    subst hp
    obtain ⟨ao, ap, ag, ab, xo, xp, xg, xb, T⟩ := tr.op
    have p8 : ∀ n ∈ [t.name], P8 n := fun n hn => by
      rw [List.mem_singleton.mp hn]
      exact (nm_tx T.hn).pl
    refine ⟨_, pss_cons (ps_asg (pv 1) (pg_tup rfl (pgs_cons (pg_name (i := 2) sc_mended.nd rfl (Or.inl rfl)) (pgs_cons (pg_name (i := 3) sc_mended.nd rfl (Or.inl rfl)) (pgs_cons (pg_name (i := 4) sc_mended.nd rfl (Or.inl rfl)) pgs_nil)))))
      (pss_cons (ps_if (pt_cmpR (op_neD hr.units) (pe_slice sl_list (pv 2) po_none (po_some pe_int)) (pe_lst (pa_cons (pe_ix ix_list (pv 0) pe_int (fun _ _ => rfl)) pa_nil)) (nomark _)) (pss_one (ps_ret pe_bl)) pss_nil)
      (pss_cons (ps_if (pt_cmpR op_eq (pv 3) pe_str (nomark _)) (pss_cons (ps_set (i := 5) sc_mended.nd rfl (.inl rfl) (pe_call G_at hr (by rfl) D_at.g D_at.F.kp D_at.b .nil pass0 (pa_cons (pv 0) (pa_cons (pe_slice sl_list (pv 2) po_none (po_some (pe_un un_neg pe_int))) pa_nil))))
      (pss_cons (ps_if (PW.pt (pw_or (pt_cmpR op_isN (pv 5) pe_non (nomark _)) (pw_or (pt_cmpR op_lt (pe_callB call_len_seq (by rfl) m_len PySem.boot_len (pa_cons (pv 2) pa_nil)) pe_int (nomark _)) (pw_or (pt_cmpR op_ne (pv 4) (pe_ix ix_list (pv 2) (pe_un un_neg pe_int) (fun _ _ => rfl)) (nomark _)) (pw_or1 (pt_cmpR op_notIn_seq (pv 4) (pe_lc (own := [("_law_below", 6)]) (g := gName 6) (tt := tYes) rfl sc_mended.nd (pi_list (pe_ix ix_list (pv 5) pe_int (fun _ _ => rfl))) (blkOk_by (N := ["_law_tree_here", "_law_told", "_law_path", "_law_kind", "_law_who", "_law_home", "_law_below"]) (sc := defScope st_mended) (by decide +kernel)) (fun _ _ _ _ _ => (pg_name (i := 6) sc_mended.nd rfl (Or.inl rfl))) (fun _ _ _ _ _ => pts_nil) (fun _ _ _ _ _ => (pe_ix (r := rIxL K) ix_list (pv 6) pe_int (fun _ _ => rfl)))) (by rfl))))))) (pss_one (ps_ret pe_bl)) pss_nil)
      (pss_cons (ps_expr (pe_bm PySem.F.plainAttrs_list PySem.F.slot_list_pop PySem.F.type_list_pop mt_popAt (pe_ix ix_list (pv 5) pe_int (fun _ _ => rfl)) (pa_cons (pe_call G_last hr (by rfl) D_last.g D_last.F.kp D_last.b .nil pass0 (pa_cons (pe_ix ix_list (pv 5) pe_int (fun _ _ => rfl)) (pa_cons (pv 4) (pa_cons pe_int pa_nil)))) pa_nil)))
      (pss_one (ps_ret pe_bl))))) pss_nil)
      (pss_cons (ps_set (i := 5) sc_mended.nd rfl (.inl rfl) (pe_call G_at hr (by rfl) D_at.g D_at.F.kp D_at.b .nil pass0 (pa_cons (pv 0) (pa_cons (pv 2) pa_nil))))
      (pss_one (ps_ret (pe_and (pe_cmpR op_notN (pv 5) pe_non (nomark _)) (pe_one (pe_call G_taken_out hr (by rfl) D_taken_out.g D_taken_out.F.kp D_taken_out.b .nil pass0 (pa_cons (pv 5) (pa_cons (pv 3) (pa_cons (pv 4) pa_nil))))))))))), ?_⟩
    refine ⟨.ref r, rfl, r, _, rfl, SqT.of er, rfl, _, _, rfl, _, _, rfl, _, _, rfl, rfl, ?_⟩
    refine ⟨.ref l, rfl, _, rfl, l, _, rfl, SqL.of el, fun L nL => ?_⟩
    rw [show cutV ((t.name :: qs).map V.str) none (some 1) = [V.str t.name] from cutV_to ((t.name :: qs).map V.str) 1 (by simp)]
    have s1 := same_upd (o := .lst [.str t.name]) nL
    have e1 : (upd H L (.lst [.str t.name])) L = some (.lst (([t.name] : List Str).map V.str)) := upd_same
    revert s1 e1
    generalize upd H L (.lst [.str t.name]) = H1
    intro s1 e1
    refine ⟨.ref a, rfl, a, _, 0, .str t.name, rfl, rfl, SqL.of (s1 _ _ T.ea), rfl, by show 1 ≤ sizeLine; decide, fun M nM => ?_⟩
    have s2 := s1.trans (same_upd (o := .lst [.str t.name]) nM)
    have e2 : (upd H1 M (.lst [.str t.name])) M = some (.lst (([t.name] : List Str).map V.str)) := upd_same
    have e12 := same_upd (o := .lst [.str t.name]) nM _ _ e1
    revert s2 e2 e12
    generalize upd H1 M (.lst [.str t.name]) = H2
    intro s2 e2 e12
    refine ⟨_, _, dp_l e12, dp_l e2, txl_shaped p8, txl_shaped p8, _, rfl, ?_⟩
    rw [txl_eqv p8]
    -- deep?
    refine ⟨.str kd, rfl, rfl, _, rfl, ite2 (fun e => ?_) (fun e => ?_)⟩
    · have hkd := V.str.inj (of_decide_eq_true e)
      subst hkd
      obtain ⟨h4, hzu⟩ : 4 < (t.name :: qs).length ∧ z = u.name := by
        rcases own_some how with ⟨_, h1, h2⟩ | ⟨h, _⟩ | ⟨h, _⟩ | ⟨h, _⟩ | ⟨h, _⟩ | ⟨h, _⟩ | ⟨h, _⟩ | ⟨h, _⟩
        · exact ⟨h1, h2⟩
        all_goals exact absurd h (by decide +kernel)
      obtain ⟨q', n, hqs⟩ : ∃ q' n, qs = q' ++ [n] := by
        have hne : qs ≠ [] := fun z => by
          rw [z] at h4
          simp at h4
        exact ⟨qs.dropLast, qs.getLast hne, (List.dropLast_concat_getLast hne).symm⟩
      subst hqs
      obtain ⟨b, dn1, dn2⟩ := dn.snoc
      have hun : u.name = n := by
        obtain ⟨e5, u5, tr5, _, h5⟩ := dn.tr d t tr
        obtain ⟨_, _, _, _, _, _, _, _, U5⟩ := tr5.op
        obtain ⟨_, _, _, _, _, _, _, _, U⟩ := tu.op
        rw [← h5 n (by simp)]
        exact (same_node U.ea U5.ea).1
      obtain ⟨e6, ub, trb, _, _⟩ := dn1.tr d t tr
      obtain ⟨bo, bp, bg, bb, yo, yp, yg, yb, B⟩ := trb.op
      have hin : z ∈ ub.cs.map Ct.name := by
        cases dn2 with
        | @cons _ _ _ x0 _ ab0 v0 v1 v2 v3 xs ns i0 ea eb hn hb nb un dn' =>
          obtain ⟨_, rfl⟩ := kid_same B ea eb
          obtain ⟨m1, hm1, vs1, ex1⟩ := hn.2 _ _ hb
          obtain ⟨m2, hm2, vs2, ex2⟩ := B.names.2 _ _ hb
          rw [nb] at hm1
          cases hm1
          rw [ex1] at ex2
          have h7 := V.str.inj (List.cons.inj (HO.lst.inj (Option.some.inj ex2))).1
          rw [hzu, hun, h7]
          exact List.mem_of_getElem? hm2
      have epath : (t.name :: (q' ++ [n])).map V.str = (t.name :: q').map V.str ++ [V.str n] := by simp
      have hzn : z = n := by rw [hzu, hun]
      refine ⟨.ref a, rfl, .ref l, rfl, 1, rfl, _, rfl, l, _, rfl, SqL.of (s2 _ _ el), fun L2 nL2 => ?_⟩
      rw [show cutV ((t.name :: (q' ++ [n])).map V.str) none (some (-1)) = (t.name :: q').map V.str from by rw [epath]; exact cut_init _ _]
      have s3 := s2.trans (same_upd (o := .lst ((t.name :: q').map V.str)) nL2)
      have e3 : (upd H2 L2 (.lst ((t.name :: q').map V.str))) L2 = some (.lst ((t.name :: q').map V.str)) := upd_same
      revert s3 e3
      generalize upd H2 L2 (.lst ((t.name :: q').map V.str)) = H3
      intro s3 e3
      refine ⟨a, b, L2, t.name, q', rfl, e3, dn1.same s3, fun H4 s4 => ?_⟩
      have S4 := s3.trans s4
      have B4 := B.same S4
      have el4 := S4 _ _ el
      refine ⟨.ref b, rfl, rfl, _, rfl, ?_⟩
      refine ⟨.ref l, rfl, l, _, rfl, .inl (SqL.of el4), _, _, rfl, rfl, _, rfl, ite2 (fun e7 => ?_) (fun e7 => ?_)⟩
      · have e8 : ((((t.name :: (q' ++ [n])).map V.str).length : Nat) : Int) < 5 := of_decide_eq_true e7
        rw [List.length_map] at e8
        omega
      refine ⟨.str z, rfl, .ref l, rfl, 1, rfl, l, _, -1, .str n, rfl, rfl, SqL.of el4, by rw [epath]; exact atI_last _ _, rfl, _, rfl, ite2 (fun e7 => ?_) (fun e7 => ?_)⟩
      · rw [hzn, decide_eq_true rfl] at e7
        cases e7
      refine ⟨.str z, rfl, .ref b, rfl, b, _, 4, .ref bb, rfl, rfl, SqL.of B4.ea, rfl, bb, rfl, ⟨_, SqL.of B4.eb⟩, fun D nD => ?_⟩
      refine lc_list (K := K) (a := bb) (xs := yb.map V.ref) (fun i Hc => Same H4 Hc ∧ Hc D = some (.lst (((ub.cs.take i).map Ct.name).map V.str))) ⟨same_upd nD, upd_same⟩ (fun i Hc _ h => SqL.of (h.1 _ _ B4.eb)) (fun i v Hc hv ⟨sc, eD⟩ => ?_) (fun H5 ⟨s5, eD⟩ => ?_)
      · rw [List.getElem?_map] at hv
        obtain ⟨y, hy, rfl⟩ := Option.map_eq_some_iff.mp hv
        obtain ⟨m, hm, vs, ex⟩ := B4.names.2 i y hy
        rw [List.getElem?_map] at hm
        obtain ⟨cu, hcu, rfl⟩ := Option.map_eq_some_iff.mp hm
        have hi : i < ub.cs.length := (List.getElem?_eq_some_iff.mp hcu).1
        have lb := B.lb
        refine ⟨rfl, .ref y, rfl, y, _, 0, .str cu.name, rfl, rfl, SqL.of (sc _ _ ex), atI_nat (j := 0) rfl, _, eD, by rw [List.length_map, List.length_map, List.length_take]; omega, fun b' u' e' => ?_, ?_⟩
        · rw [upd_ne (ne_of_none e' nD)]
          exact sc _ _ e'
        · rw [upd_same, List.take_add_one, hcu, List.map_append, List.map_append]
          rfl
      rw [List.length_map, B.hl, List.take_length] at eD
      refine ⟨D, _, rfl, .inl (SqL.of eD), rfl, flat_strs _, _, rfl, ite2 (fun e7 => ?_) (fun e7 => ?_)⟩
      · rw [not_in hin] at e7
        cases e7
      have S5 := S4.trans s5
      have B5 := B.same S5
      obtain ⟨jm, hj1, hj2⟩ := last_at hin
      have hjm : jm < yb.length := by
        have := (List.getElem?_eq_some_iff.mp hj1).1
        rw [List.length_map] at this
        rw [B.hl]
        exact this
      have lyb : yb.length ≤ 8 := by rw [B.hl]; exact B.lb
      refine ⟨.ref b, rfl, b, _, 4, .ref bb, rfl, rfl, SqL.of B5.ea, rfl, Or.inl ⟨rfl, _, SqL.of B5.eb⟩, .ref b, rfl, b, _, 4, .ref bb, rfl, rfl, SqL.of B5.ea, rfl, .str z, rfl, bb, z, 0, jm, yb, _, rfl, B5.eb, B5.kyB, by rw [List.length_map, ← B.hl]; omega, by omega, hj1, hj2, fun H6 s6 => ?_⟩
      have S6 := S5.trans s6
      have B6 := B.same S6
      refine ⟨bb, _, jm, jm, _, rfl, rfl, B6.eb, by omega, by omega, by rw [List.length_map]; exact seqIx hjm, by rw [List.getElem?_map, List.getElem?_eq_getElem hjm]; rfl, ?_⟩
      obtain ⟨κ', md⟩ := mded_of th ka tr S6 dn1 B6 (.inl ⟨bb, yb, .inr (.inr (.inr ⟨rfl, rfl⟩)), H6, jm, Same.refl _, hjm, Same.refl _⟩)
      exact q _ κ' md
    · have htold : Told u kd z := by
        rcases own_some how with ⟨h, _⟩ | h
        · exact absurd (decide_eq_true (by rw [h])) e
        · exact h
      obtain ⟨co, cp, cg, cb, zo, zp, zg, zb, C⟩ := tu.op
      refine ⟨.ref a, rfl, .ref l, rfl, a, c, l, t.name, qs, rfl, s2 _ _ el, dn.same s2, fun H3 s3 => ?_⟩
      have S3 := s2.trans s3
      refine ⟨.ref c, rfl, rfl, _, rfl, ?_⟩
      refine ⟨.ref c, rfl, .str kd, rfl, .str z, rfl, e0, by omega, c, kd, z, u, co, cp, cg, cb, zo, zp, zg, zb, rfl, C.same S3, htold, fun H' ch => ?_⟩
      obtain ⟨κ', md⟩ := mded_of th ka tr S3 dn (C.same S3) ch
      exact q _ κ' md
end
end WB

set_option Elab.async false
set_option linter.all false
set_option maxRecDepth 100000
set_option maxHeartbeats 4000000
namespace WS
open PySem PySem.Spec PyProof.Rows L2
/-! ### a set of unlike texts, and how many there are -/
theorem any_in {xs : List Str} {y : Str} : xs.any (· == y) = true ↔ y ∈ xs := by
  rw [List.any_eq_true]
  exact ⟨fun ⟨x, hx, e⟩ => by rw [← beq_iff_eq.mp e]; exact hx, fun h => ⟨y, h, beq_self_eq_true y⟩⟩
theorem any_out {xs : List Str} {y : Str} (h : y ∉ xs) : xs.any (· == y) = false := by
  cases e : xs.any (· == y) with
  | false => rfl
  | true => exact absurd (any_in.mp e) h
theorem nodup_next {xs : List Str} (nd : xs.Nodup) {i : Nat} (h : i < xs.length) : xs[i] ∉ xs.take i := fun m => by
  obtain ⟨j, hj, e⟩ := List.mem_iff_getElem.mp m
  rw [List.length_take] at hj
  rw [List.getElem_take] at e
  have hji : j < i := by omega
  exact absurd e ((List.pairwise_iff_getElem.mp nd) j i (by omega) h hji)
section
variable {P : Program} {w : World} {A : Around} {Z : Result → Shared → Prop} {I : Addr} {fp wr : List Addr} {G : Array GenState → Array GenState → Prop} {n : Nat} {Pv : Nat → Value → Prop} {St : Nat → Shared → Prop}
theorem set_turns (W : WalksS P w A.in1 I fp wr G n Pv St) (S : Addr) (nS : S ∉ fp) (xs : List Str) (nd : xs.Nodup) (size : xs.length = n) (few : n + 1 < scanBound)
    (tells : ∀ i v, Pv i v → ∃ t, v = .str (xs.getD i Str.empty) t) : ∀ (left i : Nat) (s : Shared), n - i = left → i ≤ n → St i s → s.heap.SetOf (PySem.strKind P w) S (fun z => (xs.take i).any (· == z)) i →
    (∀ s', Moved (S :: wr) G s s' → s'.heap.SetOf (PySem.strKind P w) S (fun z => (xs.take n).any (· == z)) n → Z (.ok (.ret .none)) s') →
    codeAny (model P w) A (.builtin "set.update.loop" ⟨[.ref S, .ref I], []⟩) Z s := by
  have nSw : S ∉ wr := fun h => nS (W.sub _ h)
  have into : ∀ b ∈ wr, b ∈ S :: wr := fun b hb => List.mem_cons_of_mem _ hb
  intro left
  induction left with
  | zero =>
    intro i s hl hi st held fin
    obtain rfl : i = n := by omega
    refine codeAny_builtin PyProof.Rows.F.entry_set_update_loop ?_
    rw [Around.under_plainId PyProof.Rows.F.plain_set_update_loop _]
    show wpAny _ A.in1 (pyNext (.ref I) >>= _) _ _ s
    refine wpAny_bind (W.done s _ _ st fun t mv => ?_)
    show wpAny _ A.in1 (ret Value.none) _ _ t
    refine wpAny_pure (fin t (mv.mono into) ?_)
    obtain ⟨o, es, ep, tb, ho, more⟩ := held
    exact ⟨o, es, ep, tb, mv.heap S _ nSw ho, more⟩
  | succ left ih =>
    intro i s hl hi st held fin
    have lt : i < n := by omega
    have ltx : i < xs.length := by omega
    refine codeAny_builtin PyProof.Rows.F.entry_set_update_loop ?_
    rw [Around.under_plainId PyProof.Rows.F.plain_set_update_loop _]
    show wpAny _ A.in1 (pyNext (.ref I) >>= _) _ _ s
    refine wpAny_bind (W.item i s _ _ lt st fun v t hv st' mv => ?_)
    obtain ⟨tk, rfl⟩ := tells i v hv
    have held' : t.heap.SetOf (PySem.strKind P w) S (fun z => (xs.take i).any (· == z)) i := by
      obtain ⟨o, es, ep, tb, ho, more⟩ := held
      exact ⟨o, es, ep, tb, mv.heap S _ nSw ho, more⟩
    show wpAny _ A.in1 (holding [Value.str (xs.getD i Str.empty) tk] (setAdd S (.str (xs.getD i Str.empty) tk)) >>= _) _ _ t
    refine wpAny_bind (wpAny_holding ?_)
    unfold setAdd
    refine wpAny_holding (wpAny_bind ((PySem.strKind P w).pyHash (k := xs.getD i Str.empty) (strKind_is _ _ _ _) ?_))
    refine wpAny_setAddHashed_of (knd := PySem.strKind P w) (s := { t with toks := t.toks + 1 }) (strKind_is _ _ _ _) rfl held' (by omega) fun h' but held2 => ?_
    have ex : xs.getD i Str.empty = xs[i] := by rw [List.getD_eq_getElem?_getD, List.getElem?_eq_getElem ltx]; rfl
    have new := any_out (nodup_next nd ltx)
    rw [ex, new] at held2
    have held3 : h'.SetOf (PySem.strKind P w) S (fun z => (xs.take (i + 1)).any (· == z)) (i + 1) := by
      refine SetOf_congr held2 (fun z => ?_) (by simp)
      rw [List.take_add_one, List.getElem?_eq_getElem ltx, List.any_append]
      congr 1
      show decide (z = xs[i]) = (xs[i] == z || false)
      rw [Bool.or_false]
      by_cases e : z = xs[i]
      · rw [decide_eq_true e, e, beq_self_eq_true]
      · rw [decide_eq_false e]
        exact (beq_eq_false_iff_ne.mpr fun e' => e e'.symm).symm
    refine wpAny_pure ⟨plainId_quiet PyProof.Rows.F.plain_set_update_loop _, ih (i + 1) _ (by omega) lt (W.frame _ t _ _ st' (Nat.le_succ _) fun b hb o e => ?_) held3 fun t2 mv2 held4 => ?_⟩
    · rw [but.2 b (fun z : b = S => nS (by rw [← z]; exact hb))]
      exact e
    · refine fin t2 (Moved.trans W.gtrans ((mv.mono into).then_heap (Nat.le_succ _) fun b o hb e => ?_) mv2) held4
      rw [but.2 b (fun z : b = S => hb (by rw [z]; exact List.mem_cons_self))]
      exact e
end
section
variable {P : Program} {w : World} {A : Around} {E : Value → Shared → Prop} {s : Shared}
set_option maxHeartbeats 3200000 in
theorem set_of_list {l : Addr} {items : Array Value} {xs : List Str} {Q : Value → Shared → Prop} (calm : A.handled = none) (isl : s.heap.IsList l items) (are : StrsAre items.toList xs) (nd : xs.Nodup) (few : xs.length + 1 < scanBound)
    (fin : ∀ (h' : Heap) (tk : Nat), h'.SetOf (PySem.strKind P w) s.heap.objs.size (fun z => (xs.take items.size).any (· == z)) items.size → (∀ b o, b < s.heap.objs.size → s.heap.get? b = some o → h'.get? b = some o) → Q (.ref s.heap.objs.size) { s with heap := h', toks := tk }) :
    wpAny (model P w) A (call (.type "set") [.ref l]) Q E s := by
  obtain ⟨c, tl, hmro⟩ := PySem.F.called_set.mro
  have made_ := PySem.F.called_set.made
  have sub_ := PySem.F.called_set.sub
  refine wpAny_call (codeAny_of_tree ?_)
  show wpAny _ _ (callAny (.type "set") _) _ _ _
  refine wpAny_pure ⟨Code.quiet_builtin _ (by decide +kernel), codeAny_builtin PySem.F.entry_type_call ?_⟩
  rw [Around.under_plain (weight_type_call_type "set" [.ref l] []) rfl]
  have a1 := PySem.F.called_set.notType
  have a2 := PySem.F.called_set.canCreate
  have a3 := PySem.F.typeCall_set_1 (.ref l)
  repeat (any_goals (first | assumption | wp_step))
  refine codeAny_mono (code_set_new_1 (.ref l) (E := E) (Q₁ := fun obj s₁ => ∃ led : Bool, obj = .ref s.heap.objs.size ∧ s₁ = { s with heap := s.heap.push { cls := .type "set", dict := none, data := .set #[] 0 (.fresh 0 0 led) } }) fun led => ⟨led, rfl, rfl⟩) fun r t1 got => ?_
  cases r with
  | error e => exact got
  | ok fl =>
    cases fl with
    | ret obj =>
      obtain ⟨led, rfl, rfl⟩ := got
      have atS : (s.heap.push { cls := .type "set", dict := none, data := .set #[] 0 (.fresh 0 0 led) }).get? s.heap.objs.size = some { cls := .type "set", dict := none, data := .set #[] 0 (.fresh 0 0 led) } := Heap.get?_push_size _ rfl
      have isS : Shared.TypeIs { s with heap := s.heap.push { cls := .type "set", dict := none, data := .set #[] 0 (.fresh 0 0 led) } } (.ref s.heap.objs.size) "set" := ⟨_, atS, rfl⟩
      have b1 := PySem.F.called_set.init.lookup
      have b2 := PySem.F.called_set.init.bind (.ref s.heap.objs.size)
      repeat (any_goals (first | assumption | wp_step))
      refine codeAny_mono (codeAny_call_builtin (R := wants (fun r s₂ => r = .none ∧ ∃ h' tk, s₂ = { s with heap := h', toks := tk } ∧ h'.SetOf (PySem.strKind P w) s.heap.objs.size (fun z => (xs.take items.size).any (· == z)) items.size ∧ (∀ b o, b < s.heap.objs.size → s.heap.get? b = some o → h'.get? b = some o)) E) PySem.F.called_set.init.plain PySem.F.entry_set_init (check_set_init_1 isS ?_)) fun r2 t2 got2 => ?_
      · obtain ⟨ol, hol, hcl, nl, hdl⟩ := id isl
        obtain ⟨ocls, odict, odata, oslots⟩ := ol
        simp only at hcl hdl
        subst hcl
        subst hdl
        have hol2 : (s.heap.push { cls := .type "set", dict := none, data := .set #[] 0 (.fresh 0 0 led) }).get? l = some { cls := .type "list", dict := odict, data := .seq items nl, slots := oslots } := Heap.get?_push_of_some _ hol
        have c1 := PySem.F.sub_list_set
        have c2 := PySem.F.sub_list_frozenset
        have c3 : (Value.type "list" == Value.type "dict") = false := by decide
        have isl2 : (s.heap.push { cls := .type "set", dict := none, data := .set #[] 0 (.fresh 0 0 led) }).IsList l items := ⟨_, hol2, rfl, nl, rfl⟩
        unfold Builtin.«set.__init__» noKeywords Builtin.Frozenset.updateFrom
        generalize hPI : pyIter = PI
        wp_walk
        subst hPI
        refine wpAny_pyIter_list isl2 ?_
        refine (wpAny_bind (wpAny_runValue ?_ ))
        have ls : l < s.heap.objs.size := Heap.lt_size hol
        have calm3 : A.in1.in1.in1.handled = none := by simp [calm]
        have lI : l ≠ (s.heap.push { cls := .type "set", dict := none, data := .set #[] 0 (.fresh 0 0 led) }).objs.size := by
          rw [Heap.size_push]
          exact Nat.ne_of_lt (Nat.lt_succ_of_lt ls)
        have sI : s.heap.objs.size ∉ [(s.heap.push { cls := .type "set", dict := none, data := .set #[] 0 (.fresh 0 0 led) }).objs.size, l] := by
          rw [Heap.size_push]
          simp only [List.mem_cons, List.mem_singleton, List.not_mem_nil, or_false, not_or]
          exact ⟨Nat.ne_of_lt (Nat.lt_succ_self _), Nat.ne_of_gt ls⟩
        have size : xs.length = items.size := by rw [← StrsAre.len_eq are, Array.length_toList]
        refine set_turns ((Walks.list calm3 _ l lI items).toS) s.heap.objs.size sI xs nd size (by rw [← size]; exact few) (fun i v hv => SS.strs_at are i v (by rw [Array.getElem?_toList]; exact hv)) (items.size - 0) 0 _ (by omega) (Nat.zero_le _) ⟨⟨_, Heap.get?_push_size _ rfl, rfl, rfl⟩, (isl2.push _)⟩ ?h0 ?h1
        case h0 =>
          have at2 : ((s.heap.push { cls := .type "set", dict := none, data := .set #[] 0 (.fresh 0 0 led) }).push { cls := .type "list_iterator", data := .fields #[.ref l, .int 0 0] }).get? s.heap.objs.size = some { cls := .type "set", dict := none, data := .set #[] 0 (.fresh 0 0 led) } := Heap.get?_push_of_some _ atS
          exact SetOf_congr ((setObjOf_fresh (knd := PySem.strKind P w) led).setOf at2 (by unfold scanBound; omega)) (fun _ => rfl) rfl
        case h1 =>
          intro t3 mv held
          obtain ⟨h', g', d', tk', os'⟩ := t3
          have eg : g' = s.gens := mv.gens
          have ed : d' = s.drawn := mv.drawn
          have eo : os' = s.os := mv.os
          subst eg
          subst ed
          subst eo
          show wpAny _ _ _ _ _ _
          refine wpAny_pure ?_
          show wpAny _ _ (ret Value.none) _ _ _
          refine wpAny_pure ⟨rfl, h', tk', rfl, held, fun b o hb e => ?_⟩
          refine mv.heap b o ?_ (Heap.get?_push_of_some _ (Heap.get?_push_of_some _ e))
          simp only [List.mem_cons, List.mem_singleton, List.not_mem_nil, or_false, not_or]
          refine ⟨Nat.ne_of_lt hb, ?_⟩
          rw [Heap.size_push]
          exact Nat.ne_of_lt (Nat.lt_succ_of_lt hb)
      · cases r2 with
        | error e => exact got2
        | ok fl2 =>
          cases fl2 with
          | ret r =>
            obtain ⟨rfl, h', tk, rfl, held, kept⟩ := got2
            repeat (any_goals (first | assumption | wp_step))
            exact fin _ _ held kept
          | _ => exact got2.elim
    | _ => exact got.elim
end
section
variable {X : Cx}
/-- len(set(xs)), xs a list of unlike texts -/
def tLenSetN (K : PySem.W.Frag) (ta : TE) : TE := fun σ H Q => ta σ H fun x H1 => ∃ (l : Addr) (xs : List Str), x = .ref l ∧ SqL K H1 l (xs.map V.str) ∧ xs.Nodup ∧ xs.length ≤ 1000 ∧ Q (.int xs.length) H1
theorem pe_lenSetN {a : Expr} {ta : TE} {p p2 q pos : Pos} (g1 : Gl X "len") (m1 : X.mg "len" = none) (g2 : Gl X "set") (m2 : X.mg "set" = none) (arg : PE X a ta) (calm : X.calm = true := by rfl)
    (star : starEach [a] X.env = (false, eval a X.env) :: starEach [] X.env := by rfl) : PE X (.Call (.Name "len" p) [.Call (.Name "set" p2) [a] [] q] [] pos) (tLenSetN X.K ta) := by
  constructor
  intro pins s σ H Qw inv ask
  refine Call_ (ld_blt inv g1 m1 boot_len (PyProof.Rows.callWith_builtin1 (PyProof.Rows.args_cons ?_ rfl) rfl rfl))
  refine Call_ (ld_blt inv g2 m2 boot_set (PyProof.Rows.callWith_type1 (PyProof.Rows.args_cons (thn (arg.run pins s σ H _ inv ask) fun v s1 got => PyProof.Rows.args_nil ?_) star) star rfl))
  obtain ⟨x, H1, inv1, rel, l, xs, rfl, sq, nd, few, q1⟩ := got
  cases rel
  obtain ⟨its, vals, at_, size⟩ := inv1.list sq
  refine set_of_list (inv1.ok.hd calm) at_.isList (by simpa using strsAre_of vals) nd (by unfold scanBound; omega) fun h' tk held kept => PyProof.Rows.args_nil ?_
  have sz : its.toArray.size = xs.length := by rw [List.size_toArray, ← vals.length, List.length_map]
  rw [sz] at held
  obtain ⟨o, es, ep, tb, ho, hex, hd, _, _, _, fits, cnt⟩ := held
  have inv2 : Inv X pins σ H1 { s1 with heap := h', toks := tk } := inv1.kept fun b o e => kept b o (Heap.lt_size e) e
  refine call_len_set ho hex hd fits (by rw [cnt]; omega) ⟨.int xs.length, H1, inv2.tok _, ⟨_, by rw [cnt]⟩, q1⟩
end
end WS

set_option Elab.async false
set_option linter.all false
set_option maxRecDepth 100000
set_option maxHeartbeats 4000000
namespace WB
open PySem PySem.Spec PyProof.Rows L2 WG WS
open TL (tl)
abbrev st_unlike_texts : Stmt := topS 84
theorem sc_unlike_texts : FnScope ["_law_texts"] ["_law_texts"] (defScope st_unlike_texts) := ⟨rfl, rfl, rfl, by decide +kernel, rfl, by decide +kernel, by decide +kernel⟩
abbrev st_is_clean : Stmt := topS 85
theorem sc_is_clean : FnScope ["_law_tree_here", "_law_deep", "_law_longs", "_law_flat", "_law_group", "_law_ranks", "_law_one", "_law_text", "_law_below"] ["_law_tree_here", "_law_deep"] (defScope st_is_clean) := ⟨rfl, rfl, rfl, by decide +kernel, rfl, by decide +kernel, by decide +kernel⟩
theorem pe_lindex {X : Cx} {K : PySem.W.Frag} {o e : Expr} {to : TE} {t : TA} {apos cpos : Pos} (hK : X.K = K) (ho : PE X o to) (ha : PA X [e] t) (h1 : attributeBase o "index" X.env (eval o X.env) = eval o X.env := by rfl)
    (h2 : ((backTo cpos (starEach [e] X.env)).all (fun x => !x.1) && (backToKw cpos (keywordEach [] X.env)).all (fun x => x.1.isSome) && decide ([e].length + ([] : List Keyword).length + (if ([] : List Keyword).isEmpty then 0 else 1) < 30)) = true := by rfl)
    (h3 : (apos.endLine == cpos.line) = true := by rfl) (h4 : starEach [e] X.env = (false, eval e X.env) :: starEach [] X.env := by rfl) : PE X (.Call (.Attribute o "index" apos) [e] [] cpos) (tBM K "list" (rIndex K) to t) := by
  subst hK
  exact pe_bm PySem.F.plainAttrs_list PySem.F.slot_list_index PySem.F.type_list_index mt_index ho ha h1 h2 h3 h4 rfl
theorem pi_listK {X : Cx} {K : PySem.W.Frag} {tg e : Expr} {t : TE} (hK : X.K = K) (he : PE X e t) : PI X tg e (iList K t) := by
  subst hK
  exact pi_list he
/-! ### a tree without a clash -/
theorem rep_nodup {ys seen : List Str} (h : firstRep ys seen = none) : ys.Nodup := List.pairwise_iff_getElem.mpr fun i j hi hj hij e => by
  have := (rep_none h).2 i j ys[i] (List.getElem?_eq_getElem hi) (by rw [List.getElem?_eq_getElem hj, e])
  omega
theorem bad_none {ok : List Str} : ∀ {zs ah : List Str}, groupBad ok zs ah = none → (∀ z ∈ zs, z ∈ ok ∧ z ∉ ah) ∧ zs.Nodup
  | [], _, _ => ⟨(fun z h => by cases h), List.nodup_nil⟩
  | y :: r, ah, h => by
    rw [groupBad_cons] at h
    split at h
    · cases h
    · rename_i c
      obtain ⟨h1, h2⟩ := bad_none h
      have c1 : y ∈ ok ∧ y ∉ ah := by
        by_cases c2 : inS y ok = true
        · refine ⟨inS_mem.mp c2, fun m => c ?_⟩
          rw [inS_mem.mpr m, Bool.or_true]
        · refine absurd ?_ c
          rw [Bool.eq_false_iff.mpr c2]
          rfl
      refine ⟨fun z hz => ?_, ?_⟩
      · rcases List.mem_cons.mp hz with rfl | hz
        · exact c1
        · exact ⟨(h1 z hz).1, fun m => (h1 z hz).2 (List.mem_append_left _ m)⟩
      · rw [List.nodup_cons]
        exact ⟨fun m => (h1 y m).2 (List.mem_append_right _ List.mem_cons_self), h2⟩
theorem order_none : ∀ {ps : List PL} {ah : List Str}, orderBad ps ah = none → ∀ (i : Nat) (p : PL), ps[i]? = some p → mayStand p.many (ah ++ (ps.take i).map PL.many) = true
  | [], _, _, i, p, hp => by cases hp
  | x :: r, ah, h, i, p, hp => by
    rw [orderBad_cons] at h
    split at h
    · rename_i c
      match i with
      | 0 =>
        cases hp
        rw [List.take_zero, List.map_nil, List.append_nil]
        exact c
      | i + 1 =>
        have := order_none h i p hp
        rw [List.append_assoc] at this
        exact this
    · cases h
def manL : List V := [.str (Str.ofString "one"), .str (Str.ofString "maybe"), .str (Str.ofString "some"), .str (Str.ofString "any")]
def rkS (m : Str) : Int := if m = Str.ofString "one" then 0 else if m = Str.ofString "maybe" then 1 else if m = Str.ofString "some" then 2 else 3
theorem idx_of {m : Str} (h : among (.str m) WP.manies = true) : ∃ j : Nat, rkS m = (j : Int) ∧ manL[j]? = some (.str m) ∧ ∀ (i : Nat) (z : V), i < j → manL[i]? = some z → eqV z (.str m) = false := by
  have h6 : m ∈ [Str.ofString "one", Str.ofString "maybe", Str.ofString "some", Str.ofString "any"] := among_takes h
  simp only [List.mem_cons, List.not_mem_nil, or_false] at h6
  have go : ∀ (m : Str) (j : Nat), rkS m = (j : Int) → manL[j]? = some (.str m) → (∀ i : Nat, i < j → ∀ z, manL[i]? = some z → eqV z (.str m) = false) → ∃ j : Nat, rkS m = (j : Int) ∧ manL[j]? = some (.str m) ∧ ∀ (i : Nat) (z : V), i < j → manL[i]? = some z → eqV z (.str m) = false := fun m j h1 h2 h3 => ⟨j, h1, h2, fun i z hi => h3 i hi z⟩
  rcases h6 with rfl | rfl | rfl | rfl
  · exact go _ 0 (by decide +kernel) rfl (fun i hi => absurd hi (Nat.not_lt_zero _))
  · refine go _ 1 (by decide +kernel) rfl (fun i hi z hz => ?_)
    match i, hi with
    | 0, _ => cases hz; decide +kernel
  · refine go _ 2 (by decide +kernel) rfl (fun i hi z hz => ?_)
    match i, hi with
    | 0, _ => cases hz; decide +kernel
    | 1, _ => cases hz; decide +kernel
  · refine go _ 3 (by decide +kernel) rfl (fun i hi z hz => ?_)
    match i, hi with
    | 0, _ => cases hz; decide +kernel
    | 1, _ => cases hz; decide +kernel
    | 2, _ => cases hz; decide +kernel
/-- what may stand behind, by rank -/
theorem may_rank {m m' : Str} {ahead : List Str} (hm : among (.str m) WP.manies = true) (hm' : among (.str m') WP.manies = true) (h : mayStand m ahead = true) (hin : m' ∈ ahead) : rkS m' ≤ rkS m ∧ rkS m' ≠ 2 ∧ rkS m' ≠ 3 ∧ (rkS m' = 1 → rkS m ≠ 2) := by
  have h6 : m ∈ [Str.ofString "one", Str.ofString "maybe", Str.ofString "some", Str.ofString "any"] := among_takes hm
  have h7 : m' ∈ [Str.ofString "one", Str.ofString "maybe", Str.ofString "some", Str.ofString "any"] := among_takes hm'
  simp only [List.mem_cons, List.not_mem_nil, or_false] at h6 h7
  have hin' : inS m' ahead = true := inS_mem.mpr hin
  unfold mayStand at h
  have r1 : rkS (Str.ofString "one") = 0 := by decide +kernel
  have r2 : rkS (Str.ofString "maybe") = 1 := by decide +kernel
  have r3 : rkS (Str.ofString "some") = 2 := by decide +kernel
  have r4 : rkS (Str.ofString "any") = 3 := by decide +kernel
  rcases h7 with rfl | rfl | rfl | rfl
  · rw [r1]
    refine ⟨?_, by decide, by decide, fun z => by cases z⟩
    rcases h6 with rfl | rfl | rfl | rfl <;> simp only [r1, r2, r3, r4] <;> decide
  · rw [r2]
    rw [hin'] at h
    have h8 : inS m [Str.ofString "maybe", Str.ofString "any"] = true := by
      cases c : inS m [Str.ofString "maybe", Str.ofString "any"] with
      | true => rfl
      | false =>
        rw [c] at h
        simp at h
    rcases h6 with rfl | rfl | rfl | rfl
    · exact absurd h8 (by decide +kernel)
    · rw [r2]
      exact ⟨by decide, by decide, by decide, fun _ => by decide⟩
    · exact absurd h8 (by decide +kernel)
    · rw [r4]
      exact ⟨by decide, by decide, by decide, fun _ => by decide⟩
  · rw [hin'] at h
    simp at h
  · rw [hin'] at h
    simp at h
theorem perm_sorted : ∀ {xs ys : List Int}, xs.Perm ys → xs.Pairwise (· ≤ ·) → ys.Pairwise (· ≤ ·) → xs = ys
  | [], ys, p, _, _ => p.nil_eq
  | x :: r, ys, p, hx, hy => by
    cases ys with
    | nil => exact absurd p.length_eq (by simp)
    | cons y s =>
      rw [List.pairwise_cons] at hx hy
      have h1 : y ∈ x :: r := p.symm.subset List.mem_cons_self
      have h2 : x ∈ y :: s := p.subset List.mem_cons_self
      have e : x = y := by
        rcases List.mem_cons.mp h1 with h | h
        · exact h.symm
        · rcases List.mem_cons.mp h2 with h' | h'
          · exact h'
          · have a := hx.1 y h
            have b := hy.1 x h'
            omega
      subst e
      rw [perm_sorted p.cons_inv hx.2 hy.2]
theorem cut_last (xs : List V) : cutV xs none (some (-1)) = xs.dropLast := by
  by_cases h : xs = []
  · subst h
    rfl
  · have e := List.dropLast_concat_getLast h
    conv => lhs; rw [← e]
    exact cut_init _ _
theorem flat_ints (ys : List Int) : (ys.map V.int).all flatV = true := by
  rw [List.all_map]
  exact List.all_eq_true.mpr fun _ _ => rfl
theorem inV_int {n : Int} {ys : List Int} : inV (.int n) (ys.map V.int) = true ↔ n ∈ ys := by
  unfold inV
  rw [List.any_eq_true]
  constructor
  · rintro ⟨v, hv, e⟩
    obtain ⟨y, hy, rfl⟩ := List.mem_map.mp hv
    have e' : (y == n) = true := e
    rw [← beq_iff_eq.mp e']
    exact hy
  · exact fun h => ⟨.int n, List.mem_map.mpr ⟨n, h, rfl⟩, show (n == n) = true from beq_self_eq_true n⟩
def inD (p : List Int) : List PyData := p.map PyData.int
theorem dp_ints {K : PySem.W.Frag} {H : Hp} : ∀ p : List Int, DpAll K H (p.map V.int) (inD p)
  | [] => .nil
  | z :: r => .cons (.int z) (dp_ints r)
theorem in_lay : ∀ {p : List Int}, PyData.canLayAll0 (inD p) = true ∧ PyData.depthAll (inD p) ≤ 0
  | [] => ⟨by simp [inD, PyData.canLayAll0], by simp [inD, PyData.depthAll]⟩
  | z :: r => by
    obtain ⟨h1, h2⟩ := in_lay (p := r)
    unfold inD at h1 h2 ⊢
    refine ⟨?_, ?_⟩
    · simp [PyData.canLayAll0, PyData.canLay0, h1]
    · simp only [List.map_cons, PyData.depthAll, PyData.depth]
      omega
theorem inl_lay {p : List Int} : (PyData.list (inD p)).canLay0 = true := by
  simp [PyData.canLay0, in_lay.1]
theorem inl_shaped {p : List Int} : SeqAt.shaped (.list (inD p)) = true := by
  unfold SeqAt.shaped
  have hd : (PyData.list (inD p)).depth ≤ 64 := by
    have := (in_lay (p := p)).2
    simp only [PyData.depth]
    omega
  rw [inl_lay, decide_eq_true hd]
  rfl
theorem ranks_ok {ps : List PL} (hm : ∀ p ∈ ps, among (.str p.many) WP.manies = true) (h : orderBad ps [] = none) : (∀ x ∈ (ps.map fun p => rkS p.many).dropLast, x ≠ 2 ∧ x ≠ 3) ∧ (ps.map fun p => rkS p.many).Pairwise (· ≤ ·) ∧ ¬ (1 ∈ (ps.map fun p => rkS p.many) ∧ 2 ∈ (ps.map fun p => rkS p.many)) := by
  have key : ∀ (i j : Nat) (p p' : PL), i < j → ps[i]? = some p' → ps[j]? = some p → rkS p'.many ≤ rkS p.many ∧ rkS p'.many ≠ 2 ∧ rkS p'.many ≠ 3 ∧ (rkS p'.many = 1 → rkS p.many ≠ 2) := fun i j p p' hij hi hj => by
    have h1 := order_none h j p hj
    refine may_rank (hm p (List.mem_of_getElem? hj)) (hm p' (List.mem_of_getElem? hi)) h1 ?_
    refine List.mem_map.mpr ⟨p', ?_, rfl⟩
    have : (ps.take j)[i]? = some p' := by rw [List.getElem?_take_of_lt hij]; exact hi
    exact List.mem_of_getElem? this
  have at_ : ∀ {i : Nat} (hi : i < (ps.map fun p => rkS p.many).length), ∃ p, ps[i]? = some p ∧ (ps.map fun p => rkS p.many)[i] = rkS p.many := fun {i} hi => by
    rw [List.length_map] at hi
    exact ⟨ps[i], List.getElem?_eq_getElem hi, by rw [List.getElem_map]⟩
  refine ⟨fun x hx => ?_, List.pairwise_iff_getElem.mpr fun i j hi hj hij => ?_, fun ⟨h1, h2⟩ => ?_⟩
  · obtain ⟨i, hi, e⟩ := List.mem_iff_getElem.mp hx
    rw [List.length_dropLast, List.length_map] at hi
    rw [List.getElem_dropLast] at e
    obtain ⟨p', hp', e'⟩ := at_ (i := i) (by rw [List.length_map]; omega)
    have hl : ps.length - 1 < ps.length := by omega
    have := key i (ps.length - 1) _ p' hi hp' (List.getElem?_eq_getElem hl)
    rw [← e, e']
    exact ⟨this.2.1, this.2.2.1⟩
  · obtain ⟨p', hp', e'⟩ := at_ hi
    obtain ⟨p, hp, e⟩ := at_ hj
    rw [e, e']
    exact (key i j p p' hij hp' hp).1
  · obtain ⟨p1, hp1, e1⟩ := List.mem_map.mp h1
    obtain ⟨p2, hp2, e2⟩ := List.mem_map.mp h2
    obtain ⟨i, hi, ei⟩ := List.mem_iff_getElem.mp hp1
    obtain ⟨j, hj, ej⟩ := List.mem_iff_getElem.mp hp2
    have gi : ps[i]? = some p1 := by rw [List.getElem?_eq_getElem hi, ei]
    have gj : ps[j]? = some p2 := by rw [List.getElem?_eq_getElem hj, ej]
    by_cases c : i < j
    · exact (key i j p2 p1 c gi gj).2.2.2 e1 e2
    · by_cases c2 : j < i
      · exact (key j i p1 p2 c2 gj gi).2.1 e2
      · have : i = j := by omega
        subst this
        rw [gi] at gj
        cases gj
        rw [e1] at e2
        cases e2
section
variable {P : Program} {w : World} {K : PySem.W.Frag} {mg : Str → Option Value} {base : Heap}
def spUnl : Sp := fun vs H Q _ => ∃ (l : Addr) (zs : List Str), vs = [.ref l] ∧ H l = some (.lst (zs.map V.str)) ∧ zs.Nodup ∧ zs.length ≤ 1000 ∧ Q (.bl true) H
theorem ok_unl {f : Addr} {fd : FuncData} {k : Nat} (F : Fun K "_law_unlike_texts" "_law_unlike_texts" st_unlike_texts f fd) (m_len : mg "len" = none) (m_set : mg "set" = none) : FnOk P w K mg base CX0 (k + 1) f fd ["_law_texts"] spUnl := by
  refine F.ok sc_unlike_texts (fun vs H Q E h => ?_) (fun cdv A outer s H vs Q E hr h => ?_)
  · obtain ⟨l, zs, rfl, _⟩ := h
    rfl
  · obtain ⟨l, zs, rfl, el, nd, ln, q⟩ := h
    refine ⟨_, pss_one (ps_ret (pe_cmpR op_eq (pe_lenSetN (by rfl) m_len (by rfl) m_set (pv 0)) (pe_callB call_len_seq (by rfl) m_len PySem.boot_len (pa_cons (pv 0) pa_nil)) (nomark _))), ?_⟩
    refine ⟨.ref l, rfl, l, zs, rfl, SqL.of el, nd, ln, .ref l, rfl, l, _, rfl, .inl (SqL.of el), rfl, ?_⟩
    rw [List.length_map, decide_eq_true rfl]
    exact q
end
end WB

set_option Elab.async false
set_option linter.all false
set_option maxRecDepth 100000
set_option maxHeartbeats 4000000
set_option pp.maxSteps 2500
namespace WB
open PySem PySem.Spec PyProof.Rows L2 WG WS
open TL (tl)
section
variable {P : Program} {w : World} {K : PySem.W.Frag} {mg : Str → Option Value} {base : Heap}
theorem all_true : ∀ n : Nat, (List.replicate n true).all id = true
  | 0 => rfl
  | n + 1 => by
    rw [List.replicate_succ, List.all_cons, all_true n]
    rfl
theorem rep_next (n : Nat) : (List.replicate (n + 1) true).map V.bl = (List.replicate n true).map V.bl ++ [V.bl true] := by
  rw [List.replicate_succ', List.map_append]
  rfl
def spClean (d : Nat) : Sp := fun vs H Q _ => ∃ (a : Addr) (t : Ct) (above : List Str), vs = [.ref a, .int ((above.length : Nat) + 1)] ∧ TrAt H d a t ∧ clashIn above t = none ∧ ∀ H', Same H H' → Q (.bl true) H'
theorem ok_clean {f fU : Addr} {fd fdU : FuncData} {k : Nat} (D_is_clean : Df K mg "_law_is_clean" st_is_clean ["_law_tree_here", "_law_deep"] f fd) (D_unlike_texts : Df K mg "_law_unlike_texts" st_unlike_texts ["_law_texts"] fU fdU)
    (m_len : mg "len" = none) (m_set : mg "set" = none) (m_all : mg "all" = none) (m_sorted : mg "sorted" = none) : ∀ d, FnOk P w K mg base CX0 (k + 2 + d) f fd ["_law_tree_here", "_law_deep"] (spClean d) := by
  intro d
  induction d with
  | zero =>
    refine ⟨fun vs H Q E h => ?_, fun A outer s H ar us vs Q E hr he hb hv h => ?_⟩
    · obtain ⟨a, t, above, rfl, _⟩ := h
      rfl
    · obtain ⟨a, t, above, rfl, tr, _⟩ := h
      cases tr
  | succ d G_is_clean =>
    have G_unlike_texts : FnOk P w K mg base CX0 (k + 2 + d) fU fdU ["_law_texts"] spUnl := (ok_unl (k := k) D_unlike_texts.F m_len m_set).mono (by omega)
    show FnOk P w K mg base CX0 ((k + 2 + d) + 1) f fd ["_law_tree_here", "_law_deep"] (spClean (d + 1))
    refine D_is_clean.F.ok sc_is_clean (fun vs H Q E h => ?_) (fun cdv A outer s H vs Q E hr h => ?_)
    · obtain ⟨a, t, above, rfl, _⟩ := h
      rfl
    · obtain ⟨a, t, above, rfl, tr, hc, q⟩ := h
      have sl : sizeLine = 16777216 := sizeLine_eq
      obtain ⟨ao, ap, ag, ab, xo, xp, xg, xb, T⟩ := tr.op
      have lo := T.lo
      have lho := T.ho.1
      have lp := T.lp
      have lhp := T.hp.1
      have lg := T.lg
      have lhg := T.hg.1
      have lb := T.lb
      have lhb := T.hl
      rw [clashIn_eq] at hc
      have how : ownC t (above ++ [t.name]) = none := by
        cases e : ownC t (above ++ [t.name]) with
        | none => rfl
        | some y =>
          rw [e] at hc
          cases hc
      rw [how] at hc
      have hkids := clashes_none hc
      obtain ⟨h4, hlong, hshort, hname, horder, hboth, hgroup, hcmd⟩ := own_none how
      rw [List.length_append, List.length_singleton] at h4
      refine ⟨_, pss_cons (ps_setLc (i := 2) (own := [("_law_one", 6)]) (g := gName 6) (tt := tYes)  rfl sc_is_clean.nd rfl rfl (sw_true rfl rfl rfl (by decide +kernel)) (pi_list (pe_ix ix_list (pv 0) pe_int (fun _ _ => rfl))) (blkOk_by (N := ["_law_tree_here", "_law_deep", "_law_longs", "_law_flat", "_law_group", "_law_ranks", "_law_one", "_law_text", "_law_below"]) (sc := defScope st_is_clean) (by decide +kernel)) (fun _ _ _ _ _ => (pg_name (i := 6) sc_is_clean.nd rfl (Or.inl rfl))) (fun _ _ _ _ _ => pts_nil) (fun _ _ _ _ _ => (pe_ix (r := rIxL K) ix_list (pv 6) pe_int (fun _ _ => rfl))))
      (pss_cons (ps_set (i := 3) sc_is_clean.nd rfl (.inl rfl) (pe_lst pa_nil))
      (pss_cons (ps_for PassesOwn.never rfl (pi_list (pe_ix ix_list (pv 0) pe_int (fun _ _ => rfl))) (pg_name (i := 4) sc_is_clean.nd rfl (Or.inl rfl)) (pss_one (ps_set (i := 3) sc_is_clean.nd rfl (.inl rfl) (pe_op op_cat (pv 3) (pv 4)))))
      (pss_cons (ps_if (PW.pt (pw_or (pt_cmpR op_gt (pv 1) pe_int (nomark _)) (pw_or (pt_not (pt_val (pe_call G_unlike_texts hr (by rfl) D_unlike_texts.g D_unlike_texts.F.kp D_unlike_texts.b .nil pass0 (pa_cons (pe_op op_cat (pv 2) (pe_lc (own := [("_law_one", 6)]) (g := gName 6) (tt := tYes) rfl sc_is_clean.nd (pi_list (pe_ix ix_list (pv 0) pe_int (fun _ _ => rfl))) (blkOk_by (N := ["_law_tree_here", "_law_deep", "_law_longs", "_law_flat", "_law_group", "_law_ranks", "_law_one", "_law_text", "_law_below"]) (sc := defScope st_is_clean) (by decide +kernel)) (fun _ _ _ _ _ => (pg_name (i := 6) sc_is_clean.nd rfl (Or.inl rfl))) (fun _ _ _ _ _ => pts_nil) (fun _ _ _ _ _ => (pe_ix (r := rIxL K) ix_list (pv 6) pe_int (fun _ _ => rfl))))) pa_nil)))) (pw_or1 (pt_not (pt_val (pe_call G_unlike_texts hr (by rfl) D_unlike_texts.g D_unlike_texts.F.kp D_unlike_texts.b .nil pass0 (pa_cons (pv 3) pa_nil)))))))) (pss_one (ps_ret pe_bl)) pss_nil)
      (pss_cons (ps_if (PW.pt (pw_or (pt_not (pt_val (pe_call G_unlike_texts hr (by rfl) D_unlike_texts.g D_unlike_texts.F.kp D_unlike_texts.b .nil pass0 (pa_cons (pe_lc (own := [("_law_one", 6)]) (g := gName 6) rfl sc_is_clean.nd (pi_list (pe_ix ix_list (pv 0) pe_int (fun _ _ => rfl))) (blkOk_by (N := ["_law_tree_here", "_law_deep", "_law_longs", "_law_flat", "_law_group", "_law_ranks", "_law_one", "_law_text", "_law_below"]) (sc := defScope st_is_clean) (by decide +kernel)) (fun _ _ _ _ _ => (pg_name (i := 6) sc_is_clean.nd rfl (Or.inl rfl))) (fun _ _ _ _ _ => pts_one (pt_cmpR op_ne (pe_ix (r := rIxL K) ix_list (pv 6) pe_int (fun _ _ => rfl)) pe_str (nomark _))) (fun _ _ _ _ _ => (pe_ix (r := rIxL K) ix_list (pv 6) pe_int (fun _ _ => rfl)))) pa_nil)))) (pw_or1 (PW.pt (pw_and (pt_cmpR (op_neE hr.units) (pe_ix ix_list (pv 0) pe_int (fun _ _ => rfl)) (pe_lst pa_nil) (nomark _)) (pw_and1 (pt_cmpR (op_neE hr.units) (pe_ix ix_list (pv 0) pe_int (fun _ _ => rfl)) (pe_lst pa_nil) (nomark _)))))))) (pss_one (ps_ret pe_bl)) pss_nil)
      (pss_cons (ps_if (pt_not (pt_val (pe_callB (cr_all rfl) (by rfl) m_all (by decide +kernel) (pa_cons (pe_lc (own := [("_law_text", 7)]) (g := gName 7) (tt := tYes) rfl sc_is_clean.nd (pi_list (pv 3)) (blkOk_by (N := ["_law_tree_here", "_law_deep", "_law_longs", "_law_flat", "_law_group", "_law_ranks", "_law_one", "_law_text", "_law_below"]) (sc := defScope st_is_clean) (by decide +kernel)) (fun _ _ _ _ _ => (pg_name (i := 7) sc_is_clean.nd rfl (Or.inl rfl))) (fun _ _ _ _ _ => pts_nil) (fun _ _ _ _ _ => (pe_cmpR (r := rIn K false) op_in_seq (pv 7) (pe_lc (own := [("_law_one", 6)]) (g := gName 6) rfl sc_is_clean.nd (pi_listK (K := K) rfl (pe_ix (r := rIxL K) ix_list (pv 0) pe_int (fun _ _ => rfl))) (blkOk_by (N := ["_law_tree_here", "_law_deep", "_law_longs", "_law_flat", "_law_group", "_law_ranks", "_law_one", "_law_text", "_law_below"]) (sc := { kind := .function, names := [(".0", .local), ("_law_text", .local), ("_law_tree_here", .cell)], isGenerator := false, isCoroutine := false }) (by decide +kernel)) (fun _ _ _ _ _ => (pg_name (i := 6) sc_is_clean.nd rfl (Or.inl rfl))) (fun _ _ _ _ _ => pts_one (pt_not (pt_val (pe_ix (r := rIxL K) ix_list (pv 6) pe_int (fun _ _ => rfl))))) (fun _ _ _ _ _ => (pe_ix (r := rIxL K) ix_list (pv 6) pe_int (fun _ _ => rfl)))) (by rfl)))) pa_nil)))) (pss_one (ps_ret pe_bl)) pss_nil)
      (pss_cons (ps_setLc (i := 5) (own := [("_law_one", 6)]) (g := gName 6) (tt := tYes)  rfl sc_is_clean.nd rfl rfl (sw_true rfl rfl rfl (by decide +kernel)) (pi_list (pe_ix ix_list (pv 0) pe_int (fun _ _ => rfl))) (blkOk_by (N := ["_law_tree_here", "_law_deep", "_law_longs", "_law_flat", "_law_group", "_law_ranks", "_law_one", "_law_text", "_law_below"]) (sc := defScope st_is_clean) (by decide +kernel)) (fun _ _ _ _ _ => (pg_name (i := 6) sc_is_clean.nd rfl (Or.inl rfl))) (fun _ _ _ _ _ => pts_nil) (fun _ _ _ _ _ => (pe_lindex (K := K) rfl (pe_lst (pa_cons pe_str (pa_cons pe_str (pa_cons pe_str (pa_cons pe_str pa_nil))))) (pa_cons (pe_ix (r := rIxL K) ix_list (pv 6) pe_int (fun _ _ => rfl)) pa_nil))))
      (pss_cons (ps_if (PW.pt (pw_or (pt_cmpR op_in_seq pe_int (pe_slice sl_list (pv 5) po_none (po_some (pe_un un_neg pe_int))) (by rfl)) (pw_or (pt_cmpR op_in_seq pe_int (pe_slice sl_list (pv 5) po_none (po_some (pe_un un_neg pe_int))) (by rfl)) (pw_or (pt_cmpR (op_neD hr.units) (pv 5) (pe_callB cr_sorted (by rfl) m_sorted (by decide +kernel) (pa_cons (pv 5) pa_nil)) (nomark _)) (pw_or1 (PW.pt (pw_and (pt_cmpR op_in_seq pe_int (pv 5) (by rfl)) (pw_and1 (pt_cmpR op_in_seq pe_int (pv 5) (by rfl)))))))))) (pss_one (ps_ret pe_bl)) pss_nil)
      (pss_one (ps_ret (pe_and (pe_call G_unlike_texts hr (by rfl) D_unlike_texts.g D_unlike_texts.F.kp D_unlike_texts.b .nil pass0 (pa_cons (pe_lc (own := [("_law_below", 8)]) (g := gName 8) (tt := tYes) rfl sc_is_clean.nd (pi_list (pe_ix ix_list (pv 0) pe_int (fun _ _ => rfl))) (blkOk_by (N := ["_law_tree_here", "_law_deep", "_law_longs", "_law_flat", "_law_group", "_law_ranks", "_law_one", "_law_text", "_law_below"]) (sc := defScope st_is_clean) (by decide +kernel)) (fun _ _ _ _ _ => (pg_name (i := 8) sc_is_clean.nd rfl (Or.inl rfl))) (fun _ _ _ _ _ => pts_nil) (fun _ _ _ _ _ => (pe_ix (r := rIxL K) ix_list (pv 8) pe_int (fun _ _ => rfl)))) pa_nil)) (pe_one (pe_callB (cr_all rfl) (by rfl) m_all (by decide +kernel) (pa_cons (pe_lc (own := [("_law_one", 6)]) (g := gName 6) (tt := tYes) rfl sc_is_clean.nd (pi_list (pe_ix ix_list (pv 0) pe_int (fun _ _ => rfl))) (blkOk_by (N := ["_law_tree_here", "_law_deep", "_law_longs", "_law_flat", "_law_group", "_law_ranks", "_law_one", "_law_text", "_law_below"]) (sc := defScope st_is_clean) (by decide +kernel)) (fun _ _ _ _ _ => (pg_name (i := 6) sc_is_clean.nd rfl (Or.inl rfl))) (fun _ _ _ _ _ => pts_nil) (fun _ _ _ _ _ => (pe_call G_is_clean hr (by rfl) D_is_clean.g D_is_clean.F.kp D_is_clean.b .nil pass0 (pa_cons (pv 6) (pa_cons (pe_op op_add (pv 1) pe_int) pa_nil))))) pa_nil))))))))))))), ?_⟩
      -- the long names
      refine ⟨.ref a, rfl, a, _, 1, .ref ao, rfl, rfl, SqL.of T.ea, rfl, ao, rfl, ⟨_, SqL.of T.eo⟩, fun L nL => ?_⟩
      refine lc_list (K := K) (a := ao) (xs := xo.map V.ref) (fun i Hc => Same H Hc ∧ Hc L = some (.lst (((t.os.take i).map OT.long).map V.str))) ⟨same_upd nL, upd_same⟩ (fun i Hc _ h => SqL.of (h.1 _ _ T.eo)) (fun i v Hc hv ⟨sc, eD⟩ => ?_) (fun H1 ⟨s1, eL⟩ => ?_)
      · rw [List.getElem?_map] at hv
        obtain ⟨y, hy, rfl⟩ := Option.map_eq_some_iff.mp hv
        obtain ⟨o, ho, ey, _⟩ := T.ho.2 i y hy
        have hi : i < xo.length := (List.getElem?_eq_some_iff.mp hy).1
        refine ⟨rfl, .ref y, rfl, y, _, 0, .str o.long, rfl, rfl, SqL.of (sc _ _ ey), rfl, _, eD, by rw [List.length_map, List.length_map, List.length_take]; omega, fun b u e => ?_, ?_⟩
        · rw [upd_ne (ne_of_none e nL)]
          exact sc _ _ e
        · rw [upd_same, List.take_add_one, ho, List.map_append, List.map_append]
          rfl
      rw [List.length_map, T.ho.1, List.take_length] at eL
      have eL : H1 L = some (.lst ((longsC t).map V.str)) := eL
      have T1 := T.same s1
      -- all groups in a row
      refine ⟨by show 0 ≤ sizeLine; decide, fun F0 nF0 => ?_⟩
      refine goT nF0 fun H2 s2 e2 => ?_
      have S2 := s1.trans s2
      have T2 := T.same S2
      have eL2 := s2 _ _ eL
      refine ⟨.ref a, rfl, a, _, 3, .ref ag, rfl, rfl, SqL.of T2.ea, rfl, ag, rfl, ⟨_, SqL.of T2.eg⟩, ?_⟩
      have six : ∀ i, ((t.gs.take i).flatten).length ≤ 6 * i := fun i => by
        have h6 : ∀ gs : List (List Str), (∀ g ∈ gs, g.length ≤ 6) → gs.flatten.length ≤ 6 * gs.length := fun gs => by
          induction gs with
          | nil =>
            intro _
            exact Nat.zero_le _
          | cons g r ih =>
            intro hg
            have h1 := hg g List.mem_cons_self
            have h2 := ih fun x hx => hg x (List.mem_cons_of_mem _ hx)
            rw [List.flatten_cons, List.length_append, List.length_cons]
            omega
        have h7 := h6 (t.gs.take i) fun g hg => by
          obtain ⟨x, _, _, l6, _⟩ := all2_mem T.hg (List.mem_of_mem_take hg)
          exact l6
        have h8 : (t.gs.take i).length ≤ i := List.length_take_le i t.gs
        omega
      refine for_list (K := K) (a := ag) (xs := xg.map V.ref) (fun i σ Hc => Same H2 Hc ∧ ∃ (fl : Addr) (x4 : Option V), Hc fl = some (.lst (((t.gs.take i).flatten).map V.str)) ∧ σ = [some (.ref a), some (.int ((above.length : Nat) + 1)), some (.ref L), some (.ref fl), x4, none, none, none, none])
        ⟨Same.refl _, F0, none, by rw [List.take_zero]; exact e2, rfl⟩ (fun i σ Hc _ h => SqL.of (h.1 _ _ T2.eg)) ?_ ?_
      · rintro i v σ Hc hv ⟨sc, fl, x4, ef, rfl⟩
        rw [List.getElem?_map] at hv
        obtain ⟨y, hy, rfl⟩ := Option.map_eq_some_iff.mp hv
        obtain ⟨g, hg, ey, _, l6, _⟩ := T2.hg.2 i y hy
        have hi : i < xg.length := (List.getElem?_eq_some_iff.mp hy).1
        have := six i
        refine ⟨.ref fl, rfl, .ref y, rfl, fl, y, _, _, rfl, rfl, ef, sc _ _ ey, by rw [List.length_map, List.length_map]; omega, fun f2 nf2 => ?_⟩
        refine ⟨sc.trans (same_upd nf2), f2, _, ?_, rfl⟩
        rw [upd_same, List.take_add_one, hg, List.flatten_append, List.map_append]
        simp
      · rintro σ H3 ⟨s3, fl, x4, ef, rfl⟩
        rw [List.length_map, lhg, List.take_length] at ef
        have hflat : t.gs.flatten.length ≤ 24 := by
          have := six t.gs.length
          rw [List.take_length] at this
          omega
        have S3 := S2.trans s3
        have T3 := T.same S3
        have eL3 := s3 _ _ eL2
        -- names that are unlike
        refine ⟨.int _, rfl, _, _, rfl, rfl, _, rfl, ite2 (fun e => ?_) (fun e => ?_)⟩
        · have e' : ((above.length : Nat) + 1 : Int) > 4 := of_decide_eq_true e
          omega
        refine ⟨.ref L, rfl, .ref a, rfl, a, _, 2, .ref ap, rfl, rfl, SqL.of T3.ea, rfl, ap, rfl, ⟨_, SqL.of T3.ep⟩, fun N nN => ?_⟩
        refine lc_list (K := K) (a := ap) (xs := xp.map V.ref) (fun i Hc => Same H3 Hc ∧ Hc N = some (.lst (((t.ps.take i).map PL.name).map V.str))) ⟨same_upd nN, upd_same⟩ (fun i Hc _ h => SqL.of (h.1 _ _ T3.ep)) (fun i v Hc hv ⟨sc, eD⟩ => ?_) (fun H4 ⟨s4, eN⟩ => ?_)
        · rw [List.getElem?_map] at hv
          obtain ⟨y, hy, rfl⟩ := Option.map_eq_some_iff.mp hv
          obtain ⟨o, ho, ey, _⟩ := T3.hp.2 i y hy
          have hi : i < xp.length := (List.getElem?_eq_some_iff.mp hy).1
          refine ⟨rfl, .ref y, rfl, y, _, 0, .str o.name, rfl, rfl, SqL.of (sc _ _ ey), rfl, _, eD, by rw [List.length_map, List.length_map, List.length_take]; omega, fun b u e => ?_, ?_⟩
          · rw [upd_ne (ne_of_none e nN)]
            exact sc _ _ e
          · rw [upd_same, List.take_add_one, ho, List.map_append, List.map_append]
            rfl
        rw [List.length_map, T.hp.1, List.take_length] at eN
        have lln : (longsC t).length ≤ 12 := by unfold longsC; rw [List.length_map]; exact lo
        refine ⟨L, N, _, _, rfl, rfl, s4 _ _ eL3, eN, by rw [List.length_map, List.length_map, List.length_map]; omega, fun B nB => ?_⟩
        rw [← List.map_append]
        have s5 := same_upd (o := .lst ((longsC t ++ t.ps.map PL.name).map V.str)) nB
        have eB : (upd H4 B (.lst ((longsC t ++ t.ps.map PL.name).map V.str))) B = some (.lst ((longsC t ++ t.ps.map PL.name).map V.str)) := upd_same
        revert s5 eB
        generalize upd H4 B (.lst ((longsC t ++ t.ps.map PL.name).map V.str)) = H5
        intro s5 eB
        have s35 := s4.trans s5
        refine ⟨B, _, rfl, eB, List.nodup_append.mpr ⟨rep_nodup hlong, rep_nodup hname, fun x hx y hy z => (rep_none hname).1 y hy (by rw [← z]; exact hx)⟩, by rw [List.length_append, List.length_map]; omega, _, rfl, ?_⟩
        refine ⟨.ref fl, rfl, fl, _, rfl, s35 _ _ ef, (bad_none hgroup).2, by omega, _, rfl, ?_⟩
        -- shorts that are unlike
        have S5 := S3.trans s35
        have T5 := T.same S5
        have ef5 := s35 _ _ ef
        refine ⟨.ref a, rfl, a, _, 1, .ref ao, rfl, rfl, SqL.of T5.ea, rfl, ao, rfl, ⟨_, SqL.of T5.eo⟩, fun C nC => ?_⟩
        refine lc_list (K := K) (a := ao) (xs := xo.map V.ref) (fun i Hc => Same H5 Hc ∧ Hc C = some (.lst ((((t.os.take i).map OT.short).filter fun z => !decide (V.str z = V.str (Str.ofString ""))).map V.str))) ⟨same_upd nC, upd_same⟩ (fun i Hc _ h => SqL.of (h.1 _ _ T5.eo)) (fun i v Hc hv ⟨sc, eD⟩ => ?_) (fun H6 ⟨s6, eC⟩ => ?_)
        · rw [List.getElem?_map] at hv
          obtain ⟨y, hy, rfl⟩ := Option.map_eq_some_iff.mp hv
          obtain ⟨o, ho, ey, _⟩ := T5.ho.2 i y hy
          have hi : i < xo.length := (List.getElem?_eq_some_iff.mp hy).1
          have ey' := sc _ _ ey
          refine ⟨rfl, .ref y, rfl, y, _, 1, .str o.short, rfl, rfl, SqL.of ey', rfl, rfl, _, rfl, ite2 (fun e => ?_) (fun e => ?_)⟩
          · refine ⟨.ref y, rfl, y, _, 1, .str o.short, rfl, rfl, SqL.of ey', rfl, _, eD, ?_, fun b u e => ?_, ?_⟩
            · rw [List.length_map]
              have := List.length_filter_le (fun z => !decide (V.str z = V.str (Str.ofString ""))) ((t.os.take i).map OT.short)
              rw [List.length_map, List.length_take] at this
              omega
            · rw [upd_ne (ne_of_none e nC)]
              exact sc _ _ e
            · rw [upd_same, List.take_add_one, ho, List.map_append, List.filter_append, List.map_append]
              simp only [Option.toList_some, List.map_cons, List.map_nil]
              rw [List.filter_cons_of_pos (by exact e)]
              rfl
          · refine ⟨sc, ?_⟩
            rw [eD, List.take_add_one, ho, List.map_append, List.filter_append]
            simp only [Option.toList_some, List.map_cons, List.map_nil]
            rw [List.filter_cons_of_neg (by exact e), List.filter_nil, List.append_nil]
        rw [List.length_map, T.ho.1, List.take_length] at eC
        have eC : H6 C = some (.lst ((shortsC t).map V.str)) := eC
        refine ⟨C, _, rfl, eC, rep_nodup hshort, ?_, _, rfl, ?_⟩
        · have := List.length_filter_le (fun z => !decide (V.str z = V.str (Str.ofString ""))) (t.os.map OT.short)
          rw [List.length_map] at this
          show (shortsC t).length ≤ 1000
          unfold shortsC
          omega
        have S6 := S5.trans s6
        have T6 := T.same S6
        have ef6 := s6 _ _ ef5
        -- not both
        simp only [Bool.not_true, Bool.false_eq_true, if_false]
        refine tt_gen (t := tAnd _ _) (fun v H' => v = false ∧ Same H6 H') (fun R c => ?_) ?_
        · refine ⟨.ref a, rfl, a, _, 2, .ref ap, rfl, rfl, SqL.of T6.ea, rfl, by show 0 ≤ sizeLine; decide, fun p0 n0 => ⟨ap, p0, _, rfl, rfl, same_upd n0 _ _ T6.ep, upd_same, _, rfl, ite2 (fun e => ?_) (fun e => ?_)⟩⟩
          · have c1 : 0 < t.ps.length := by
              rw [← T.hp.1]
              cases xp with
              | nil => cases e
              | cons x r => exact Nat.succ_pos _
            have c2 : xb = [] := by
              have : ¬ (0 < t.ps.length ∧ 0 < t.cs.length) := fun z => by
                unfold bothC at hboth
                rw [if_pos z] at hboth
                cases hboth
              have h0 : t.cs.length = 0 := by omega
              rw [h0] at lhb
              exact List.length_eq_zero_iff.mp lhb
            have T7 := T6.same (same_upd (o := .lst []) n0)
            have s7 := same_upd (o := .lst []) n0
            revert T7 s7
            generalize upd H6 p0 (.lst []) = H7
            intro T7 s7
            refine ⟨.ref a, rfl, a, _, 4, .ref ab, rfl, rfl, SqL.of T7.ea, rfl, by show 0 ≤ sizeLine; decide, fun p1 n1 => ⟨ab, p1, _, rfl, rfl, same_upd n1 _ _ T7.eb, upd_same, _, rfl, ?_⟩⟩
            exact c _ _ ⟨by rw [c2]; rfl, s7.trans (same_upd n1)⟩
          · exact c _ _ ⟨rfl, same_upd n0⟩
        rintro v7 H7 ⟨rfl, s7⟩
        have S7 := S6.trans s7
        have T7 := T.same S7
        have ef7 := s7 _ _ ef6
        -- what stands in groups may stand there
        refine ⟨.ref fl, rfl, fl, rfl, ⟨_, SqL.of ef7⟩, fun D nD => ?_⟩
        refine lc_list (K := K) (a := fl) (xs := t.gs.flatten.map V.str) (fun i Hc => Same H7 Hc ∧ Hc D = some (.lst ((List.replicate i true).map V.bl))) ⟨same_upd nD, upd_same⟩ (fun i Hc _ h => SqL.of (h.1 _ _ ef7)) (fun i v Hc hv ⟨sc, eD⟩ => ?_) (fun H8 ⟨s8, eD⟩ => ?_)
        · rw [List.getElem?_map] at hv
          obtain ⟨z, hz, rfl⟩ := Option.map_eq_some_iff.mp hv
          have hzi : i < t.gs.flatten.length := (List.getElem?_eq_some_iff.mp hz).1
          have hfree := ((bad_none hgroup).1 z (List.mem_of_getElem? hz)).1
          have Tc := T7.same sc
          refine ⟨rfl, .str z, rfl, .ref a, rfl, a, _, 1, .ref ao, rfl, rfl, SqL.of Tc.ea, rfl, ao, rfl, ⟨_, SqL.of Tc.eo⟩, fun M nM => ?_⟩
          refine lc_list (K := K) (a := ao) (xs := xo.map V.ref) (fun j He => Same Hc He ∧ He M = some (.lst ((((t.os.take j).filter fun o => !o.need).map OT.long).map V.str))) ⟨same_upd nM, upd_same⟩ (fun j He _ h => SqL.of (h.1 _ _ Tc.eo)) (fun j v He hv ⟨se, eM⟩ => ?_) (fun He ⟨se, eM⟩ => ?_)
          · rw [List.getElem?_map] at hv
            obtain ⟨y, hy, rfl⟩ := Option.map_eq_some_iff.mp hv
            obtain ⟨o, ho, ey, _⟩ := Tc.ho.2 j y hy
            have hj : j < xo.length := (List.getElem?_eq_some_iff.mp hy).1
            have ey' := se _ _ ey
            refine ⟨rfl, .ref y, rfl, y, _, 3, .bl o.need, rfl, rfl, SqL.of ey', rfl, _, rfl, ?_⟩
            cases hb : o.need with
            | true =>
              refine ⟨se, ?_⟩
              rw [eM, List.take_add_one, ho, List.filter_append, Option.toList_some, List.filter_cons_of_neg (by simp [hb]), List.filter_nil, List.append_nil]
            | false =>
              refine ⟨.ref y, rfl, y, _, 0, .str o.long, rfl, rfl, SqL.of ey', rfl, _, eM, ?_, fun b u e => ?_, ?_⟩
              · rw [List.length_map, List.length_map]
                have := List.length_filter_le (fun o : OT => !o.need) (t.os.take j)
                rw [List.length_take] at this
                omega
              · rw [upd_ne (ne_of_none e nM)]
                exact se _ _ e
              · rw [upd_same, List.take_add_one, ho, List.filter_append, Option.toList_some, List.filter_cons_of_pos (by simp [hb]), List.map_append, List.map_append]
                rfl
          rw [List.length_map, T.ho.1, List.take_length] at eM
          have eM : He M = some (.lst ((freeC t).map V.str)) := eM
          refine ⟨M, _, rfl, .inl (SqL.of eM), rfl, flat_strs _, _, se _ _ eD, by rw [List.length_map, List.length_replicate]; omega, fun b u e => ?_, ?_⟩
          · rw [upd_ne (ne_of_none e nD)]
            exact se _ _ (sc _ _ e)
          · rw [upd_same, rep_next, show inV (.str z) ((freeC t).map V.str) = true from not_in hfree]
            rfl
        refine ⟨D, List.replicate _ true, rfl, SqL.of eD, _, rfl, ite2 (fun e => ?_) (fun e => ?_)⟩
        · rw [all_true] at e
          cases e
        -- ranks
        have S8 := S7.trans s8
        have T8 := T.same S8
        refine ⟨.ref a, rfl, a, _, 2, .ref ap, rfl, rfl, SqL.of T8.ea, rfl, ap, rfl, ⟨_, SqL.of T8.ep⟩, fun R nR => ?_⟩
        refine lc_list (K := K) (a := ap) (xs := xp.map V.ref) (fun i Hc => Same H8 Hc ∧ Hc R = some (.lst (((t.ps.take i).map fun p => rkS p.many).map V.int))) ⟨same_upd nR, upd_same⟩ (fun i Hc _ h => SqL.of (h.1 _ _ T8.ep)) (fun i v Hc hv ⟨sc, eD⟩ => ?_) (fun H9 ⟨s9, eR⟩ => ?_)
        · rw [List.getElem?_map] at hv
          obtain ⟨y, hy, rfl⟩ := Option.map_eq_some_iff.mp hv
          obtain ⟨o, ho, ey, ok⟩ := T8.hp.2 i y hy
          have hi : i < xp.length := (List.getElem?_eq_some_iff.mp hy).1
          obtain ⟨j, hj1, hj2, hj3⟩ := idx_of ok.many
          refine ⟨rfl, by show 4 ≤ sizeLine; decide, fun M nM => ?_⟩
          have nRM : R ≠ M := ne_of_none eD nM
          have sM := sc.trans (same_upd (o := .lst manL) nM)
          have eM : (upd Hc M (.lst manL)) M = some (.lst manL) := upd_same
          have eD2 : (upd Hc M (.lst manL)) R = _ := same_upd nM _ _ eD
          refine ⟨Or.inl ⟨rfl, _, SqL.of eM⟩, .ref y, rfl, y, _, 1, .str o.many, rfl, rfl, SqL.of (sM _ _ ey), rfl, M, manL, .str o.many, j, .str o.many, rfl, rfl, SqL.of eM, rfl, rfl, hj2, show decide (o.many = o.many) = true from decide_eq_true rfl, fun m z' hm hz' => hj3 m z' hm hz', _, eD2, by rw [List.length_map, List.length_map, List.length_take]; omega, fun b u e => ?_, ?_⟩
          · rw [upd_ne (ne_of_none e nR)]
            exact sM _ _ e
          · rw [upd_same, List.take_add_one, ho, List.map_append, List.map_append, ← hj1]
            rfl
        rw [List.length_map, T.hp.1, List.take_length] at eR
        obtain ⟨rk1, rk2, rk3⟩ := ranks_ok (ps := t.ps) (fun p hp => by
          obtain ⟨x, _, ok⟩ := all2_mem T.hp hp
          exact ok.many) horder
        have lrk : (t.ps.map fun p => rkS p.many).length ≤ 6 := by rw [List.length_map]; exact lp
        revert eR rk1 rk2 rk3 lrk
        generalize (t.ps.map fun p => rkS p.many) = rs
        intro eR rk1 rk2 rk3 lrk
        have S9 := S8.trans s9
        refine ⟨.ref R, rfl, 1, rfl, _, rfl, R, _, rfl, SqL.of eR, fun l1 n1 => ?_⟩
        rw [cut_last, ← List.map_dropLast]
        refine ⟨l1, _, rfl, .inl (SqL.of upd_same), rfl, flat_ints _, _, rfl, ite2 (fun e => ?_) (fun e => ?_)⟩
        · exact absurd rfl (rk1 2 (inV_int.mp e)).1
        have s10 := same_upd (o := .lst (rs.dropLast.map V.int)) n1
        have eR10 := s10 _ _ eR
        revert s10 eR10
        generalize upd H9 l1 (.lst (rs.dropLast.map V.int)) = H10
        intro s10 eR10
        refine ⟨.ref R, rfl, 1, rfl, _, rfl, R, _, rfl, SqL.of eR10, fun l2 n2 => ?_⟩
        rw [cut_last, ← List.map_dropLast]
        refine ⟨l2, _, rfl, .inl (SqL.of upd_same), rfl, flat_ints _, _, rfl, ite2 (fun e => ?_) (fun e => ?_)⟩
        · exact absurd rfl (rk1 3 (inV_int.mp e)).2
        have s11 := s10.trans (same_upd (o := .lst (rs.dropLast.map V.int)) n2)
        have eR11 := s11 _ _ eR
        revert s11 eR11
        generalize upd H10 l2 (.lst (rs.dropLast.map V.int)) = H11
        intro s11 eR11
        refine ⟨.ref R, rfl, .ref R, rfl, R, rs, rfl, SqL.of eR11, by omega, fun rs' l3 hp hs n3 => ?_⟩
        obtain rfl := perm_sorted hp hs rk2
        have s12 := s11.trans (same_upd (o := .lst (rs'.map V.int)) n3)
        have eR12 := s12 _ _ eR
        have e12 : (upd H11 l3 (.lst (rs'.map V.int))) l3 = some (.lst (rs'.map V.int)) := upd_same
        revert s12 eR12 e12
        generalize upd H11 l3 (.lst (rs'.map V.int)) = H12
        intro s12 eR12 e12
        refine ⟨_, _, .lst (SqL.of eR12) (dp_ints rs'), .lst (SqL.of e12) (dp_ints rs'), inl_shaped, inl_shaped, _, rfl, ite2 (fun e => ?_) (fun e => ?_)⟩
        · rw [SeqAt.eqv_refl _ inl_lay] at e
          cases e
        refine ⟨.ref R, rfl, R, _, rfl, .inl (SqL.of eR12), rfl, flat_ints _, _, rfl, ?_⟩
        refine ite2 (fun e => ?_) (fun e => ?_)
        · refine ⟨.ref R, rfl, R, _, rfl, .inl (SqL.of eR12), rfl, flat_ints _, _, rfl, ite2 (fun e2 => ?_) (fun e2 => ?_)⟩
          · exact absurd ⟨inV_int.mp e, inV_int.mp e2⟩ rk3
          · have S12 := S9.trans s12
            have T12 := T.same S12
            refine ⟨.ref a, rfl, a, _, 4, .ref ab, rfl, rfl, SqL.of T12.ea, rfl, ab, rfl, ⟨_, SqL.of T12.eb⟩, fun N2 nN2 => ?_⟩
            refine lc_list (K := K) (a := ab) (xs := xb.map V.ref) (fun i Hc => Same H12 Hc ∧ Hc N2 = some (.lst (((t.cs.take i).map Ct.name).map V.str))) ⟨same_upd nN2, upd_same⟩ (fun i Hc _ h => SqL.of (h.1 _ _ T12.eb)) (fun i v Hc hv ⟨sc, eD⟩ => ?_) (fun H13 ⟨s13, eN2⟩ => ?_)
            · rw [List.getElem?_map] at hv
              obtain ⟨y, hy, rfl⟩ := Option.map_eq_some_iff.mp hv
              obtain ⟨cu, hcu, e0, he0, tu⟩ := T12.kids.2 i y hy
              obtain ⟨_, _, _, _, _, _, _, _, U⟩ := tu.op
              have hi : i < t.cs.length := (List.getElem?_eq_some_iff.mp hcu).1
              refine ⟨rfl, .ref y, rfl, y, _, 0, .str cu.name, rfl, rfl, SqL.of (sc _ _ U.ea), rfl, _, eD, by rw [List.length_map, List.length_map, List.length_take]; omega, fun b u e => ?_, ?_⟩
              · rw [upd_ne (ne_of_none e nN2)]
                exact sc _ _ e
              · rw [upd_same, List.take_add_one, hcu, List.map_append, List.map_append]
                rfl
            rw [List.length_map, T.hl, List.take_length] at eN2
            refine ⟨N2, _, rfl, eN2, rep_nodup hcmd, by rw [List.length_map]; omega, true, rfl, ?_⟩
            have S13 := S12.trans s13
            have T13 := T.same S13
            refine ⟨.ref a, rfl, a, _, 4, .ref ab, rfl, rfl, SqL.of T13.ea, rfl, ab, rfl, ⟨_, SqL.of T13.eb⟩, fun B2 nB2 => ?_⟩
            refine lc_list (K := K) (a := ab) (xs := xb.map V.ref) (fun i Hc => Same H13 Hc ∧ Hc B2 = some (.lst ((List.replicate i true).map V.bl))) ⟨same_upd nB2, upd_same⟩ (fun i Hc _ h => SqL.of (h.1 _ _ T13.eb)) (fun i v Hc hv ⟨sc, eD⟩ => ?_) (fun H14 ⟨s14, eB2⟩ => ?_)
            · rw [List.getElem?_map] at hv
              obtain ⟨y, hy, rfl⟩ := Option.map_eq_some_iff.mp hv
              obtain ⟨cu, hcu, e0, he0, tu⟩ := T13.kids.2 i y hy
              obtain rfl : e0 = d := by omega
              have hi : i < t.cs.length := (List.getElem?_eq_some_iff.mp hcu).1
              refine ⟨rfl, .ref y, rfl, .int _, rfl, _, _, rfl, rfl, y, cu, above ++ [t.name], by rw [List.length_append]; rfl, tu.same sc, hkids cu (List.mem_of_getElem? hcu), fun H' s' => ⟨_, s' _ _ eD, by rw [List.length_map, List.length_replicate]; omega, fun b u e => ?_, ?_⟩⟩
              · rw [upd_ne (ne_of_none e nB2)]
                exact s' _ _ (sc _ _ e)
              · rw [upd_same, rep_next]
            refine ⟨B2, List.replicate _ true, rfl, SqL.of eB2, ?_⟩
            rw [all_true]
            exact q _ (S13.trans s14)
        · have S12 := S9.trans s12
          have T12 := T.same S12
          refine ⟨.ref a, rfl, a, _, 4, .ref ab, rfl, rfl, SqL.of T12.ea, rfl, ab, rfl, ⟨_, SqL.of T12.eb⟩, fun N2 nN2 => ?_⟩
          refine lc_list (K := K) (a := ab) (xs := xb.map V.ref) (fun i Hc => Same H12 Hc ∧ Hc N2 = some (.lst (((t.cs.take i).map Ct.name).map V.str))) ⟨same_upd nN2, upd_same⟩ (fun i Hc _ h => SqL.of (h.1 _ _ T12.eb)) (fun i v Hc hv ⟨sc, eD⟩ => ?_) (fun H13 ⟨s13, eN2⟩ => ?_)
          · rw [List.getElem?_map] at hv
            obtain ⟨y, hy, rfl⟩ := Option.map_eq_some_iff.mp hv
            obtain ⟨cu, hcu, e0, he0, tu⟩ := T12.kids.2 i y hy
            obtain ⟨_, _, _, _, _, _, _, _, U⟩ := tu.op
            have hi : i < t.cs.length := (List.getElem?_eq_some_iff.mp hcu).1
            refine ⟨rfl, .ref y, rfl, y, _, 0, .str cu.name, rfl, rfl, SqL.of (sc _ _ U.ea), rfl, _, eD, by rw [List.length_map, List.length_map, List.length_take]; omega, fun b u e => ?_, ?_⟩
            · rw [upd_ne (ne_of_none e nN2)]
              exact sc _ _ e
            · rw [upd_same, List.take_add_one, hcu, List.map_append, List.map_append]
              rfl
          rw [List.length_map, T.hl, List.take_length] at eN2
          refine ⟨N2, _, rfl, eN2, rep_nodup hcmd, by rw [List.length_map]; omega, true, rfl, ?_⟩
          have S13 := S12.trans s13
          have T13 := T.same S13
          refine ⟨.ref a, rfl, a, _, 4, .ref ab, rfl, rfl, SqL.of T13.ea, rfl, ab, rfl, ⟨_, SqL.of T13.eb⟩, fun B2 nB2 => ?_⟩
          refine lc_list (K := K) (a := ab) (xs := xb.map V.ref) (fun i Hc => Same H13 Hc ∧ Hc B2 = some (.lst ((List.replicate i true).map V.bl))) ⟨same_upd nB2, upd_same⟩ (fun i Hc _ h => SqL.of (h.1 _ _ T13.eb)) (fun i v Hc hv ⟨sc, eD⟩ => ?_) (fun H14 ⟨s14, eB2⟩ => ?_)
          · rw [List.getElem?_map] at hv
            obtain ⟨y, hy, rfl⟩ := Option.map_eq_some_iff.mp hv
            obtain ⟨cu, hcu, e0, he0, tu⟩ := T13.kids.2 i y hy
            obtain rfl : e0 = d := by omega
            have hi : i < t.cs.length := (List.getElem?_eq_some_iff.mp hcu).1
            refine ⟨rfl, .ref y, rfl, .int _, rfl, _, _, rfl, rfl, y, cu, above ++ [t.name], by rw [List.length_append]; rfl, tu.same sc, hkids cu (List.mem_of_getElem? hcu), fun H' s' => ⟨_, s' _ _ eD, by rw [List.length_map, List.length_replicate]; omega, fun b u e => ?_, ?_⟩⟩
            · rw [upd_ne (ne_of_none e nB2)]
              exact s' _ _ (sc _ _ e)
            · rw [upd_same, rep_next]
          refine ⟨B2, List.replicate _ true, rfl, SqL.of eB2, ?_⟩
          rw [all_true]
          exact q _ (S13.trans s14)
end
end WB

set_option Elab.async false
set_option linter.all false
set_option maxRecDepth 100000
set_option maxHeartbeats 4000000
set_option pp.maxSteps 2500
namespace WB
open PySem PySem.Spec PyProof.Rows L2 WG WS
open TL (tl)
abbrev st_law : Stmt := topS 86
theorem sc_law : FnScope ["_law_script", "_law_k", "_law_pot_here", "_law_tree_here", "_law_turn", "_law_most", "_law_told", "_law_one"] ["_law_script"] (defScope st_law) := ⟨rfl, rfl, rfl, by decide +kernel, rfl, by decide +kernel, by decide +kernel⟩
def rLenK (K : PySem.W.Frag) : List V → Hp → VK → Prop := fun xs H Q => ∃ (p : Addr) (ys : List V), xs = [V.ref p] ∧ (SqL K H p ys ∨ SqT K H p ys) ∧ Q (.int ys.length) H
theorem len_K {X : Cx} {K : PySem.W.Frag} (hK : X.K = K) : CallR X (.builtin "len") (rLenK K) := by
  subst hK
  exact call_len_seq
/-- a told clash -/
def ClAt (H : Hp) (v : V) (c : Option (List Str × Str × Str)) : Prop := match c with
  | none => v = .non
  | some (p, k, z) => ∃ r l, v = .ref r ∧ H r = some (.tup [.ref l, .str k, .str z]) ∧ H l = some (.lst (p.map V.str))
theorem first_of {CO CP CC : Addr} {d : Nat} {x : Addr} {t : Ct} {H : Hp} {Q : VK} {E : XK} (cd : CdAt CO CP CC H d x t) (ld : d ≤ 100) (q : ∀ v H', Same H H' → ClAt H' v (clashIn [] t) → Q v H') : spFirst CO CP CC d [.ref x] H Q E :=
  ⟨x, t, rfl, cd, ld, fun hn H' s => q _ _ s (by rw [hn]; rfl), fun p k z hs H' r l s nr nl hne er el => q _ _ s (by rw [hs]; exact ⟨r, l, rfl, er, el⟩)⟩
theorem Dn.len {H : Hp} {q : List Str} {a c : Addr} (h : Dn H q a c) : ∀ (d : Nat) (t : Ct), TrAt H d a t → q.length ≤ d := by
  induction h with
  | nil a => exact fun d t _ => Nat.zero_le _
  | cons ea eb hn hb nb un dn ih =>
    intro d t tr
    obtain ⟨ao, ap, ag, ab, xo, xp, xg, xb, T⟩ := tr.op
    obtain ⟨_, rfl⟩ := kid_same T ea eb
    obtain ⟨u, _, e, he, tu⟩ := T.kids.2 _ _ hb
    have := ih e u tu
    rw [List.length_cons]
    omega
theorem own_le {H : Hp} {d : Nat} {a : Addr} {t : Ct} (h : TrAt H d a t) : ownN t ≤ 23 := by
  obtain ⟨ao, ap, ag, ab, xo, xp, xg, xb, T⟩ := h.op
  have := T.lo
  have := T.lp
  have := T.lg
  unfold ownN
  omega
theorem sum_le23 : ∀ us : List Ct, (∀ u ∈ us, ownN u ≤ 23) → (us.map ownN).sum ≤ 23 * us.length
  | [], _ => Nat.le_refl _
  | u :: r, h => by
    have h1 := h u List.mem_cons_self
    have h2 := sum_le23 r fun x hx => h x (List.mem_cons_of_mem _ hx)
    rw [List.map_cons, List.sum_cons, List.length_cons]
    omega
theorem int_sum : ∀ us : List Ct, (us.map fun u => ((ownN u : Nat) : Int)).sum = (((us.map ownN).sum : Nat) : Int)
  | [] => rfl
  | u :: r => by
    rw [List.map_cons, List.sum_cons, int_sum r, List.map_cons, List.sum_cons]
    omega
theorem but_in {H0 H H' : Hp} {p : Addr} (s : Same H0 H) (b : But p H H') (n : H0 p = none) : Same H0 H' := fun c o e => b c o (ne_of_none e n) (s c o e)
def sp44 : Sp := fun vs H Q E => ∃ m ϕ, spSpoilt 44 m ϕ vs H Q E
section
variable {P : Program} {w : World} {K : PySem.W.Frag} {mg : Str → Option Value} {base : Heap}
theorem fn_44 {k : Nat} {f : Addr} {fd : FuncData} {ps : List Str} {CX : CXT} (G : ∀ m ϕ, FnOk P w K mg base CX k f fd ps (spSpoilt 44 m ϕ)) : FnOk P w K mg base CX k f fd ps sp44 :=
  ⟨fun vs H Q E ⟨m, ϕ, q⟩ => (G m ϕ).len vs H Q E q, fun A outer s H args us vs Q E hr he hb hv ⟨m, ϕ, q⟩ => (G m ϕ).run A outer s H args us vs Q E hr he hb hv q⟩
def spLaw (K : PySem.W.Frag) : Sp := fun vs H Q _ => ∃ (a : Addr) (ns : List Int), vs = [.ref a] ∧ SqL K H a (ns.map V.int) ∧ ns.length ≤ 63 ∧ ∀ H', Q (.bl true) H'
theorem ok_law {CO CP CC f fP fT fN fTr fSp fAl fCo fFi fMe fCl : Addr} {fd fdPt fdT fdN fdTr fdSp fdAl fdCo fdFi fdMe fdCl : FuncData} {k : Nat} (F : Fun K "law" "law" st_law f fd)
    (D_pot : Df K mg "_law_pot" sPot ["_law_script", "_law_k"] fP fdPt) (D_take : Df K mg "_law_take" sTake ["_law_pot_here", "_law_room"] fT fdT) (D_name : Df K mg "_law_name" sName ["_law_pot_here"] fN fdN) (D_tree : Df K mg "_law_tree" st_tree ["_law_pot_here", "_law_name_here", "_law_deep", "_law_left"] fTr fdTr) (D_spoilt : Df K mg "_law_spoilt" st_spoilt ["_law_pot_here", "_law_whole"] fSp fdSp)
    (D_all : Df K mg "_law_all" st_all ["_law_tree_here"] fAl fdAl) (D_command : Df K mg "_law_command" st_command ["_law_tree_here"] fCo fdCo) (D_first_clash : Df K mg "first_clash" st_first_clash ["command"] fFi fdFi) (D_mended : Df K mg "_law_mended" st_mended ["_law_tree_here", "_law_told"] fMe fdMe) (D_is_clean : Df K mg "_law_is_clean" st_is_clean ["_law_tree_here", "_law_deep"] fCl fdCl)
    (G_pot : FnOk P w K mg base CX0 k fP fdPt ["_law_script", "_law_k"] (spPot K)) (G_take : FnOk P w K mg base CX0 k fT fdT ["_law_pot_here", "_law_room"] spTake) (G_name : FnOk P w K mg base CX0 k fN fdN ["_law_pot_here"] spNm) (G_tree : FnOk P w K mg base CX0 k fTr fdTr ["_law_pot_here", "_law_name_here", "_law_deep", "_law_left"] (spTree 4)) (G_spoilt : FnOk P w K mg base CX0 k fSp fdSp ["_law_pot_here", "_law_whole"] sp44)
    (G_all : FnOk P w K mg base CX0 k fAl fdAl ["_law_tree_here"] (spAllT 44)) (G_command : FnOk P w K mg base CX0 k fCo fdCo ["_law_tree_here"] (spCommand CO CP CC 44)) (G_first_clash : FnOk P w K mg base CX0 k fFi fdFi ["command"] (spFirst CO CP CC 44)) (G_mended : FnOk P w K mg base CX0 k fMe fdMe ["_law_tree_here", "_law_told"] spMended) (G_is_clean : FnOk P w K mg base CX0 k fCl fdCl ["_law_tree_here", "_law_deep"] (spClean 44))
    (m_len : mg "len" = none) (m_max : mg "max" = none) (m_min : mg "min" = none) (m_range : mg "range" = none) (m_sum : mg "sum" = none) (m_isinstance : mg "isinstance" = none) (m_tuple : mg "tuple" = none) :
    FnOk P w K mg base CX0 (k + 1) f fd ["_law_script"] (spLaw K) := by
  refine F.ok sc_law (fun vs H Q E h => ?_) (fun cdv A outer s H vs Q E hr h => ?_)
  · obtain ⟨a, ns, rfl, _⟩ := h
    rfl
  · obtain ⟨a, ns, rfl, hS, hlen, q⟩ := h
    have sl : sizeLine = 16777216 := sizeLine_eq
    refine ⟨_, pss_cons (ps_for PassesOwn.never rfl (pi_range1 rfl m_range (pa_cons (pe_callB (call_max2 rfl) (by rfl) m_max (by decide +kernel) (pa_cons pe_int (pa_cons (pe_callB (call_min2 rfl) (by rfl) m_min (by decide +kernel) (pa_cons (pe_callB call_len_seq (by rfl) m_len PySem.boot_len (pa_cons (pv 0) pa_nil)) (pa_cons pe_int pa_nil))) pa_nil))) pa_nil)) (pg_name (i := 1) sc_law.nd rfl (Or.inl rfl)) (pss_cons (ps_set (i := 2) sc_law.nd rfl (.inl rfl) (pe_call G_pot hr (by rfl) D_pot.g D_pot.F.kp D_pot.b .nil pass0 (pa_cons (pv 0) (pa_cons (pv 1) pa_nil))))
      (pss_cons (ps_set (i := 3) sc_law.nd rfl (.inl rfl) (pe_call G_tree hr (by rfl) D_tree.g D_tree.F.kp D_tree.b .nil pass0 (pa_cons (pv 2) (pa_cons (pe_call G_name hr (by rfl) D_name.g D_name.F.kp D_name.b .nil pass0 (pa_cons (pv 2) pa_nil)) (pa_cons pe_int (pa_cons (pe_lst (pa_cons (pe_call G_take hr (by rfl) D_take.g D_take.F.kp D_take.b .nil pass0 (pa_cons (pv 2) (pa_cons pe_int pa_nil))) pa_nil)) pa_nil))))))
      (pss_cons (ps_for PassesOwn.never rfl (pi_range1 rfl m_range (pa_cons (pe_call G_take hr (by rfl) D_take.g D_take.F.kp D_take.b .nil pass0 (pa_cons (pv 2) (pa_cons pe_int pa_nil))) pa_nil)) (pg_name (i := 4) sc_law.nd rfl (Or.inl rfl)) (pss_one (ps_if (pt_cmpR op_lt (pe_callB call_len_seq (by rfl) m_len PySem.boot_len (pa_cons (pe_call G_all hr (by rfl) D_all.g D_all.F.kp D_all.b .nil pass0 (pa_cons (pv 3) pa_nil)) pa_nil)) pe_int (nomark _)) (pss_one (ps_expr (pe_call G_spoilt hr (by rfl) D_spoilt.g D_spoilt.F.kp D_spoilt.b .nil pass0 (pa_cons (pv 2) (pa_cons (pv 3) pa_nil))))) pss_nil)))
      (pss_cons (ps_set (i := 5) sc_law.nd rfl (.inl rfl) (pe_callB (cr_sum rfl) (by rfl) m_sum (by decide +kernel) (pa_cons (pe_lc (own := [("_law_one", 7)]) (g := gName 7) (tt := tYes) rfl sc_law.nd (pi_list (pe_call G_all hr (by rfl) D_all.g D_all.F.kp D_all.b .nil pass0 (pa_cons (pv 3) pa_nil))) (blkOk_by (N := ["_law_script", "_law_k", "_law_pot_here", "_law_tree_here", "_law_turn", "_law_most", "_law_told", "_law_one"]) (sc := defScope st_law) (by decide +kernel)) (fun _ _ _ _ _ => (pg_name (i := 7) sc_law.nd rfl (Or.inl rfl))) (fun _ _ _ _ _ => pts_nil) (fun _ _ _ _ _ => (pe_op op_add (pe_op op_add (pe_op op_add pe_int (pe_callB (id := "len") (r := rLenK K) (len_K rfl) (by rfl) m_len PySem.boot_len (pa_cons (pe_ix (r := rIxL K) ix_list (pv 7) pe_int (fun _ _ => rfl)) pa_nil))) (pe_callB (id := "len") (r := rLenK K) (len_K rfl) (by rfl) m_len PySem.boot_len (pa_cons (pe_ix (r := rIxL K) ix_list (pv 7) pe_int (fun _ _ => rfl)) pa_nil))) (pe_callB (id := "len") (r := rLenK K) (len_K rfl) (by rfl) m_len PySem.boot_len (pa_cons (pe_ix (r := rIxL K) ix_list (pv 7) pe_int (fun _ _ => rfl)) pa_nil))))) pa_nil)))
      (pss_cons (ps_set (i := 6) sc_law.nd rfl (.inl rfl) (pe_call G_first_clash hr (by rfl) D_first_clash.g D_first_clash.F.kp D_first_clash.b .nil pass0 (pa_cons (pe_call G_command hr (by rfl) D_command.g D_command.F.kp D_command.b .nil pass0 (pa_cons (pv 3) pa_nil)) pa_nil)))
      (pss_cons (ps_for PassesOwn.never rfl (pi_range1 rfl m_range (pa_cons (pv 5) pa_nil)) (pg_name (i := 4) sc_law.nd rfl (Or.inl rfl)) (pss_one (ps_if (pt_cmpR op_notN (pv 6) pe_non (nomark _)) (pss_cons (ps_if (PW.pt (pw_or (pt_not (pt_val (pe_callB call_isi (by rfl) m_isinstance (by decide +kernel) (pa_cons (pv 6) (pa_cons (pe_bltn (v := .ty "tuple") (by rfl) m_tuple (by decide +kernel) rfl) pa_nil))))) (pw_or (pt_cmpR op_ne (pe_callB call_len_seq (by rfl) m_len PySem.boot_len (pa_cons (pv 6) pa_nil)) pe_int (nomark _)) (pw_or1 (pt_not (pt_val (pe_call G_mended hr (by rfl) D_mended.g D_mended.F.kp D_mended.b .nil pass0 (pa_cons (pv 3) (pa_cons (pv 6) pa_nil))))))))) (pss_one (ps_ret pe_bl)) pss_nil)
      (pss_one (ps_set (i := 6) sc_law.nd rfl (.inl rfl) (pe_call G_first_clash hr (by rfl) D_first_clash.g D_first_clash.F.kp D_first_clash.b .nil pass0 (pa_cons (pe_call G_command hr (by rfl) D_command.g D_command.F.kp D_command.b .nil pass0 (pa_cons (pv 3) pa_nil)) pa_nil))))) pss_nil)))
      (pss_one (ps_if (PW.pt (pw_or (pt_cmpR op_notN (pv 6) pe_non (nomark _)) (pw_or1 (pt_not (pt_val (pe_call G_is_clean hr (by rfl) D_is_clean.g D_is_clean.F.kp D_is_clean.b .nil pass0 (pa_cons (pv 3) (pa_cons pe_int pa_nil)))))))) (pss_one (ps_ret pe_bl)) pss_nil)))))))))
      (pss_one (ps_ret pe_bl)), ?_⟩
    refine ⟨.ref a, rfl, a, _, rfl, .inl hS, _, 6, rfl, 1, _, rfl, _, rfl, ?_, ?_, for_range (lo := 0) (n := _) (fun i σ H' => Same H H' ∧ ∃ x1 x2 x3 x4 x5 x6 x7, σ = [some (.ref a), x1, x2, x3, x4, x5, x6, x7])
      ⟨Same.refl _, none, none, none, none, none, none, none, rfl⟩ ?_ ?_⟩
    · split <;> split <;> omega
    · split <;> split <;> omega
    · rintro i σ H0 hi ⟨sm, x1, x2, x3, x4, x5, x6, x7, rfl⟩
      have hi63 : i < 63 := by
        revert hi
        split <;> split <;> intro hi <;> omega
      refine ⟨.ref a, rfl, .int (0 + (i : Int)), rfl, a, ns, _, rfl, sm.seq hS, by omega, by omega, fun H1 p s1 np p1 => ?_⟩
      -- a tree
      refine ⟨.ref p, rfl, .ref p, rfl, p, rfl, p1, fun H2 z b2 p2 hz => ?_⟩
      refine ⟨.ref p, rfl, p, 10, rfl, p2, by decide, by decide, fun H3 d3 b3 p3 d30 d31 => ⟨by show 1 ≤ sizeLine; decide, fun lf nlf => ?_⟩⟩
      have S3 : Same H0 H3 := but_in s1 (b2.trans b3) np
      have nlp : lf ≠ p := (p3.ne nlf).symm
      have S4 : Same H0 (upd H3 lf (.lst [.int d3])) := S3.trans (same_upd nlf)
      refine ⟨p, lf, z, d3, fun _ => .no, rfl, p3.new nlf, hz, nlp, upd_same, d30, by omega, fun _ => trivial, rfl, by decide, by decide, fun H5 t κ5 left5 wy l50 l51 wt kt wtl nt => ?_⟩
      have nl0 : H0 lf = none := fresh_of S3 nlf
      have S5 : Same H0 H5 := fun b o e => wy.b b o (ne_of_none e np) (ne_of_none e nl0) (S4 b o e)
      have no5 : ∀ b, H0 b ≠ none → κ5 b = .no := fun b hb => by
        cases e : H0 b with
        | none => exact absurd e hb
        | some o => exact wy.g.k b (some_al (S4 b o e))
      have mn5 : Mn κ5 41 := fun b r u e => (wy.g.nd b r u e).elim (fun z => by cases z) id
      have kt5 : κ5 t = .node 44 wt := kt
      have wt5 : wt ≤ 130 := by omega
      have kp5 := wy.g.th.pot wy.p
      have th5 : TH 0 κ5 H5 := wy.g.th.weak (Nat.zero_le _)
      -- put otherwise
      refine ⟨.ref p, rfl, p, 10, rfl, wy.p, by decide, by decide, fun H6 d6 b6 p6 d60 d61 => ⟨d6, rfl, by omega, by omega, for_range (lo := 0) (n := d6.toNat) (fun j σ Hc => ∃ κ wc, Same H0 Hc ∧ Pot Hc p ∧ TH 0 κ Hc ∧ κ t = .node 44 wc ∧ wc ≤ 130 ∧ Mn κ (41 - 4 * j) ∧ (∀ b, H0 b ≠ none → κ b = .no) ∧ ∃ y4, σ = [some (.ref a), some (.int (0 + (i : Int))), some (.ref p), some (.ref t), y4, x5, x6, x7])
        ⟨κ5, wt, but_in S5 b6 np, p6, th5.but2 (q := p) (But2.of b6) kp5 kp5, kt5, wt5, mn5, no5, _, rfl⟩ ?_ ?_⟩⟩
      · rintro j σ Hc hj ⟨κ, wc, S, pc, th, ktc, wcl, mn, no, y4, rfl⟩
        have j9 : j < 9 := by omega
        obtain ⟨T, tr⟩ := tr_of th 44 t wc ktc
        have hcnt := cnt_tr 44 t T tr
        have hle := cnt_le th 44 t wc ktc
        refine ⟨.ref t, rfl, t, T, rfl, tr, by omega, fun Ha l xs sa nl el hx => ?_⟩
        refine ⟨l, _, rfl, .inl (SqL.of el), _, _, rfl, rfl, _, rfl, ite2 (fun e => ?_) (fun e => ?_)⟩
        · have e' : (((xs.map V.ref).length : Nat) : Int) < 26 := of_decide_eq_true e
          rw [List.length_map, hx.1] at e'
          have tha := th.same sa
          have hcnt2 := cnt_tr 44 t T (tr.same sa)
          have kr := rew_node (ϕ := 4) (H := Ha) ktc
          have e17 : 41 - 4 * (j + 1) + 4 = 41 - 4 * j := by omega
          refine ⟨.ref p, rfl, .ref t, rfl, 41 - 4 * (j + 1), 0, p, t, rew 4 κ Ha, _, rfl, pc.same sa, tha.rew 4, kr, by omega, by rw [e17]; exact mn.rew, by omega, by omega, fun H' κ' U => ?_⟩
          refine ⟨κ', _, fun b o e => U.fr b o (rew_no (no b (some_al e))) (ne_of_none e np) (sa _ _ (S b o e)), U.p, U.g.th, U.g.rl ((tha.rew 4).weak (Nat.zero_le _)) kr (by simp), by omega, U.mn (m := 41 - 4 * (j + 1)) mn.rew (by omega), fun b hb => ?_, _, rfl⟩
          cases e : H0 b with
          | none => exact absurd e hb
          | some o => rw [U.g.k b (some_al (sa _ _ (S b o e)))]; exact rew_no (no b hb)
        · refine ⟨κ, wc, S.trans sa, pc.same sa, th.same sa, ktc, wcl, fun b r u e => ?_, no, _, rfl⟩
          have := mn b r u e
          omega
      · rintro σ H7 ⟨κ, w7, S7, p7, th7, kt7, w7l, mn7, no7, y4, rfl⟩
        obtain ⟨T, tr⟩ := tr_of th7 44 t w7 kt7
        have hcnt := cnt_tr 44 t T tr
        have hle := cnt_le th7 44 t w7 kt7
        -- how many things
        refine ⟨.ref t, rfl, t, T, rfl, tr, by omega, fun H8 l xs s8 nl el hx => ⟨l, rfl, ⟨_, SqL.of el⟩, fun D nD => ?_⟩⟩
        refine lc_list (K := K) (a := l) (xs := xs.map V.ref) (fun i Hc => Same H8 Hc ∧ Hc D = some (.lst ((((allC T).take i).map fun u => ((ownN u : Nat) : Int)).map V.int))) ⟨same_upd nD, upd_same⟩ (fun i Hc _ h => SqL.of (h.1 _ _ el)) (fun i v Hc hv ⟨sc, eD⟩ => ?_) (fun H9 ⟨s9, eD⟩ => ?_)
        · rw [List.getElem?_map] at hv
          obtain ⟨y, hy, rfl⟩ := Option.map_eq_some_iff.mp hv
          obtain ⟨u, hu, e0, tu⟩ := hx.2 i y hy
          have hi : i < (allC T).length := (List.getElem?_eq_some_iff.mp hu).1
          obtain ⟨uo, up, ug, ub, yo, yp, yg, yb, U0⟩ := tu.op
          have U := U0.same sc
          refine ⟨rfl, .ref y, rfl, y, _, 1, .ref uo, rfl, rfl, SqL.of U.ea, rfl, uo, _, rfl, .inl (SqL.of U.eo), _, _, rfl, rfl, .ref y, rfl, y, _, 2, .ref up, rfl, rfl, SqL.of U.ea, rfl, up, _, rfl, .inl (SqL.of U.ep), _, _, rfl, rfl, .ref y, rfl, y, _, 3, .ref ug, rfl, rfl, SqL.of U.ea, rfl, ug, _, rfl, .inl (SqL.of U.eg), _, _, rfl, rfl, _, eD, by rw [List.length_map, List.length_map, List.length_take]; omega, fun b u e => ?_, ?_⟩
          · rw [upd_ne (ne_of_none e nD)]
            exact sc _ _ e
          · rw [upd_same, List.take_add_one, hu, List.map_append, List.map_append]
            simp only [Option.toList_some, List.map_cons, List.map_nil, List.length_map]
            rw [U.ho.1, U.hp.1, U.hg.1]
            unfold ownN
            congr 4
        rw [List.length_map, hx.1, List.take_length] at eD
        refine ⟨D, _, rfl, SqL.of eD, ?_⟩
        rw [int_sum, ← szC_all]
        have hown : szC T ≤ 23 * (allC T).length := by
          rw [szC_all]
          refine sum_le23 _ fun u hu => ?_
          obtain ⟨x, e0, tu⟩ := all2_mem hx hu
          exact own_le tu
        have S9 := s8.trans s9
        have tr9 := tr.same S9
        have th9 := th7.same S9
        -- what clashes first
        refine ⟨.ref t, rfl, t, T, rfl, tr9, fun H10 x s10 nx cx => ?_⟩
        delta tNil
        show spFirst CO CP CC 44 [.ref x] H10 _ _
        refine first_of (cx.same (nwl_le _ _)) (by decide) fun v H11 s11 cl => ?_
        have S11 := (S9.trans s10).trans s11
        refine ⟨.int (szC T), rfl, _, rfl, by omega, by omega, for_range (lo := 0) (n := szC T) (fun j σ Hc => ∃ κ wc Tj v, Same H0 Hc ∧ TH 0 κ Hc ∧ κ t = .node 44 wc ∧ (∀ b, H0 b ≠ none → κ b = .no) ∧ TrAt Hc 44 t Tj ∧ ClAt Hc v (clashIn [] Tj) ∧ (clashIn [] Tj ≠ none → szC Tj + j ≤ szC T) ∧ ∃ y4, σ = [some (.ref a), some (.int (0 + (i : Int))), some (.ref p), some (.ref t), y4, some (.int (szC T)), some v, x7])
          ⟨κ, w7, T, v, S7.trans S11, th7.same S11, kt7, no7, tr.same S11, cl, fun _ => Nat.le_refl _, _, rfl⟩ ?_ ?_⟩
        · rintro j σ Hc hj ⟨κc, wc, Tj, vj, S, th, ktc, no, trc, clj, hsz, y4, rfl⟩
          cases hc : clashIn [] Tj with
          | none =>
            rw [hc] at clj
            have hv : vj = .non := clj
            subst hv
            refine ⟨.non, rfl, rfl, _, rfl, ?_⟩
            exact ⟨κc, wc, Tj, .non, S, th, ktc, no, trc, by rw [hc]; rfl, fun h => absurd hc h, _, rfl⟩
          | some y =>
            obtain ⟨pp, kd, z'⟩ := y
            rw [hc] at clj
            obtain ⟨r, l', rfl, er, el'⟩ := clj
            have hlp : pp.length ≤ 1000 := by
              obtain ⟨qs, c, e0, u, hp, dn, _⟩ := clash_dn 44 t Tj [] pp kd z' trc hc
              have := dn.len 44 Tj trc
              rw [hp]
              show (Tj.name :: qs).length ≤ 1000
              rw [List.length_cons]
              omega
            refine ⟨.ref r, rfl, rfl, _, rfl, ?_⟩
            refine ⟨.ref r, rfl, .ref r, _, _, _, true, rfl, ClsV.ty "tuple", TyX.base (.tup er), kit_ty (show kitB "tuple" "tuple" = some true from by decide +kernel), _, rfl, ?_⟩
            refine ⟨.ref r, rfl, r, _, rfl, .inr (SqT.of er), rfl, _, rfl, ?_⟩
            refine ⟨.ref t, rfl, .ref r, rfl, t, r, l', Tj, κc, 44, wc, 44, pp, kd, z', rfl, th, ktc, trc, by decide, hc, er, el', hlp, fun H' κ' md => ⟨_, rfl, ?_⟩⟩
            have kt' : κ' t = .node 44 wc := by
              rw [md.k t (by obtain ⟨_, _, _, _, _, _, _, _, U⟩ := trc.op; exact some_al U.ea)]
              exact ktc
            obtain ⟨T', tr'⟩ := tr_of md.th 44 t wc kt'
            have hlt := md.sz 44 T' tr'
            refine ⟨.ref t, rfl, t, T', rfl, tr', fun Hx x2 sx nx2 cx2 => ?_⟩
            show spFirst CO CP CC 44 [.ref x2] Hx _ _
            refine first_of (cx2.same (nwl_le _ _)) (by decide) fun v2 Hy sy cl2 => ?_
            have Sxy := sx.trans sy
            refine ⟨κ', wc, T', v2, (fun b o e => Sxy _ _ (md.fr b o (no b (some_al e)) (S b o e))), md.th.same Sxy, kt', fun b hb => ?_, tr'.same Sxy, cl2, fun _ => ?_, _, rfl⟩
            · cases e : H0 b with
              | none => exact absurd e hb
              | some o => rw [md.k b (some_al (S b o e))]; exact no b hb
            · have := hsz (by rw [hc]; simp)
              omega
        · rintro σ H12 ⟨κc, wc, Tj, vj, S, th, ktc, no, trc, clj, hsz, y4, rfl⟩
          have hn : clashIn [] Tj = none := by
            cases hc : clashIn [] Tj with
            | none => rfl
            | some y =>
              have h1 := hsz (by rw [hc]; simp)
              have h2 := szC_pos Tj
              omega
          rw [hn] at clj
          have hv : vj = .non := clj
          subst hv
          refine ⟨.non, rfl, rfl, _, rfl, ?_⟩
          refine ⟨.ref t, rfl, t, Tj, [], rfl, trc, hn, fun H13 s13 => ⟨_, rfl, ?_⟩⟩
          exact ⟨sm.trans (S.trans s13), _, _, _, _, _, _, _, rfl⟩
    · rintro σ H3 ⟨sm, x1, x2, x3, x4, x5, x6, x7, rfl⟩
      exact q _
end
end WB

set_option Elab.async false
set_option linter.all false
set_option maxRecDepth 100000
set_option maxHeartbeats 4000000
namespace WB
open PySem PySem.Spec PyProof.Rows L2 WG WS
open TL (tl)
theorem df_mk {K : PySem.W.Frag} {h : Heap} {mg : Str → Option Value} {x : Str} {st : Stmt} {ps : List Str} {f : Addr} {oc : Value} {od an : Option Addr} {osl : Array (Option Value)} {kV doc pm cdv ct : Value} (X : K.In h) (G : h.Ns mainGlobals mg)
    (a : PySem.W.nsIn K mainGlobals x = some (some (.ref f))) (l : K.lookup f = some ⟨oc, od, .func (PySem.W.fnOf x x (defArgs st) (defBody st) (defScope st) .none kV doc pm an cdv ct), osl⟩)
    (c : PySem.W.codeIn K cdv x = true) (k : PySem.W.keepIn K (.ref f) = true)
    (b : ∀ (kV doc pm : Value) (an : Option Addr) (cdv ct : Value) (us : List Value), us.length = ps.length → bindArgs (PySem.W.fnOf x x (defArgs st) (defBody st) (defScope st) .none kV doc pm an cdv ct) ⟨us, []⟩ = pure (ps.zip us)) :
    Df K mg x st ps f (PySem.W.fnOf x x (defArgs st) (defBody st) (defScope st) .none kV doc pm an cdv ct) := by
  have F := fun_mk (st := st) l c k
  exact ⟨F, F.binds b, PySem.W.mg_of X G a⟩
theorem kit_no {K : PySem.W.Frag} {t : Value} {b : Addr} (h1 : PySem.W.hasDictIn K b = true) (h2 : PySem.W.typeIn K (.ref b) = some (.type "type")) (h3 : PySem.W.subIn K t (.ref b) = some false) (h4 : PySem.W.subIn K (.ref b) (.ref b) = some true) : PySem.W.kitOne K t (.ref b) = some false := by
  obtain ⟨cd, hc, _⟩ := PySem.W.any_some h1
  unfold PySem.W.kitOne
  split
  · rename_i e
    rw [beq_iff_eq.mp e, h4] at h3
    cases h3
  · unfold PySem.W.kitCls
    dsimp only
    have e : ((PySem.W.clsIn K b).isSome && PySem.W.typeIn K (.ref b) == some (.type "type")) = true := by rw [hc, h2] <;> rfl
    rw [if_pos e]
    exact h3
theorem kit_sub {K : PySem.W.Frag} {a b : Addr} (h1 : PySem.W.hasDictIn K b = true) (h2 : PySem.W.typeIn K (.ref b) = some (.type "type")) (h3 : PySem.W.subIn K (.ref a) (.ref b) = some true) : PySem.W.kitOne K (.ref a) (.ref b) = some true := by
  obtain ⟨cd, hc, _⟩ := PySem.W.any_some h1
  unfold PySem.W.kitOne
  split
  · rfl
  · unfold PySem.W.kitCls
    dsimp only
    have e : ((PySem.W.clsIn K b).isSome && PySem.W.typeIn K (.ref b) == some (.type "type")) = true := by rw [hc, h2] <;> rfl
    rw [if_pos e]
    exact h3
theorem kit_subT {K : PySem.W.Frag} {a : Addr} {T : String} {b : Bool} (hm : PySem.W.kitMeta T = true) (h : PySem.W.subIn K (.ref a) (.type T) = some b) : PySem.W.kitOne K (.ref a) (.type T) = some b := by
  unfold PySem.W.kitOne
  rw [if_neg (by intro z; cases z)]
  unfold PySem.W.kitCls
  dsimp only
  rw [if_pos hm]
  exact h
theorem kit_self {K : PySem.W.Frag} {a : Addr} : PySem.W.kitOne K (.ref a) (.ref a) = some true := by
  unfold PySem.W.kitOne
  rw [if_pos (beq_self_eq_true _)]
theorem kit_apart {K : PySem.W.Frag} {a b : Addr} (h : PySem.W.kitOne K (.ref a) (.ref b) = some false) : a ≠ b := fun e => by
  rw [e, kit_self] at h
  cases h
theorem kit_dec {K : PySem.W.Frag} {a b : Addr} (h : PySem.W.kitOne K (.ref a) (.ref b) = some false) : PySem.W.kitOne K (.ref a) (.ref b) = some (decide (a = b)) := by
  rw [h, decide_eq_false (kit_apart h)]
theorem kit_dec1 {K : PySem.W.Frag} {a : Addr} : PySem.W.kitOne K (.ref a) (.ref a) = some (decide (a = a)) := by
  rw [kit_self, decide_eq_true rfl]
theorem all_T {Q : String → Prop} (h0 : Q "NoneType") (h1 : Q "bool") (h2 : Q "int") (h3 : Q "str") (h4 : Q "list") (h5 : Q "tuple") (h6 : Q "dict") : ∀ T ∈ allT, Q T := by
  intro T hT
  unfold allT at hT
  simp only [List.mem_cons, List.not_mem_nil, or_false] at hT
  rcases hT with rfl | rfl | rfl | rfl | rfl | rfl | rfl
  · exact h0
  · exact h1
  · exact h2
  · exact h3
  · exact h4
  · exact h5
  · exact h6
theorem all_3 {Q : Addr → Prop} {a b c : Addr} (h0 : Q a) (h1 : Q b) (h2 : Q c) : ∀ x ∈ [a, b, c], Q x := by
  intro x hx
  simp only [List.mem_cons, List.not_mem_nil, or_false] at hx
  rcases hx with rfl | rfl | rfl
  · exact h0
  · exact h1
  · exact h2
def pick {α : Type} (l : List α) (i : Nat) : List α := (l[i]?).toList
theorem pick_vals {vs : List V} {us : List Value} (h : Vals vs us) (i : Nat) : Vals (pick vs i) (pick us i) := by
  unfold pick
  have hl := h.length
  by_cases hi : i < vs.length
  · have hi2 : i < us.length := by omega
    obtain ⟨u, hu, r⟩ := h.get (List.getElem?_eq_getElem hi)
    rw [List.getElem?_eq_getElem hi, hu]
    exact .cons r .nil
  · rw [List.getElem?_eq_none (by omega), List.getElem?_eq_none (by omega)]
    exact .nil
def putO {α : Type} (us its ws : List α) : List α := us ++ (pick its 2 ++ (pick its 3 ++ (pick ws 0 ++ (pick ws 1 ++ pick its 6))))
def putC {α : Type} (us its ws : List α) : List α := us ++ (pick its 0 ++ (pick its 1 ++ (pick its 2 ++ (pick ws 0 ++ pick its 4))))
def pick7 {α : Type} (a0 a1 a2 a3 a4 a5 a6 : α) : Fin 7 → α
  | 0 => a0
  | 1 => a1
  | 2 => a2
  | 3 => a3
  | 4 => a4
  | 5 => a5
  | 6 => a6
theorem all7 {Q : Fin 7 → Prop} (h0 : Q 0) (h1 : Q 1) (h2 : Q 2) (h3 : Q 3) (h4 : Q 4) (h5 : Q 5) (h6 : Q 6) : ∀ i, Q i
  | 0 => h0
  | 1 => h1
  | 2 => h2
  | 3 => h3
  | 4 => h4
  | 5 => h5
  | 6 => h6
theorem g_mono {P : Program} {w : World} {K : PySem.W.Frag} {mg : Str → Option Value} {base : Heap} {CX : CXT} {j k : Nat} {f : Addr} {fd : FuncData} {ps : List Str} {sp : Sp} (F : GOk P w K mg base CX j f fd ps sp) (h : j ≤ k) : GOk P w K mg base CX k f fd ps sp :=
  ⟨F.len, fun A o s H args us vs Q E hg hr => F.run A o s H args us vs Q E hg (hr.mono h)⟩
abbrev dvO : List V := [.str (Str.ofString ""), .str (Str.ofString "flag"), .str (Str.ofString "word"), .non, .bl false, .bl false, .str (Str.ofString "")]
abbrev dvP : List V := [.str (Str.ofString "one"), .str (Str.ofString "word"), .non, .str (Str.ofString "")]
abbrev dvC : List V := [.non, .non, .non, .non, .str (Str.ofString "")]
abbrev optPs : List Str := ["self", "long", "short", "takes", "maker", "default", "needed", "off", "about"]
abbrev plcPs : List Str := ["self", "name", "many", "maker", "default", "about"]
section
variable {K : PySem.W.Frag} {f : Addr} {fd : FuncData}
abbrev InitO (K : PySem.W.Frag) (f : Addr) (fd : FuncData) : Prop := FunD K "__init__" "Option.__init__" (defArgs st_init) (defBody st_init) (defScope st_init) dvO [] f fd
theorem initO_b1 (F : InitO K f fd) : ∃ ds, Vals dvO ds ∧ Binds K fd optPs ds :=
  F.binds1 (ps := optPs) 2 0 (by simp) rfl (fun T kV doc pm an cdv ct us its h1 h2 => match us, its, h1, h2 with | [_, _], [_, _, _, _, _, _, _], _, _ => ⟨_, rfl, rfl⟩)
theorem initO_k (F : InitO K f fd) : ∃ its : List Value, KBn K fd optPs 4 ["needed", "off"] (fun us ws => putO us its ws) (fun vs zs => putO vs dvO zs) :=
  F.kbindsD (ps := optPs) 4 ["needed", "off"] (fun us its ws => putO us its ws) (by simp) (fun h1 h2 h3 => h1.append ((pick_vals h2 2).append ((pick_vals h2 3).append ((pick_vals h3 0).append ((pick_vals h3 1).append (pick_vals h2 6))))))
    (fun T kV doc pm an cdv ct us its ws h1 h2 h3 => match us, its, ws, h1, h2, h3 with | [_, _, _, _], [_, _, _, _, _, _, _], [_, _], _, _, _ => ⟨_, rfl, rfl⟩)
abbrev InitP (K : PySem.W.Frag) (f : Addr) (fd : FuncData) : Prop := FunD K "__init__" "Place.__init__" (defArgs WP.st_init) (defBody WP.st_init) (defScope WP.st_init) dvP [] f fd
theorem initP_b1 (F : InitP K f fd) : ∃ ds, Vals dvP ds ∧ Binds K fd plcPs ds :=
  F.binds1 (ps := plcPs) 2 0 (by simp) rfl (fun T kV doc pm an cdv ct us its h1 h2 => match us, its, h1, h2 with | [_, _], [_, _, _, _], _, _ => ⟨_, rfl, rfl⟩)
theorem initP_b3 (F : InitP K f fd) : ∃ ds, Vals [.str (Str.ofString "word"), .non, .str (Str.ofString "")] ds ∧ Binds K fd plcPs ds :=
  F.binds1 (ps := plcPs) 3 1 (by simp) rfl (fun T kV doc pm an cdv ct us its h1 h2 => match us, its, h1, h2 with | [_, _, _], [_, _, _, _], _, _ => ⟨_, rfl, rfl⟩)
abbrev InitC (K : PySem.W.Frag) (f : Addr) (fd : FuncData) : Prop := FunD K "__init__" "Command.__init__" (defArgs st_Command_init) (defBody st_Command_init) (defScope st_Command_init) dvC [] f fd
theorem initC_b1 (F : InitC K f fd) : ∃ ds, Vals dvC ds ∧ Binds K fd cmdPs ds :=
  F.binds1 (ps := cmdPs) 2 0 (by simp) rfl (fun T kV doc pm an cdv ct us its h1 h2 => match us, its, h1, h2 with | [_, _], [_, _, _, _, _], _, _ => ⟨_, rfl, rfl⟩)
theorem initC_b6 (F : InitC K f fd) : ∃ ds, Vals [.str (Str.ofString "")] ds ∧ Binds K fd cmdPs ds :=
  F.binds1 (ps := cmdPs) 6 4 (by simp) rfl (fun T kV doc pm an cdv ct us its h1 h2 => match us, its, h1, h2 with | [_, _, _, _, _, _], [_, _, _, _, _], _, _ => ⟨_, rfl, rfl⟩)
theorem initC_k (F : InitC K f fd) : ∃ its : List Value, KBn K fd cmdPs 2 ["commands"] (fun us ws => putC us its ws) (fun vs zs => putC vs dvC zs) :=
  F.kbindsD (ps := cmdPs) 2 ["commands"] (fun us its ws => putC us its ws) (by simp) (fun h1 h2 h3 => h1.append ((pick_vals h2 0).append ((pick_vals h2 1).append ((pick_vals h2 2).append ((pick_vals h3 0).append (pick_vals h2 4))))))
    (fun T kV doc pm an cdv ct us its ws h1 h2 h3 => match us, its, ws, h1, h2, h3 with | [_, _], [_, _, _, _, _], [_], _, _, _ => ⟨_, rfl, rfl⟩)
end
theorem all_mk {l : PySem.W.OpenLaw} {w : World} {K : PySem.W.Frag} {h : Heap} {mg : Str → Option Value} {fa : Addr} (X : K.In h) (G : h.Ns mainGlobals mg) (hfa : mg "law" = some (.ref fa))
    {fWithin : Addr} {odWithin anWithin : Option Addr} {slWithin : Array (Option Value)} {ocWithin kVWithin dcWithin pmWithin cdWithin ctWithin : Value} {fIsName : Addr} {odIsName anIsName : Option Addr} {slIsName : Array (Option Value)} {ocIsName kVIsName dcIsName pmIsName cdIsName ctIsName : Value} {fIsAbout : Addr} {odIsAbout anIsAbout : Option Addr} {slIsAbout : Array (Option Value)} {ocIsAbout kVIsAbout dcIsAbout pmIsAbout cdIsAbout ctIsAbout : Value} {fIsAmong : Addr} {odIsAmong anIsAmong : Option Addr} {slIsAmong : Array (Option Value)} {ocIsAmong kVIsAmong dcIsAmong pmIsAmong cdIsAmong ctIsAmong : Value} {fIsDefault : Addr} {odIsDefault anIsDefault : Option Addr} {slIsDefault : Array (Option Value)} {ocIsDefault kVIsDefault dcIsDefault pmIsDefault cdIsDefault ctIsDefault : Value} {fIsShort : Addr} {odIsShort anIsShort : Option Addr} {slIsShort : Array (Option Value)} {ocIsShort kVIsShort dcIsShort pmIsShort cdIsShort ctIsShort : Value} {fIsTruth : Addr} {odIsTruth anIsTruth : Option Addr} {slIsTruth : Array (Option Value)} {ocIsTruth kVIsTruth dcIsTruth pmIsTruth cdIsTruth ctIsTruth : Value} {fComma : Addr} {odComma anComma : Option Addr} {slComma : Array (Option Value)} {ocComma kVComma dcComma pmComma cdComma ctComma : Value} {fLWithin : Addr} {odLWithin anLWithin : Option Addr} {slLWithin : Array (Option Value)} {ocLWithin kVLWithin dcLWithin pmLWithin cdLWithin ctLWithin : Value} {fAreO : Addr} {odAreO anAreO : Option Addr} {slAreO : Array (Option Value)} {ocAreO kVAreO dcAreO pmAreO cdAreO ctAreO : Value} {fAreP : Addr} {odAreP anAreP : Option Addr} {slAreP : Array (Option Value)} {ocAreP kVAreP dcAreP pmAreP cdAreP ctAreP : Value} {fIsG : Addr} {odIsG anIsG : Option Addr} {slIsG : Array (Option Value)} {ocIsG kVIsG dcIsG pmIsG cdIsG ctIsG : Value} {fAreG : Addr} {odAreG anAreG : Option Addr} {slAreG : Array (Option Value)} {ocAreG kVAreG dcAreG pmAreG cdAreG ctAreG : Value} {fAreC : Addr} {odAreC anAreC : Option Addr} {slAreC : Array (Option Value)} {ocAreC kVAreC dcAreC pmAreC cdAreC ctAreC : Value} {fEmpty : Addr} {odEmpty anEmpty : Option Addr} {slEmpty : Array (Option Value)} {ocEmpty kVEmpty dcEmpty pmEmpty cdEmpty ctEmpty : Value} {fCopied : Addr} {odCopied anCopied : Option Addr} {slCopied : Array (Option Value)} {ocCopied kVCopied dcCopied pmCopied cdCopied ctCopied : Value} {fFirstRep : Addr} {odFirstRep anFirstRep : Option Addr} {slFirstRep : Array (Option Value)} {ocFirstRep kVFirstRep dcFirstRep pmFirstRep cdFirstRep ctFirstRep : Value} {fLongNames : Addr} {odLongNames anLongNames : Option Addr} {slLongNames : Array (Option Value)} {ocLongNames kVLongNames dcLongNames pmLongNames cdLongNames ctLongNames : Value} {fLongC : Addr} {odLongC anLongC : Option Addr} {slLongC : Array (Option Value)} {ocLongC kVLongC dcLongC pmLongC cdLongC ctLongC : Value} {fShortC : Addr} {odShortC anShortC : Option Addr} {slShortC : Array (Option Value)} {ocShortC kVShortC dcShortC pmShortC cdShortC ctShortC : Value} {fNameC : Addr} {odNameC anNameC : Option Addr} {slNameC : Array (Option Value)} {ocNameC kVNameC dcNameC pmNameC cdNameC ctNameC : Value} {fMay : Addr} {odMay anMay : Option Addr} {slMay : Array (Option Value)} {ocMay kVMay dcMay pmMay cdMay ctMay : Value} {fOrderC : Addr} {odOrderC anOrderC : Option Addr} {slOrderC : Array (Option Value)} {ocOrderC kVOrderC dcOrderC pmOrderC cdOrderC ctOrderC : Value} {fBothC : Addr} {odBothC anBothC : Option Addr} {slBothC : Array (Option Value)} {ocBothC kVBothC dcBothC pmBothC cdBothC ctBothC : Value} {fGroupC : Addr} {odGroupC anGroupC : Option Addr} {slGroupC : Array (Option Value)} {ocGroupC kVGroupC dcGroupC pmGroupC cdGroupC ctGroupC : Value} {fCommandC : Addr} {odCommandC anCommandC : Option Addr} {slCommandC : Array (Option Value)} {ocCommandC kVCommandC dcCommandC pmCommandC cdCommandC ctCommandC : Value} {fOwnC : Addr} {odOwnC anOwnC : Option Addr} {slOwnC : Array (Option Value)} {ocOwnC kVOwnC dcOwnC pmOwnC cdOwnC ctOwnC : Value} {fWithinC : Addr} {odWithinC anWithinC : Option Addr} {slWithinC : Array (Option Value)} {ocWithinC kVWithinC dcWithinC pmWithinC cdWithinC ctWithinC : Value} {fFirstC : Addr} {odFirstC anFirstC : Option Addr} {slFirstC : Array (Option Value)} {ocFirstC kVFirstC dcFirstC pmFirstC cdFirstC ctFirstC : Value} {fCell : Addr} {odCell anCell : Option Addr} {slCell : Array (Option Value)} {ocCell kVCell dcCell pmCell cdCell ctCell : Value} {fPot : Addr} {odPot anPot : Option Addr} {slPot : Array (Option Value)} {ocPot kVPot dcPot pmPot cdPot ctPot : Value} {fTake : Addr} {odTake anTake : Option Addr} {slTake : Array (Option Value)} {ocTake kVTake dcTake pmTake cdTake ctTake : Value} {fName : Addr} {odName anName : Option Addr} {slName : Array (Option Value)} {ocName kVName dcName pmName cdName ctName : Value} {fUnlike : Addr} {odUnlike anUnlike : Option Addr} {slUnlike : Array (Option Value)} {ocUnlike kVUnlike dcUnlike pmUnlike cdUnlike ctUnlike : Value} {fPlaces : Addr} {odPlaces anPlaces : Option Addr} {slPlaces : Array (Option Value)} {ocPlaces kVPlaces dcPlaces pmPlaces cdPlaces ctPlaces : Value} {fOptions : Addr} {odOptions anOptions : Option Addr} {slOptions : Array (Option Value)} {ocOptions kVOptions dcOptions pmOptions cdOptions ctOptions : Value} {fGroups : Addr} {odGroups anGroups : Option Addr} {slGroups : Array (Option Value)} {ocGroups kVGroups dcGroups pmGroups cdGroups ctGroups : Value} {fTree : Addr} {odTree anTree : Option Addr} {slTree : Array (Option Value)} {ocTree kVTree dcTree pmTree cdTree ctTree : Value} {fMkCmd : Addr} {odMkCmd anMkCmd : Option Addr} {slMkCmd : Array (Option Value)} {ocMkCmd kVMkCmd dcMkCmd pmMkCmd cdMkCmd ctMkCmd : Value} {fAll : Addr} {odAll anAll : Option Addr} {slAll : Array (Option Value)} {ocAll kVAll dcAll pmAll cdAll ctAll : Value} {fPair : Addr} {odPair anPair : Option Addr} {slPair : Array (Option Value)} {ocPair kVPair dcPair pmPair cdPair ctPair : Value} {fSpList : Addr} {odSpList anSpList : Option Addr} {slSpList : Array (Option Value)} {ocSpList kVSpList dcSpList pmSpList cdSpList ctSpList : Value} {fSpGroup : Addr} {odSpGroup anSpGroup : Option Addr} {slSpGroup : Array (Option Value)} {ocSpGroup kVSpGroup dcSpGroup pmSpGroup cdSpGroup ctSpGroup : Value} {fSpPlaces : Addr} {odSpPlaces anSpPlaces : Option Addr} {slSpPlaces : Array (Option Value)} {ocSpPlaces kVSpPlaces dcSpPlaces pmSpPlaces cdSpPlaces ctSpPlaces : Value} {fDeep : Addr} {odDeep anDeep : Option Addr} {slDeep : Array (Option Value)} {ocDeep kVDeep dcDeep pmDeep cdDeep ctDeep : Value} {fSpoilt : Addr} {odSpoilt anSpoilt : Option Addr} {slSpoilt : Array (Option Value)} {ocSpoilt kVSpoilt dcSpoilt pmSpoilt cdSpoilt ctSpoilt : Value} {fLast : Addr} {odLast anLast : Option Addr} {slLast : Array (Option Value)} {ocLast kVLast dcLast pmLast cdLast ctLast : Value} {fWithout : Addr} {odWithout anWithout : Option Addr} {slWithout : Array (Option Value)} {ocWithout kVWithout dcWithout pmWithout cdWithout ctWithout : Value} {fPlaceOut : Addr} {odPlaceOut anPlaceOut : Option Addr} {slPlaceOut : Array (Option Value)} {ocPlaceOut kVPlaceOut dcPlaceOut pmPlaceOut cdPlaceOut ctPlaceOut : Value} {fGroupOut : Addr} {odGroupOut anGroupOut : Option Addr} {slGroupOut : Array (Option Value)} {ocGroupOut kVGroupOut dcGroupOut pmGroupOut cdGroupOut ctGroupOut : Value} {fTaken : Addr} {odTaken anTaken : Option Addr} {slTaken : Array (Option Value)} {ocTaken kVTaken dcTaken pmTaken cdTaken ctTaken : Value} {fAt : Addr} {odAt anAt : Option Addr} {slAt : Array (Option Value)} {ocAt kVAt dcAt pmAt cdAt ctAt : Value} {fMended : Addr} {odMended anMended : Option Addr} {slMended : Array (Option Value)} {ocMended kVMended dcMended pmMended cdMended ctMended : Value} {fUnl : Addr} {odUnl anUnl : Option Addr} {slUnl : Array (Option Value)} {ocUnl kVUnl dcUnl pmUnl cdUnl ctUnl : Value} {fClean : Addr} {odClean anClean : Option Addr} {slClean : Array (Option Value)} {ocClean kVClean dcClean pmClean cdClean ctClean : Value} {BE : Addr} {CNO : Addr} {nmO qO : Str} {NNO : Addr} {bsO : List Value} {snO : List Str} {subO : List Value} {abO : Bool} {colO : Option Bool} {ddO : Option Addr} {m0O m1O m2O m3O m5O : Option Value} {fEO : Addr} {odEO anEO : Option Addr} {slEO : Array (Option Value)} {ocEO kVEO dcEO pmEO cdEO ctEO : Value} {CO TO : Addr} {odTO : Option Addr} {ocTO : Value} {tO1 tO2 tO3 tO4 : Tok} {nTO : Nat} {slTO : Array (Option Value)} {fIO : Addr} {odIO anIO : Option Addr} {slIO : Array (Option Value)} {ocIO kVIO dcIO pmIO cdIO ctIO : Value} {fGOL : Addr} {odGOL anGOL : Option Addr} {slGOL : Array (Option Value)} {ocGOL kVGOL dcGOL pmGOL cdGOL ctGOL : Value} {fGOS : Addr} {odGOS anGOS : Option Addr} {slGOS : Array (Option Value)} {ocGOS kVGOS dcGOS pmGOS cdGOS ctGOS : Value} {fGON : Addr} {odGON anGON : Option Addr} {slGON : Array (Option Value)} {ocGON kVGON dcGON pmGON cdGON ctGON : Value} {CNP : Addr} {nmP qP : Str} {NNP : Addr} {bsP : List Value} {snP : List Str} {subP : List Value} {abP : Bool} {colP : Option Bool} {ddP : Option Addr} {m0P m1P m2P m3P m5P : Option Value} {fEP : Addr} {odEP anEP : Option Addr} {slEP : Array (Option Value)} {ocEP kVEP dcEP pmEP cdEP ctEP : Value} {CP TP : Addr} {odTP : Option Addr} {ocTP : Value} {tP1 tP2 tP3 : Tok} {nTP : Nat} {slTP : Array (Option Value)} {fIP : Addr} {odIP anIP : Option Addr} {slIP : Array (Option Value)} {ocIP kVIP dcIP pmIP cdIP ctIP : Value} {fGPN : Addr} {odGPN anGPN : Option Addr} {slGPN : Array (Option Value)} {ocGPN kVGPN dcGPN pmGPN cdGPN ctGPN : Value} {fGPM : Addr} {odGPM anGPM : Option Addr} {slGPM : Array (Option Value)} {ocGPM kVGPM dcGPM pmGPM cdGPM ctGPM : Value} {CNC : Addr} {nmC qC : Str} {NNC : Addr} {bsC : List Value} {snC : List Str} {subC : List Value} {abC : Bool} {colC : Option Bool} {ddC : Option Addr} {m0C m1C m2C m3C m5C : Option Value} {fEC : Addr} {odEC anEC : Option Addr} {slEC : Array (Option Value)} {ocEC kVEC dcEC pmEC cdEC ctEC : Value} {CC TC : Addr} {odTC : Option Addr} {ocTC : Value} {tC1 : Tok} {nTC : Nat} {slTC : Array (Option Value)} {fIC : Addr} {odIC anIC : Option Addr} {slIC : Array (Option Value)} {ocIC kVIC dcIC pmIC cdIC ctIC : Value} {fM0 : Addr} {odM0 anM0 : Option Addr} {slM0 : Array (Option Value)} {ocM0 kVM0 dcM0 pmM0 cdM0 ctM0 : Value} {fM1 : Addr} {odM1 anM1 : Option Addr} {slM1 : Array (Option Value)} {ocM1 kVM1 dcM1 pmM1 cdM1 ctM1 : Value} {fM2 : Addr} {odM2 anM2 : Option Addr} {slM2 : Array (Option Value)} {ocM2 kVM2 dcM2 pmM2 cdM2 ctM2 : Value} {fM3 : Addr} {odM3 anM3 : Option Addr} {slM3 : Array (Option Value)} {ocM3 kVM3 dcM3 pmM3 cdM3 ctM3 : Value} {fM4 : Addr} {odM4 anM4 : Option Addr} {slM4 : Array (Option Value)} {ocM4 kVM4 dcM4 pmM4 cdM4 ctM4 : Value} {fM5 : Addr} {odM5 anM5 : Option Addr} {slM5 : Array (Option Value)} {ocM5 kVM5 dcM5 pmM5 cdM5 ctM5 : Value} {u1 u2 u3 u4 u5 : Tok} {w1 w2 w3 w4 w5 w6 : Tok} {aT aU aW aM : Addr} {odA odB odC odM : Option Addr} {s1 s2 s3 s4 s5 s6 s7 s8 s9 r1 r2 r3 r4 : Tok} {nA nB nC nM : Nat} {slA slB slC slM : Array (Option Value)} {aL tL0 tL1 tL2 tL3 tL4 tL5 tL6 : Addr} {odL odL0 odL1 odL2 odL3 odL4 odL5 odL6 : Option Addr} {kL0 kL1 kL2 kL3 kL4 kL5 kL6 uMN : Tok} {nL nL0 nL1 nL2 nL3 nL4 nL5 nL6 : Nat} {slL slL0 slL1 slL2 slL3 slL4 slL5 slL6 : Array (Option Value)} {fLaw : Addr} {odLaw anLaw : Option Addr} {slLaw : Array (Option Value)} {ocLaw kVLaw dcLaw pmLaw cdLaw ctLaw : Value}
    (aWithin : PySem.W.nsIn K mainGlobals "is_text_within" = some (some (.ref fWithin)))
    (lWithin : K.lookup fWithin = some ⟨ocWithin, odWithin, .func (PySem.W.fnOf "is_text_within" "is_text_within" (defArgs st_is_text_within) (defBody st_is_text_within) (defScope st_is_text_within) .none kVWithin dcWithin pmWithin anWithin cdWithin ctWithin), slWithin⟩)
    (cWithin : PySem.W.codeIn K cdWithin "is_text_within" = true)
    (kWithin : PySem.W.keepIn K (.ref fWithin) = true)
    (aIsName : PySem.W.nsIn K mainGlobals "is_name" = some (some (.ref fIsName)))
    (lIsName : K.lookup fIsName = some ⟨ocIsName, odIsName, .func (PySem.W.fnOf "is_name" "is_name" (defArgs st_is_name) (defBody st_is_name) (defScope st_is_name) .none kVIsName dcIsName pmIsName anIsName cdIsName ctIsName), slIsName⟩)
    (cIsName : PySem.W.codeIn K cdIsName "is_name" = true)
    (kIsName : PySem.W.keepIn K (.ref fIsName) = true)
    (aIsAbout : PySem.W.nsIn K mainGlobals "is_about" = some (some (.ref fIsAbout)))
    (lIsAbout : K.lookup fIsAbout = some ⟨ocIsAbout, odIsAbout, .func (PySem.W.fnOf "is_about" "is_about" (defArgs st_is_about) (defBody st_is_about) (defScope st_is_about) .none kVIsAbout dcIsAbout pmIsAbout anIsAbout cdIsAbout ctIsAbout), slIsAbout⟩)
    (cIsAbout : PySem.W.codeIn K cdIsAbout "is_about" = true)
    (kIsAbout : PySem.W.keepIn K (.ref fIsAbout) = true)
    (aIsAmong : PySem.W.nsIn K mainGlobals "is_among" = some (some (.ref fIsAmong)))
    (lIsAmong : K.lookup fIsAmong = some ⟨ocIsAmong, odIsAmong, .func (PySem.W.fnOf "is_among" "is_among" (defArgs st_is_among) (defBody st_is_among) (defScope st_is_among) .none kVIsAmong dcIsAmong pmIsAmong anIsAmong cdIsAmong ctIsAmong), slIsAmong⟩)
    (cIsAmong : PySem.W.codeIn K cdIsAmong "is_among" = true)
    (kIsAmong : PySem.W.keepIn K (.ref fIsAmong) = true)
    (aIsDefault : PySem.W.nsIn K mainGlobals "is_default" = some (some (.ref fIsDefault)))
    (lIsDefault : K.lookup fIsDefault = some ⟨ocIsDefault, odIsDefault, .func (PySem.W.fnOf "is_default" "is_default" (defArgs st_is_default) (defBody st_is_default) (defScope st_is_default) .none kVIsDefault dcIsDefault pmIsDefault anIsDefault cdIsDefault ctIsDefault), slIsDefault⟩)
    (cIsDefault : PySem.W.codeIn K cdIsDefault "is_default" = true)
    (kIsDefault : PySem.W.keepIn K (.ref fIsDefault) = true)
    (aIsShort : PySem.W.nsIn K mainGlobals "is_short_or_empty" = some (some (.ref fIsShort)))
    (lIsShort : K.lookup fIsShort = some ⟨ocIsShort, odIsShort, .func (PySem.W.fnOf "is_short_or_empty" "is_short_or_empty" (defArgs st_is_short_or_empty) (defBody st_is_short_or_empty) (defScope st_is_short_or_empty) .none kVIsShort dcIsShort pmIsShort anIsShort cdIsShort ctIsShort), slIsShort⟩)
    (cIsShort : PySem.W.codeIn K cdIsShort "is_short_or_empty" = true)
    (kIsShort : PySem.W.keepIn K (.ref fIsShort) = true)
    (aIsTruth : PySem.W.nsIn K mainGlobals "is_truth" = some (some (.ref fIsTruth)))
    (lIsTruth : K.lookup fIsTruth = some ⟨ocIsTruth, odIsTruth, .func (PySem.W.fnOf "is_truth" "is_truth" (defArgs st_is_truth) (defBody st_is_truth) (defScope st_is_truth) .none kVIsTruth dcIsTruth pmIsTruth anIsTruth cdIsTruth ctIsTruth), slIsTruth⟩)
    (cIsTruth : PySem.W.codeIn K cdIsTruth "is_truth" = true)
    (kIsTruth : PySem.W.keepIn K (.ref fIsTruth) = true)
    (aComma : PySem.W.nsIn K mainGlobals "comma_joined" = some (some (.ref fComma)))
    (lComma : K.lookup fComma = some ⟨ocComma, odComma, .func (PySem.W.fnOf "comma_joined" "comma_joined" (defArgs st_comma_joined) (defBody st_comma_joined) (defScope st_comma_joined) .none kVComma dcComma pmComma anComma cdComma ctComma), slComma⟩)
    (cComma : PySem.W.codeIn K cdComma "comma_joined" = true)
    (kComma : PySem.W.keepIn K (.ref fComma) = true)
    (aLWithin : PySem.W.nsIn K mainGlobals "is_list_within" = some (some (.ref fLWithin)))
    (lLWithin : K.lookup fLWithin = some ⟨ocLWithin, odLWithin, .func (PySem.W.fnOf "is_list_within" "is_list_within" (defArgs st_is_list_within) (defBody st_is_list_within) (defScope st_is_list_within) .none kVLWithin dcLWithin pmLWithin anLWithin cdLWithin ctLWithin), slLWithin⟩)
    (cLWithin : PySem.W.codeIn K cdLWithin "is_list_within" = true)
    (kLWithin : PySem.W.keepIn K (.ref fLWithin) = true)
    (aAreO : PySem.W.nsIn K mainGlobals "are_options" = some (some (.ref fAreO)))
    (lAreO : K.lookup fAreO = some ⟨ocAreO, odAreO, .func (PySem.W.fnOf "are_options" "are_options" (defArgs st_are_options) (defBody st_are_options) (defScope st_are_options) .none kVAreO dcAreO pmAreO anAreO cdAreO ctAreO), slAreO⟩)
    (cAreO : PySem.W.codeIn K cdAreO "are_options" = true)
    (kAreO : PySem.W.keepIn K (.ref fAreO) = true)
    (aAreP : PySem.W.nsIn K mainGlobals "are_places" = some (some (.ref fAreP)))
    (lAreP : K.lookup fAreP = some ⟨ocAreP, odAreP, .func (PySem.W.fnOf "are_places" "are_places" (defArgs st_are_places) (defBody st_are_places) (defScope st_are_places) .none kVAreP dcAreP pmAreP anAreP cdAreP ctAreP), slAreP⟩)
    (cAreP : PySem.W.codeIn K cdAreP "are_places" = true)
    (kAreP : PySem.W.keepIn K (.ref fAreP) = true)
    (aIsG : PySem.W.nsIn K mainGlobals "is_group" = some (some (.ref fIsG)))
    (lIsG : K.lookup fIsG = some ⟨ocIsG, odIsG, .func (PySem.W.fnOf "is_group" "is_group" (defArgs st_is_group) (defBody st_is_group) (defScope st_is_group) .none kVIsG dcIsG pmIsG anIsG cdIsG ctIsG), slIsG⟩)
    (cIsG : PySem.W.codeIn K cdIsG "is_group" = true)
    (kIsG : PySem.W.keepIn K (.ref fIsG) = true)
    (aAreG : PySem.W.nsIn K mainGlobals "are_groups" = some (some (.ref fAreG)))
    (lAreG : K.lookup fAreG = some ⟨ocAreG, odAreG, .func (PySem.W.fnOf "are_groups" "are_groups" (defArgs st_are_groups) (defBody st_are_groups) (defScope st_are_groups) .none kVAreG dcAreG pmAreG anAreG cdAreG ctAreG), slAreG⟩)
    (cAreG : PySem.W.codeIn K cdAreG "are_groups" = true)
    (kAreG : PySem.W.keepIn K (.ref fAreG) = true)
    (aAreC : PySem.W.nsIn K mainGlobals "are_commands" = some (some (.ref fAreC)))
    (lAreC : K.lookup fAreC = some ⟨ocAreC, odAreC, .func (PySem.W.fnOf "are_commands" "are_commands" (defArgs st_are_commands) (defBody st_are_commands) (defScope st_are_commands) .none kVAreC dcAreC pmAreC anAreC cdAreC ctAreC), slAreC⟩)
    (cAreC : PySem.W.codeIn K cdAreC "are_commands" = true)
    (kAreC : PySem.W.keepIn K (.ref fAreC) = true)
    (aEmpty : PySem.W.nsIn K mainGlobals "empty_for_none" = some (some (.ref fEmpty)))
    (lEmpty : K.lookup fEmpty = some ⟨ocEmpty, odEmpty, .func (PySem.W.fnOf "empty_for_none" "empty_for_none" (defArgs st_empty_for_none) (defBody st_empty_for_none) (defScope st_empty_for_none) .none kVEmpty dcEmpty pmEmpty anEmpty cdEmpty ctEmpty), slEmpty⟩)
    (cEmpty : PySem.W.codeIn K cdEmpty "empty_for_none" = true)
    (kEmpty : PySem.W.keepIn K (.ref fEmpty) = true)
    (aCopied : PySem.W.nsIn K mainGlobals "copied_groups" = some (some (.ref fCopied)))
    (lCopied : K.lookup fCopied = some ⟨ocCopied, odCopied, .func (PySem.W.fnOf "copied_groups" "copied_groups" (defArgs st_copied_groups) (defBody st_copied_groups) (defScope st_copied_groups) .none kVCopied dcCopied pmCopied anCopied cdCopied ctCopied), slCopied⟩)
    (cCopied : PySem.W.codeIn K cdCopied "copied_groups" = true)
    (kCopied : PySem.W.keepIn K (.ref fCopied) = true)
    (aFirstRep : PySem.W.nsIn K mainGlobals "first_repeated" = some (some (.ref fFirstRep)))
    (lFirstRep : K.lookup fFirstRep = some ⟨ocFirstRep, odFirstRep, .func (PySem.W.fnOf "first_repeated" "first_repeated" (defArgs st_first_repeated) (defBody st_first_repeated) (defScope st_first_repeated) .none kVFirstRep dcFirstRep pmFirstRep anFirstRep cdFirstRep ctFirstRep), slFirstRep⟩)
    (cFirstRep : PySem.W.codeIn K cdFirstRep "first_repeated" = true)
    (kFirstRep : PySem.W.keepIn K (.ref fFirstRep) = true)
    (aLongNames : PySem.W.nsIn K mainGlobals "long_names" = some (some (.ref fLongNames)))
    (lLongNames : K.lookup fLongNames = some ⟨ocLongNames, odLongNames, .func (PySem.W.fnOf "long_names" "long_names" (defArgs st_long_names) (defBody st_long_names) (defScope st_long_names) .none kVLongNames dcLongNames pmLongNames anLongNames cdLongNames ctLongNames), slLongNames⟩)
    (cLongNames : PySem.W.codeIn K cdLongNames "long_names" = true)
    (kLongNames : PySem.W.keepIn K (.ref fLongNames) = true)
    (aLongC : PySem.W.nsIn K mainGlobals "long_clash" = some (some (.ref fLongC)))
    (lLongC : K.lookup fLongC = some ⟨ocLongC, odLongC, .func (PySem.W.fnOf "long_clash" "long_clash" (defArgs st_long_clash) (defBody st_long_clash) (defScope st_long_clash) .none kVLongC dcLongC pmLongC anLongC cdLongC ctLongC), slLongC⟩)
    (cLongC : PySem.W.codeIn K cdLongC "long_clash" = true)
    (kLongC : PySem.W.keepIn K (.ref fLongC) = true)
    (aShortC : PySem.W.nsIn K mainGlobals "short_clash" = some (some (.ref fShortC)))
    (lShortC : K.lookup fShortC = some ⟨ocShortC, odShortC, .func (PySem.W.fnOf "short_clash" "short_clash" (defArgs st_short_clash) (defBody st_short_clash) (defScope st_short_clash) .none kVShortC dcShortC pmShortC anShortC cdShortC ctShortC), slShortC⟩)
    (cShortC : PySem.W.codeIn K cdShortC "short_clash" = true)
    (kShortC : PySem.W.keepIn K (.ref fShortC) = true)
    (aNameC : PySem.W.nsIn K mainGlobals "name_clash" = some (some (.ref fNameC)))
    (lNameC : K.lookup fNameC = some ⟨ocNameC, odNameC, .func (PySem.W.fnOf "name_clash" "name_clash" (defArgs st_name_clash) (defBody st_name_clash) (defScope st_name_clash) .none kVNameC dcNameC pmNameC anNameC cdNameC ctNameC), slNameC⟩)
    (cNameC : PySem.W.codeIn K cdNameC "name_clash" = true)
    (kNameC : PySem.W.keepIn K (.ref fNameC) = true)
    (aMay : PySem.W.nsIn K mainGlobals "may_stand_behind" = some (some (.ref fMay)))
    (lMay : K.lookup fMay = some ⟨ocMay, odMay, .func (PySem.W.fnOf "may_stand_behind" "may_stand_behind" (defArgs st_may_stand_behind) (defBody st_may_stand_behind) (defScope st_may_stand_behind) .none kVMay dcMay pmMay anMay cdMay ctMay), slMay⟩)
    (cMay : PySem.W.codeIn K cdMay "may_stand_behind" = true)
    (kMay : PySem.W.keepIn K (.ref fMay) = true)
    (aOrderC : PySem.W.nsIn K mainGlobals "order_clash" = some (some (.ref fOrderC)))
    (lOrderC : K.lookup fOrderC = some ⟨ocOrderC, odOrderC, .func (PySem.W.fnOf "order_clash" "order_clash" (defArgs st_order_clash) (defBody st_order_clash) (defScope st_order_clash) .none kVOrderC dcOrderC pmOrderC anOrderC cdOrderC ctOrderC), slOrderC⟩)
    (cOrderC : PySem.W.codeIn K cdOrderC "order_clash" = true)
    (kOrderC : PySem.W.keepIn K (.ref fOrderC) = true)
    (aBothC : PySem.W.nsIn K mainGlobals "both_clash" = some (some (.ref fBothC)))
    (lBothC : K.lookup fBothC = some ⟨ocBothC, odBothC, .func (PySem.W.fnOf "both_clash" "both_clash" (defArgs st_both_clash) (defBody st_both_clash) (defScope st_both_clash) .none kVBothC dcBothC pmBothC anBothC cdBothC ctBothC), slBothC⟩)
    (cBothC : PySem.W.codeIn K cdBothC "both_clash" = true)
    (kBothC : PySem.W.keepIn K (.ref fBothC) = true)
    (aGroupC : PySem.W.nsIn K mainGlobals "group_clash" = some (some (.ref fGroupC)))
    (lGroupC : K.lookup fGroupC = some ⟨ocGroupC, odGroupC, .func (PySem.W.fnOf "group_clash" "group_clash" (defArgs st_group_clash) (defBody st_group_clash) (defScope st_group_clash) .none kVGroupC dcGroupC pmGroupC anGroupC cdGroupC ctGroupC), slGroupC⟩)
    (cGroupC : PySem.W.codeIn K cdGroupC "group_clash" = true)
    (kGroupC : PySem.W.keepIn K (.ref fGroupC) = true)
    (aCommandC : PySem.W.nsIn K mainGlobals "command_clash" = some (some (.ref fCommandC)))
    (lCommandC : K.lookup fCommandC = some ⟨ocCommandC, odCommandC, .func (PySem.W.fnOf "command_clash" "command_clash" (defArgs st_command_clash) (defBody st_command_clash) (defScope st_command_clash) .none kVCommandC dcCommandC pmCommandC anCommandC cdCommandC ctCommandC), slCommandC⟩)
    (cCommandC : PySem.W.codeIn K cdCommandC "command_clash" = true)
    (kCommandC : PySem.W.keepIn K (.ref fCommandC) = true)
    (aOwnC : PySem.W.nsIn K mainGlobals "own_clash" = some (some (.ref fOwnC)))
    (lOwnC : K.lookup fOwnC = some ⟨ocOwnC, odOwnC, .func (PySem.W.fnOf "own_clash" "own_clash" (defArgs st_own_clash) (defBody st_own_clash) (defScope st_own_clash) .none kVOwnC dcOwnC pmOwnC anOwnC cdOwnC ctOwnC), slOwnC⟩)
    (cOwnC : PySem.W.codeIn K cdOwnC "own_clash" = true)
    (kOwnC : PySem.W.keepIn K (.ref fOwnC) = true)
    (aWithinC : PySem.W.nsIn K mainGlobals "clash_within" = some (some (.ref fWithinC)))
    (lWithinC : K.lookup fWithinC = some ⟨ocWithinC, odWithinC, .func (PySem.W.fnOf "clash_within" "clash_within" (defArgs st_clash_within) (defBody st_clash_within) (defScope st_clash_within) .none kVWithinC dcWithinC pmWithinC anWithinC cdWithinC ctWithinC), slWithinC⟩)
    (cWithinC : PySem.W.codeIn K cdWithinC "clash_within" = true)
    (kWithinC : PySem.W.keepIn K (.ref fWithinC) = true)
    (aFirstC : PySem.W.nsIn K mainGlobals "first_clash" = some (some (.ref fFirstC)))
    (lFirstC : K.lookup fFirstC = some ⟨ocFirstC, odFirstC, .func (PySem.W.fnOf "first_clash" "first_clash" (defArgs st_first_clash) (defBody st_first_clash) (defScope st_first_clash) .none kVFirstC dcFirstC pmFirstC anFirstC cdFirstC ctFirstC), slFirstC⟩)
    (cFirstC : PySem.W.codeIn K cdFirstC "first_clash" = true)
    (kFirstC : PySem.W.keepIn K (.ref fFirstC) = true)
    (aCell : PySem.W.nsIn K mainGlobals "_law_cell" = some (some (.ref fCell)))
    (lCell : K.lookup fCell = some ⟨ocCell, odCell, .func (PySem.W.fnOf "_law_cell" "_law_cell" (defArgs sCell) (defBody sCell) (defScope sCell) .none kVCell dcCell pmCell anCell cdCell ctCell), slCell⟩)
    (cCell : PySem.W.codeIn K cdCell "_law_cell" = true)
    (kCell : PySem.W.keepIn K (.ref fCell) = true)
    (aPot : PySem.W.nsIn K mainGlobals "_law_pot" = some (some (.ref fPot)))
    (lPot : K.lookup fPot = some ⟨ocPot, odPot, .func (PySem.W.fnOf "_law_pot" "_law_pot" (defArgs sPot) (defBody sPot) (defScope sPot) .none kVPot dcPot pmPot anPot cdPot ctPot), slPot⟩)
    (cPot : PySem.W.codeIn K cdPot "_law_pot" = true)
    (kPot : PySem.W.keepIn K (.ref fPot) = true)
    (aTake : PySem.W.nsIn K mainGlobals "_law_take" = some (some (.ref fTake)))
    (lTake : K.lookup fTake = some ⟨ocTake, odTake, .func (PySem.W.fnOf "_law_take" "_law_take" (defArgs sTake) (defBody sTake) (defScope sTake) .none kVTake dcTake pmTake anTake cdTake ctTake), slTake⟩)
    (cTake : PySem.W.codeIn K cdTake "_law_take" = true)
    (kTake : PySem.W.keepIn K (.ref fTake) = true)
    (aName : PySem.W.nsIn K mainGlobals "_law_name" = some (some (.ref fName)))
    (lName : K.lookup fName = some ⟨ocName, odName, .func (PySem.W.fnOf "_law_name" "_law_name" (defArgs sName) (defBody sName) (defScope sName) .none kVName dcName pmName anName cdName ctName), slName⟩)
    (cName : PySem.W.codeIn K cdName "_law_name" = true)
    (kName : PySem.W.keepIn K (.ref fName) = true)
    (aUnlike : PySem.W.nsIn K mainGlobals "_law_unlike" = some (some (.ref fUnlike)))
    (lUnlike : K.lookup fUnlike = some ⟨ocUnlike, odUnlike, .func (PySem.W.fnOf "_law_unlike" "_law_unlike" (defArgs st_unlike) (defBody st_unlike) (defScope st_unlike) .none kVUnlike dcUnlike pmUnlike anUnlike cdUnlike ctUnlike), slUnlike⟩)
    (cUnlike : PySem.W.codeIn K cdUnlike "_law_unlike" = true)
    (kUnlike : PySem.W.keepIn K (.ref fUnlike) = true)
    (aPlaces : PySem.W.nsIn K mainGlobals "_law_places" = some (some (.ref fPlaces)))
    (lPlaces : K.lookup fPlaces = some ⟨ocPlaces, odPlaces, .func (PySem.W.fnOf "_law_places" "_law_places" (defArgs st_places) (defBody st_places) (defScope st_places) .none kVPlaces dcPlaces pmPlaces anPlaces cdPlaces ctPlaces), slPlaces⟩)
    (cPlaces : PySem.W.codeIn K cdPlaces "_law_places" = true)
    (kPlaces : PySem.W.keepIn K (.ref fPlaces) = true)
    (aOptions : PySem.W.nsIn K mainGlobals "_law_options" = some (some (.ref fOptions)))
    (lOptions : K.lookup fOptions = some ⟨ocOptions, odOptions, .func (PySem.W.fnOf "_law_options" "_law_options" (defArgs st_options) (defBody st_options) (defScope st_options) .none kVOptions dcOptions pmOptions anOptions cdOptions ctOptions), slOptions⟩)
    (cOptions : PySem.W.codeIn K cdOptions "_law_options" = true)
    (kOptions : PySem.W.keepIn K (.ref fOptions) = true)
    (aGroups : PySem.W.nsIn K mainGlobals "_law_groups" = some (some (.ref fGroups)))
    (lGroups : K.lookup fGroups = some ⟨ocGroups, odGroups, .func (PySem.W.fnOf "_law_groups" "_law_groups" (defArgs st_groups) (defBody st_groups) (defScope st_groups) .none kVGroups dcGroups pmGroups anGroups cdGroups ctGroups), slGroups⟩)
    (cGroups : PySem.W.codeIn K cdGroups "_law_groups" = true)
    (kGroups : PySem.W.keepIn K (.ref fGroups) = true)
    (aTree : PySem.W.nsIn K mainGlobals "_law_tree" = some (some (.ref fTree)))
    (lTree : K.lookup fTree = some ⟨ocTree, odTree, .func (PySem.W.fnOf "_law_tree" "_law_tree" (defArgs st_tree) (defBody st_tree) (defScope st_tree) .none kVTree dcTree pmTree anTree cdTree ctTree), slTree⟩)
    (cTree : PySem.W.codeIn K cdTree "_law_tree" = true)
    (kTree : PySem.W.keepIn K (.ref fTree) = true)
    (aMkCmd : PySem.W.nsIn K mainGlobals "_law_command" = some (some (.ref fMkCmd)))
    (lMkCmd : K.lookup fMkCmd = some ⟨ocMkCmd, odMkCmd, .func (PySem.W.fnOf "_law_command" "_law_command" (defArgs st_command) (defBody st_command) (defScope st_command) .none kVMkCmd dcMkCmd pmMkCmd anMkCmd cdMkCmd ctMkCmd), slMkCmd⟩)
    (cMkCmd : PySem.W.codeIn K cdMkCmd "_law_command" = true)
    (kMkCmd : PySem.W.keepIn K (.ref fMkCmd) = true)
    (aAll : PySem.W.nsIn K mainGlobals "_law_all" = some (some (.ref fAll)))
    (lAll : K.lookup fAll = some ⟨ocAll, odAll, .func (PySem.W.fnOf "_law_all" "_law_all" (defArgs st_all) (defBody st_all) (defScope st_all) .none kVAll dcAll pmAll anAll cdAll ctAll), slAll⟩)
    (cAll : PySem.W.codeIn K cdAll "_law_all" = true)
    (kAll : PySem.W.keepIn K (.ref fAll) = true)
    (aPair : PySem.W.nsIn K mainGlobals "_law_pair" = some (some (.ref fPair)))
    (lPair : K.lookup fPair = some ⟨ocPair, odPair, .func (PySem.W.fnOf "_law_pair" "_law_pair" (defArgs st_pair) (defBody st_pair) (defScope st_pair) .none kVPair dcPair pmPair anPair cdPair ctPair), slPair⟩)
    (cPair : PySem.W.codeIn K cdPair "_law_pair" = true)
    (kPair : PySem.W.keepIn K (.ref fPair) = true)
    (aSpList : PySem.W.nsIn K mainGlobals "_law_spoilt_list" = some (some (.ref fSpList)))
    (lSpList : K.lookup fSpList = some ⟨ocSpList, odSpList, .func (PySem.W.fnOf "_law_spoilt_list" "_law_spoilt_list" (defArgs st_spoilt_list) (defBody st_spoilt_list) (defScope st_spoilt_list) .none kVSpList dcSpList pmSpList anSpList cdSpList ctSpList), slSpList⟩)
    (cSpList : PySem.W.codeIn K cdSpList "_law_spoilt_list" = true)
    (kSpList : PySem.W.keepIn K (.ref fSpList) = true)
    (aSpGroup : PySem.W.nsIn K mainGlobals "_law_spoilt_group" = some (some (.ref fSpGroup)))
    (lSpGroup : K.lookup fSpGroup = some ⟨ocSpGroup, odSpGroup, .func (PySem.W.fnOf "_law_spoilt_group" "_law_spoilt_group" (defArgs st_spoilt_group) (defBody st_spoilt_group) (defScope st_spoilt_group) .none kVSpGroup dcSpGroup pmSpGroup anSpGroup cdSpGroup ctSpGroup), slSpGroup⟩)
    (cSpGroup : PySem.W.codeIn K cdSpGroup "_law_spoilt_group" = true)
    (kSpGroup : PySem.W.keepIn K (.ref fSpGroup) = true)
    (aSpPlaces : PySem.W.nsIn K mainGlobals "_law_spoilt_places" = some (some (.ref fSpPlaces)))
    (lSpPlaces : K.lookup fSpPlaces = some ⟨ocSpPlaces, odSpPlaces, .func (PySem.W.fnOf "_law_spoilt_places" "_law_spoilt_places" (defArgs st_spoilt_places) (defBody st_spoilt_places) (defScope st_spoilt_places) .none kVSpPlaces dcSpPlaces pmSpPlaces anSpPlaces cdSpPlaces ctSpPlaces), slSpPlaces⟩)
    (cSpPlaces : PySem.W.codeIn K cdSpPlaces "_law_spoilt_places" = true)
    (kSpPlaces : PySem.W.keepIn K (.ref fSpPlaces) = true)
    (aDeep : PySem.W.nsIn K mainGlobals "_law_deepened" = some (some (.ref fDeep)))
    (lDeep : K.lookup fDeep = some ⟨ocDeep, odDeep, .func (PySem.W.fnOf "_law_deepened" "_law_deepened" (defArgs st_deepened) (defBody st_deepened) (defScope st_deepened) .none kVDeep dcDeep pmDeep anDeep cdDeep ctDeep), slDeep⟩)
    (cDeep : PySem.W.codeIn K cdDeep "_law_deepened" = true)
    (kDeep : PySem.W.keepIn K (.ref fDeep) = true)
    (aSpoilt : PySem.W.nsIn K mainGlobals "_law_spoilt" = some (some (.ref fSpoilt)))
    (lSpoilt : K.lookup fSpoilt = some ⟨ocSpoilt, odSpoilt, .func (PySem.W.fnOf "_law_spoilt" "_law_spoilt" (defArgs st_spoilt) (defBody st_spoilt) (defScope st_spoilt) .none kVSpoilt dcSpoilt pmSpoilt anSpoilt cdSpoilt ctSpoilt), slSpoilt⟩)
    (cSpoilt : PySem.W.codeIn K cdSpoilt "_law_spoilt" = true)
    (kSpoilt : PySem.W.keepIn K (.ref fSpoilt) = true)
    (aLast : PySem.W.nsIn K mainGlobals "_law_last" = some (some (.ref fLast)))
    (lLast : K.lookup fLast = some ⟨ocLast, odLast, .func (PySem.W.fnOf "_law_last" "_law_last" (defArgs st_last) (defBody st_last) (defScope st_last) .none kVLast dcLast pmLast anLast cdLast ctLast), slLast⟩)
    (cLast : PySem.W.codeIn K cdLast "_law_last" = true)
    (kLast : PySem.W.keepIn K (.ref fLast) = true)
    (aWithout : PySem.W.nsIn K mainGlobals "_law_without" = some (some (.ref fWithout)))
    (lWithout : K.lookup fWithout = some ⟨ocWithout, odWithout, .func (PySem.W.fnOf "_law_without" "_law_without" (defArgs st_without) (defBody st_without) (defScope st_without) .none kVWithout dcWithout pmWithout anWithout cdWithout ctWithout), slWithout⟩)
    (cWithout : PySem.W.codeIn K cdWithout "_law_without" = true)
    (kWithout : PySem.W.keepIn K (.ref fWithout) = true)
    (aPlaceOut : PySem.W.nsIn K mainGlobals "_law_place_out" = some (some (.ref fPlaceOut)))
    (lPlaceOut : K.lookup fPlaceOut = some ⟨ocPlaceOut, odPlaceOut, .func (PySem.W.fnOf "_law_place_out" "_law_place_out" (defArgs st_place_out) (defBody st_place_out) (defScope st_place_out) .none kVPlaceOut dcPlaceOut pmPlaceOut anPlaceOut cdPlaceOut ctPlaceOut), slPlaceOut⟩)
    (cPlaceOut : PySem.W.codeIn K cdPlaceOut "_law_place_out" = true)
    (kPlaceOut : PySem.W.keepIn K (.ref fPlaceOut) = true)
    (aGroupOut : PySem.W.nsIn K mainGlobals "_law_group_out" = some (some (.ref fGroupOut)))
    (lGroupOut : K.lookup fGroupOut = some ⟨ocGroupOut, odGroupOut, .func (PySem.W.fnOf "_law_group_out" "_law_group_out" (defArgs st_group_out) (defBody st_group_out) (defScope st_group_out) .none kVGroupOut dcGroupOut pmGroupOut anGroupOut cdGroupOut ctGroupOut), slGroupOut⟩)
    (cGroupOut : PySem.W.codeIn K cdGroupOut "_law_group_out" = true)
    (kGroupOut : PySem.W.keepIn K (.ref fGroupOut) = true)
    (aTaken : PySem.W.nsIn K mainGlobals "_law_taken_out" = some (some (.ref fTaken)))
    (lTaken : K.lookup fTaken = some ⟨ocTaken, odTaken, .func (PySem.W.fnOf "_law_taken_out" "_law_taken_out" (defArgs st_taken_out) (defBody st_taken_out) (defScope st_taken_out) .none kVTaken dcTaken pmTaken anTaken cdTaken ctTaken), slTaken⟩)
    (cTaken : PySem.W.codeIn K cdTaken "_law_taken_out" = true)
    (kTaken : PySem.W.keepIn K (.ref fTaken) = true)
    (aAt : PySem.W.nsIn K mainGlobals "_law_at" = some (some (.ref fAt)))
    (lAt : K.lookup fAt = some ⟨ocAt, odAt, .func (PySem.W.fnOf "_law_at" "_law_at" (defArgs st_at) (defBody st_at) (defScope st_at) .none kVAt dcAt pmAt anAt cdAt ctAt), slAt⟩)
    (cAt : PySem.W.codeIn K cdAt "_law_at" = true)
    (kAt : PySem.W.keepIn K (.ref fAt) = true)
    (aMended : PySem.W.nsIn K mainGlobals "_law_mended" = some (some (.ref fMended)))
    (lMended : K.lookup fMended = some ⟨ocMended, odMended, .func (PySem.W.fnOf "_law_mended" "_law_mended" (defArgs st_mended) (defBody st_mended) (defScope st_mended) .none kVMended dcMended pmMended anMended cdMended ctMended), slMended⟩)
    (cMended : PySem.W.codeIn K cdMended "_law_mended" = true)
    (kMended : PySem.W.keepIn K (.ref fMended) = true)
    (aUnl : PySem.W.nsIn K mainGlobals "_law_unlike_texts" = some (some (.ref fUnl)))
    (lUnl : K.lookup fUnl = some ⟨ocUnl, odUnl, .func (PySem.W.fnOf "_law_unlike_texts" "_law_unlike_texts" (defArgs st_unlike_texts) (defBody st_unlike_texts) (defScope st_unlike_texts) .none kVUnl dcUnl pmUnl anUnl cdUnl ctUnl), slUnl⟩)
    (cUnl : PySem.W.codeIn K cdUnl "_law_unlike_texts" = true)
    (kUnl : PySem.W.keepIn K (.ref fUnl) = true)
    (aClean : PySem.W.nsIn K mainGlobals "_law_is_clean" = some (some (.ref fClean)))
    (lClean : K.lookup fClean = some ⟨ocClean, odClean, .func (PySem.W.fnOf "_law_is_clean" "_law_is_clean" (defArgs st_is_clean) (defBody st_is_clean) (defScope st_is_clean) .none kVClean dcClean pmClean anClean cdClean ctClean), slClean⟩)
    (cClean : PySem.W.codeIn K cdClean "_law_is_clean" = true)
    (kClean : PySem.W.keepIn K (.ref fClean) = true)
    (aB : PySem.W.nsIn K mainGlobals "BenchError" = some (some (.ref BE)))
    (tB : PySem.W.typeIn K (.ref BE) = some (.type "type"))
    (hdB : PySem.W.hasDictIn K BE = true)
    (spN : PySem.W.specialIn K (.builtin "object.__class__") "__get__" = some (some (.builtin "getset_descriptor.__get__")))
    (tkN : PySem.W.takesIn K (.builtin "object.__class__") = some true)
    (aNO : PySem.W.nsIn K mainGlobals "NoOption" = some (some (.ref CNO)))
    (xNO : K.lookup CNO = some (excClassObj nmO qO CNO NNO bsO [.ref BE, .type "ValueError", .type "Exception", .type "BaseException", .type "object"] true snO subO abO colO ddO m0O m1O m2O m3O m5O "ValueError.__new__"))
    (aEO : PySem.W.findIn K (.ref CNO) "__init__" = some (some (.ref fEO)))
    (lEO : K.lookup fEO = some ⟨ocEO, odEO, .func (PySem.W.fnOf "__init__" "NoOption.__init__" (defArgs st_err) (defBody st_err) (defScope st_err) .none kVEO dcEO pmEO anEO cdEO ctEO), slEO⟩)
    (cEO : PySem.W.codeIn K cdEO "NoOption.__init__" = true)
    (kEO : PySem.W.keepIn K (.ref fEO) = true)
    (tEO : PySem.W.typeIn K (.ref fEO) = some (.type "function"))
    (saNO : PySem.W.findIn K (.ref CNO) "__setattr__" = some (some (.builtin "object.__setattr__")))
    (nfNO : PySem.W.findIn K (.ref CNO) "field" = some none)
    (kNO : PySem.W.keepIn K (.ref CNO) = true)
    (eNO : PySem.W.subIn K (.ref CNO) (.type "BaseException") = some true)
    (tNO : PySem.W.typeIn K (.ref CNO) = some (.type "type"))
    (aCO : PySem.W.nsIn K mainGlobals "Option" = some (some (.ref CO)))
    (aIO : PySem.W.findIn K (.ref CO) "__init__" = some (some (.ref fIO)))
    (lIO : K.lookup fIO = some ⟨ocIO, odIO, .func (PySem.W.fnOf "__init__" "Option.__init__" (defArgs st_init) (defBody st_init) (defScope st_init) (.ref TO) kVIO dcIO pmIO anIO cdIO ctIO), slIO⟩)
    (cIO : PySem.W.codeIn K cdIO "Option.__init__" = true)
    (kIO : PySem.W.keepIn K (.ref fIO) = true)
    (iIO : PySem.W.isFn K (.ref fIO) = true)
    (lTO : K.lookup TO = some ⟨ocTO, odTO, .seq [.str (Str.ofString "") tO1, .str (Str.ofString "flag") tO2, .str (Str.ofString "word") tO3, .none, .bool false, .bool false, .str (Str.ofString "") tO4].toArray nTO, slTO⟩)
    (nhO : PySem.W.findIn K (.ref CO) "held" = some none)
    (aGOL : PySem.W.findIn K (.ref CO) "long" = some (some (.ref fGOL)))
    (lGOL : K.lookup fGOL = some ⟨ocGOL, odGOL, .func (PySem.W.fnOf "long" "Option.long" (defArgs st_Option_long) (defBody st_Option_long) (defScope st_Option_long) .none kVGOL dcGOL pmGOL anGOL cdGOL ctGOL), slGOL⟩)
    (cGOL : PySem.W.codeIn K cdGOL "Option.long" = true)
    (kGOL : PySem.W.keepIn K (.ref fGOL) = true)
    (iGOL : PySem.W.isFn K (.ref fGOL) = true)
    (aGOS : PySem.W.findIn K (.ref CO) "short" = some (some (.ref fGOS)))
    (lGOS : K.lookup fGOS = some ⟨ocGOS, odGOS, .func (PySem.W.fnOf "short" "Option.short" (defArgs st_Option_short) (defBody st_Option_short) (defScope st_Option_short) .none kVGOS dcGOS pmGOS anGOS cdGOS ctGOS), slGOS⟩)
    (cGOS : PySem.W.codeIn K cdGOS "Option.short" = true)
    (kGOS : PySem.W.keepIn K (.ref fGOS) = true)
    (iGOS : PySem.W.isFn K (.ref fGOS) = true)
    (aGON : PySem.W.findIn K (.ref CO) "needed" = some (some (.ref fGON)))
    (lGON : K.lookup fGON = some ⟨ocGON, odGON, .func (PySem.W.fnOf "needed" "Option.needed" (defArgs st_Option_needed) (defBody st_Option_needed) (defScope st_Option_needed) .none kVGON dcGON pmGON anGON cdGON ctGON), slGON⟩)
    (cGON : PySem.W.codeIn K cdGON "Option.needed" = true)
    (kGON : PySem.W.keepIn K (.ref fGON) = true)
    (iGON : PySem.W.isFn K (.ref fGON) = true)
    (pgO : PySem.W.plainGet K CO Str.empty = true)
    (hdO : PySem.W.hasDictIn K CO = true)
    (poO : PySem.W.plainOver K CO = true)
    (saO : PySem.W.findIn K (.ref CO) "__setattr__" = some (some (.builtin "object.__setattr__")))
    (mkO : PySem.W.makesIn K CO = true)
    (kCO : PySem.W.keepIn K (.ref CO) = true)
    (tyO : PySem.W.typeIn K (.ref CO) = some (.type "type"))
    (ssO : PySem.W.subIn K (.ref CO) (.ref CO) = some true)
    (moO : PySem.W.mroIn K CO (.type "object") = some true)
    (caO : PySem.W.findIn K (.ref CO) "__class__" = some (some (.builtin "object.__class__")))
    (sbOstr : PySem.W.subIn K (.ref CO) (.type "str") = some false)
    (sbOlist : PySem.W.subIn K (.ref CO) (.type "list") = some false)
    (nrONoneType : PySem.W.subIn K (.type "NoneType") (.ref CO) = some false)
    (nrObool : PySem.W.subIn K (.type "bool") (.ref CO) = some false)
    (nrOint : PySem.W.subIn K (.type "int") (.ref CO) = some false)
    (nrOstr : PySem.W.subIn K (.type "str") (.ref CO) = some false)
    (nrOlist : PySem.W.subIn K (.type "list") (.ref CO) = some false)
    (nrOtuple : PySem.W.subIn K (.type "tuple") (.ref CO) = some false)
    (nrOdict : PySem.W.subIn K (.type "dict") (.ref CO) = some false)
    (aNP : PySem.W.nsIn K mainGlobals "NoPlace" = some (some (.ref CNP)))
    (xNP : K.lookup CNP = some (excClassObj nmP qP CNP NNP bsP [.ref BE, .type "ValueError", .type "Exception", .type "BaseException", .type "object"] true snP subP abP colP ddP m0P m1P m2P m3P m5P "ValueError.__new__"))
    (aEP : PySem.W.findIn K (.ref CNP) "__init__" = some (some (.ref fEP)))
    (lEP : K.lookup fEP = some ⟨ocEP, odEP, .func (PySem.W.fnOf "__init__" "NoPlace.__init__" (defArgs WP.st_err) (defBody WP.st_err) (defScope WP.st_err) .none kVEP dcEP pmEP anEP cdEP ctEP), slEP⟩)
    (cEP : PySem.W.codeIn K cdEP "NoPlace.__init__" = true)
    (kEP : PySem.W.keepIn K (.ref fEP) = true)
    (tEP : PySem.W.typeIn K (.ref fEP) = some (.type "function"))
    (saNP : PySem.W.findIn K (.ref CNP) "__setattr__" = some (some (.builtin "object.__setattr__")))
    (nfNP : PySem.W.findIn K (.ref CNP) "field" = some none)
    (kNP : PySem.W.keepIn K (.ref CNP) = true)
    (eNP : PySem.W.subIn K (.ref CNP) (.type "BaseException") = some true)
    (tNP : PySem.W.typeIn K (.ref CNP) = some (.type "type"))
    (aCP : PySem.W.nsIn K mainGlobals "Place" = some (some (.ref CP)))
    (aIP : PySem.W.findIn K (.ref CP) "__init__" = some (some (.ref fIP)))
    (lIP : K.lookup fIP = some ⟨ocIP, odIP, .func (PySem.W.fnOf "__init__" "Place.__init__" (defArgs WP.st_init) (defBody WP.st_init) (defScope WP.st_init) (.ref TP) kVIP dcIP pmIP anIP cdIP ctIP), slIP⟩)
    (cIP : PySem.W.codeIn K cdIP "Place.__init__" = true)
    (kIP : PySem.W.keepIn K (.ref fIP) = true)
    (iIP : PySem.W.isFn K (.ref fIP) = true)
    (lTP : K.lookup TP = some ⟨ocTP, odTP, .seq [.str (Str.ofString "one") tP1, .str (Str.ofString "word") tP2, .none, .str (Str.ofString "") tP3].toArray nTP, slTP⟩)
    (nhP : PySem.W.findIn K (.ref CP) "held" = some none)
    (aGPN : PySem.W.findIn K (.ref CP) "name" = some (some (.ref fGPN)))
    (lGPN : K.lookup fGPN = some ⟨ocGPN, odGPN, .func (PySem.W.fnOf "name" "Place.name" (defArgs st_Place_name) (defBody st_Place_name) (defScope st_Place_name) .none kVGPN dcGPN pmGPN anGPN cdGPN ctGPN), slGPN⟩)
    (cGPN : PySem.W.codeIn K cdGPN "Place.name" = true)
    (kGPN : PySem.W.keepIn K (.ref fGPN) = true)
    (iGPN : PySem.W.isFn K (.ref fGPN) = true)
    (aGPM : PySem.W.findIn K (.ref CP) "many" = some (some (.ref fGPM)))
    (lGPM : K.lookup fGPM = some ⟨ocGPM, odGPM, .func (PySem.W.fnOf "many" "Place.many" (defArgs st_Place_many) (defBody st_Place_many) (defScope st_Place_many) .none kVGPM dcGPM pmGPM anGPM cdGPM ctGPM), slGPM⟩)
    (cGPM : PySem.W.codeIn K cdGPM "Place.many" = true)
    (kGPM : PySem.W.keepIn K (.ref fGPM) = true)
    (iGPM : PySem.W.isFn K (.ref fGPM) = true)
    (pgP : PySem.W.plainGet K CP Str.empty = true)
    (hdP : PySem.W.hasDictIn K CP = true)
    (poP : PySem.W.plainOver K CP = true)
    (saP : PySem.W.findIn K (.ref CP) "__setattr__" = some (some (.builtin "object.__setattr__")))
    (mkP : PySem.W.makesIn K CP = true)
    (kCP : PySem.W.keepIn K (.ref CP) = true)
    (tyP : PySem.W.typeIn K (.ref CP) = some (.type "type"))
    (ssP : PySem.W.subIn K (.ref CP) (.ref CP) = some true)
    (moP : PySem.W.mroIn K CP (.type "object") = some true)
    (caP : PySem.W.findIn K (.ref CP) "__class__" = some (some (.builtin "object.__class__")))
    (sbPstr : PySem.W.subIn K (.ref CP) (.type "str") = some false)
    (sbPlist : PySem.W.subIn K (.ref CP) (.type "list") = some false)
    (nrPNoneType : PySem.W.subIn K (.type "NoneType") (.ref CP) = some false)
    (nrPbool : PySem.W.subIn K (.type "bool") (.ref CP) = some false)
    (nrPint : PySem.W.subIn K (.type "int") (.ref CP) = some false)
    (nrPstr : PySem.W.subIn K (.type "str") (.ref CP) = some false)
    (nrPlist : PySem.W.subIn K (.type "list") (.ref CP) = some false)
    (nrPtuple : PySem.W.subIn K (.type "tuple") (.ref CP) = some false)
    (nrPdict : PySem.W.subIn K (.type "dict") (.ref CP) = some false)
    (aNC : PySem.W.nsIn K mainGlobals "NoCommand" = some (some (.ref CNC)))
    (xNC : K.lookup CNC = some (excClassObj nmC qC CNC NNC bsC [.ref BE, .type "ValueError", .type "Exception", .type "BaseException", .type "object"] true snC subC abC colC ddC m0C m1C m2C m3C m5C "ValueError.__new__"))
    (aEC : PySem.W.findIn K (.ref CNC) "__init__" = some (some (.ref fEC)))
    (lEC : K.lookup fEC = some ⟨ocEC, odEC, .func (PySem.W.fnOf "__init__" "NoCommand.__init__" (defArgs st_errC) (defBody st_errC) (defScope st_errC) .none kVEC dcEC pmEC anEC cdEC ctEC), slEC⟩)
    (cEC : PySem.W.codeIn K cdEC "NoCommand.__init__" = true)
    (kEC : PySem.W.keepIn K (.ref fEC) = true)
    (tEC : PySem.W.typeIn K (.ref fEC) = some (.type "function"))
    (saNC : PySem.W.findIn K (.ref CNC) "__setattr__" = some (some (.builtin "object.__setattr__")))
    (nfNC : PySem.W.findIn K (.ref CNC) "field" = some none)
    (kNC : PySem.W.keepIn K (.ref CNC) = true)
    (eNC : PySem.W.subIn K (.ref CNC) (.type "BaseException") = some true)
    (tNC : PySem.W.typeIn K (.ref CNC) = some (.type "type"))
    (gaN : PySem.W.findIn K (.ref CNC) "__getattribute__" = some (some (.builtin "BaseException.__getattribute__")))
    (ggN : PySem.W.findIn K (.ref CNC) "__getattr__" = some none)
    (hcN : PySem.W.findIn K (.ref CNC) "__class__" = some (some (.builtin "object.__class__")))
    (hdN : PySem.W.hasDictIn K CNC = true)
    (sN : PySem.W.subIn K (.ref CNC) (.ref CNC) = some true)
    (moN : PySem.W.mroIn K CNC (.type "object") = some true)
    (sB : PySem.W.subIn K (.ref CNC) (.ref BE) = some true)
    (aCC : PySem.W.nsIn K mainGlobals "Command" = some (some (.ref CC)))
    (aIC : PySem.W.findIn K (.ref CC) "__init__" = some (some (.ref fIC)))
    (lIC : K.lookup fIC = some ⟨ocIC, odIC, .func (PySem.W.fnOf "__init__" "Command.__init__" (defArgs st_Command_init) (defBody st_Command_init) (defScope st_Command_init) (.ref TC) kVIC dcIC pmIC anIC cdIC ctIC), slIC⟩)
    (cIC : PySem.W.codeIn K cdIC "Command.__init__" = true)
    (kIC : PySem.W.keepIn K (.ref fIC) = true)
    (iIC : PySem.W.isFn K (.ref fIC) = true)
    (lTC : K.lookup TC = some ⟨ocTC, odTC, .seq [.none, .none, .none, .none, .str (Str.ofString "") tC1].toArray nTC, slTC⟩)
    (aM0 : PySem.W.findIn K (.ref CC) "name" = some (some (.ref fM0)))
    (lM0 : K.lookup fM0 = some ⟨ocM0, odM0, .func (PySem.W.fnOf "name" "Command.name" (defArgs st_Command_name) (defBody st_Command_name) (defScope st_Command_name) .none kVM0 dcM0 pmM0 anM0 cdM0 ctM0), slM0⟩)
    (cM0 : PySem.W.codeIn K cdM0 "Command.name" = true)
    (kM0 : PySem.W.keepIn K (.ref fM0) = true)
    (iM0 : PySem.W.isFn K (.ref fM0) = true)
    (no0 : PySem.W.findIn K (.ref CC) "own_name" = some none)
    (aM1 : PySem.W.findIn K (.ref CC) "options" = some (some (.ref fM1)))
    (lM1 : K.lookup fM1 = some ⟨ocM1, odM1, .func (PySem.W.fnOf "options" "Command.options" (defArgs st_Command_options) (defBody st_Command_options) (defScope st_Command_options) .none kVM1 dcM1 pmM1 anM1 cdM1 ctM1), slM1⟩)
    (cM1 : PySem.W.codeIn K cdM1 "Command.options" = true)
    (kM1 : PySem.W.keepIn K (.ref fM1) = true)
    (iM1 : PySem.W.isFn K (.ref fM1) = true)
    (no1 : PySem.W.findIn K (.ref CC) "own_options" = some none)
    (aM2 : PySem.W.findIn K (.ref CC) "places" = some (some (.ref fM2)))
    (lM2 : K.lookup fM2 = some ⟨ocM2, odM2, .func (PySem.W.fnOf "places" "Command.places" (defArgs st_Command_places) (defBody st_Command_places) (defScope st_Command_places) .none kVM2 dcM2 pmM2 anM2 cdM2 ctM2), slM2⟩)
    (cM2 : PySem.W.codeIn K cdM2 "Command.places" = true)
    (kM2 : PySem.W.keepIn K (.ref fM2) = true)
    (iM2 : PySem.W.isFn K (.ref fM2) = true)
    (no2 : PySem.W.findIn K (.ref CC) "own_places" = some none)
    (aM3 : PySem.W.findIn K (.ref CC) "groups" = some (some (.ref fM3)))
    (lM3 : K.lookup fM3 = some ⟨ocM3, odM3, .func (PySem.W.fnOf "groups" "Command.groups" (defArgs st_Command_groups) (defBody st_Command_groups) (defScope st_Command_groups) .none kVM3 dcM3 pmM3 anM3 cdM3 ctM3), slM3⟩)
    (cM3 : PySem.W.codeIn K cdM3 "Command.groups" = true)
    (kM3 : PySem.W.keepIn K (.ref fM3) = true)
    (iM3 : PySem.W.isFn K (.ref fM3) = true)
    (no3 : PySem.W.findIn K (.ref CC) "own_groups" = some none)
    (aM4 : PySem.W.findIn K (.ref CC) "commands" = some (some (.ref fM4)))
    (lM4 : K.lookup fM4 = some ⟨ocM4, odM4, .func (PySem.W.fnOf "commands" "Command.commands" (defArgs st_Command_commands) (defBody st_Command_commands) (defScope st_Command_commands) .none kVM4 dcM4 pmM4 anM4 cdM4 ctM4), slM4⟩)
    (cM4 : PySem.W.codeIn K cdM4 "Command.commands" = true)
    (kM4 : PySem.W.keepIn K (.ref fM4) = true)
    (iM4 : PySem.W.isFn K (.ref fM4) = true)
    (no4 : PySem.W.findIn K (.ref CC) "own_commands" = some none)
    (aM5 : PySem.W.findIn K (.ref CC) "about" = some (some (.ref fM5)))
    (lM5 : K.lookup fM5 = some ⟨ocM5, odM5, .func (PySem.W.fnOf "about" "Command.about" (defArgs st_Command_about) (defBody st_Command_about) (defScope st_Command_about) .none kVM5 dcM5 pmM5 anM5 cdM5 ctM5), slM5⟩)
    (cM5 : PySem.W.codeIn K cdM5 "Command.about" = true)
    (kM5 : PySem.W.keepIn K (.ref fM5) = true)
    (iM5 : PySem.W.isFn K (.ref fM5) = true)
    (no5 : PySem.W.findIn K (.ref CC) "own_about" = some none)
    (pgC : PySem.W.plainGet K CC Str.empty = true)
    (hdC : PySem.W.hasDictIn K CC = true)
    (poC : PySem.W.plainOver K CC = true)
    (saC : PySem.W.findIn K (.ref CC) "__setattr__" = some (some (.builtin "object.__setattr__")))
    (mkC : PySem.W.makesIn K CC = true)
    (kCC : PySem.W.keepIn K (.ref CC) = true)
    (tyC : PySem.W.typeIn K (.ref CC) = some (.type "type"))
    (ssC : PySem.W.subIn K (.ref CC) (.ref CC) = some true)
    (moC : PySem.W.mroIn K CC (.type "object") = some true)
    (caC : PySem.W.findIn K (.ref CC) "__class__" = some (some (.builtin "object.__class__")))
    (sbCstr : PySem.W.subIn K (.ref CC) (.type "str") = some false)
    (sbClist : PySem.W.subIn K (.ref CC) (.type "list") = some false)
    (nrCNoneType : PySem.W.subIn K (.type "NoneType") (.ref CC) = some false)
    (nrCbool : PySem.W.subIn K (.type "bool") (.ref CC) = some false)
    (nrCint : PySem.W.subIn K (.type "int") (.ref CC) = some false)
    (nrCstr : PySem.W.subIn K (.type "str") (.ref CC) = some false)
    (nrClist : PySem.W.subIn K (.type "list") (.ref CC) = some false)
    (nrCtuple : PySem.W.subIn K (.type "tuple") (.ref CC) = some false)
    (nrCdict : PySem.W.subIn K (.type "dict") (.ref CC) = some false)
    (sOP : PySem.W.subIn K (.ref CO) (.ref CP) = some false)
    (sOC : PySem.W.subIn K (.ref CO) (.ref CC) = some false)
    (sPO : PySem.W.subIn K (.ref CP) (.ref CO) = some false)
    (sPC : PySem.W.subIn K (.ref CP) (.ref CC) = some false)
    (sCO : PySem.W.subIn K (.ref CC) (.ref CO) = some false)
    (sCP : PySem.W.subIn K (.ref CC) (.ref CP) = some false)
    (v1 : PySem.W.nsIn K mainGlobals "MOST_NAME_SIGNS" = some (some (.int 10 u1)))
    (v2 : PySem.W.nsIn K mainGlobals "NAME_SIGNS" = some (some (.str nameSet u2)))
    (v3 : PySem.W.nsIn K mainGlobals "MOST_ABOUT_SIGNS" = some (some (.int 200 u3)))
    (v4 : PySem.W.nsIn K mainGlobals "MOST_DEFAULT_SIGNS" = some (some (.int 60 u4)))
    (v5 : PySem.W.nsIn K mainGlobals "LETTERS" = some (some (.str letters u5)))
    (v6 : PySem.W.nsIn K mainGlobals "TAKES" = some (some (.ref aT)))
    (v7 : PySem.W.nsIn K mainGlobals "UNVALUED" = some (some (.ref aU)))
    (v8 : PySem.W.nsIn K mainGlobals "WITH_DEFAULT" = some (some (.ref aW)))
    (v9 : PySem.W.nsIn K mainGlobals "MANIES" = some (some (.ref aM)))
    (x1 : PySem.W.nsIn K mainGlobals "MOST_OPTIONS" = some (some (.int 12 w1)))
    (x2 : PySem.W.nsIn K mainGlobals "MOST_PLACES" = some (some (.int 6 w2)))
    (x3 : PySem.W.nsIn K mainGlobals "MOST_GROUPS" = some (some (.int 4 w3)))
    (x4 : PySem.W.nsIn K mainGlobals "FEWEST_IN_GROUP" = some (some (.int 2 w4)))
    (x5 : PySem.W.nsIn K mainGlobals "MOST_IN_GROUP" = some (some (.int 6 w5)))
    (x6 : PySem.W.nsIn K mainGlobals "MOST_COMMANDS" = some (some (.int 8 w6)))
    (l6 : K.lookup aT = some ⟨.type "tuple", odA, .seq [.str (Str.ofString "flag") s1, .str (Str.ofString "count") s2, .str (Str.ofString "one") s3, .str (Str.ofString "last") s4, .str (Str.ofString "each") s5].toArray nA, slA⟩)
    (l7 : K.lookup aU = some ⟨.type "tuple", odB, .seq [.str (Str.ofString "flag") s6, .str (Str.ofString "count") s7].toArray nB, slB⟩)
    (l8 : K.lookup aW = some ⟨.type "tuple", odC, .seq [.str (Str.ofString "one") s8, .str (Str.ofString "last") s9].toArray nC, slC⟩)
    (l9 : K.lookup aM = some ⟨.type "tuple", odM, .seq [.str (Str.ofString "one") r1, .str (Str.ofString "maybe") r2, .str (Str.ofString "some") r3, .str (Str.ofString "any") r4].toArray nM, slM⟩)
    (cMN : PySem.W.nsIn K mainGlobals "MOST_NAMES_IN_PATH" = some (some (.int 4 uMN)))
    (cLF : PySem.W.nsIn K mainGlobals "LOOKED_FOR" = some (some (.ref aL)))
    (lL : K.lookup aL = some ⟨.type "tuple", odL, .seq [.ref tL0, .ref tL1, .ref tL2, .ref tL3, .ref tL4, .ref tL5, .ref tL6].toArray nL, slL⟩)
    (lL0 : K.lookup tL0 = some ⟨.type "tuple", odL0, .seq [.str (Str.ofString "long") kL0, .ref fLongC].toArray nL0, slL0⟩)
    (lL1 : K.lookup tL1 = some ⟨.type "tuple", odL1, .seq [.str (Str.ofString "short") kL1, .ref fShortC].toArray nL1, slL1⟩)
    (lL2 : K.lookup tL2 = some ⟨.type "tuple", odL2, .seq [.str (Str.ofString "name") kL2, .ref fNameC].toArray nL2, slL2⟩)
    (lL3 : K.lookup tL3 = some ⟨.type "tuple", odL3, .seq [.str (Str.ofString "order") kL3, .ref fOrderC].toArray nL3, slL3⟩)
    (lL4 : K.lookup tL4 = some ⟨.type "tuple", odL4, .seq [.str (Str.ofString "both") kL4, .ref fBothC].toArray nL4, slL4⟩)
    (lL5 : K.lookup tL5 = some ⟨.type "tuple", odL5, .seq [.str (Str.ofString "group") kL5, .ref fGroupC].toArray nL5, slL5⟩)
    (lL6 : K.lookup tL6 = some ⟨.type "tuple", odL6, .seq [.str (Str.ofString "command") kL6, .ref fCommandC].toArray nL6, slL6⟩)
    (z_len : PySem.W.nsIn K mainGlobals "len" = some none)
    (z_max : PySem.W.nsIn K mainGlobals "max" = some none)
    (z_min : PySem.W.nsIn K mainGlobals "min" = some none)
    (z_abs : PySem.W.nsIn K mainGlobals "abs" = some none)
    (z_range : PySem.W.nsIn K mainGlobals "range" = some none)
    (z_list : PySem.W.nsIn K mainGlobals "list" = some none)
    (z_repr : PySem.W.nsIn K mainGlobals "repr" = some none)
    (z_str : PySem.W.nsIn K mainGlobals "str" = some none)
    (z_isinstance : PySem.W.nsIn K mainGlobals "isinstance" = some none)
    (z_all : PySem.W.nsIn K mainGlobals "all" = some none)
    (z_bool : PySem.W.nsIn K mainGlobals "bool" = some none)
    (z_tuple : PySem.W.nsIn K mainGlobals "tuple" = some none)
    (z_int : PySem.W.nsIn K mainGlobals "int" = some none)
    (z_enumerate : PySem.W.nsIn K mainGlobals "enumerate" = some none)
    (z_sum : PySem.W.nsIn K mainGlobals "sum" = some none)
    (z_set : PySem.W.nsIn K mainGlobals "set" = some none)
    (z_sorted : PySem.W.nsIn K mainGlobals "sorted" = some none)
    (aLaw : PySem.W.nsIn K mainGlobals "law" = some (some (.ref fLaw)))
    (lLaw : K.lookup fLaw = some ⟨ocLaw, odLaw, .func (PySem.W.fnOf "law" "law" (defArgs st_law) (defBody st_law) (defScope st_law) .none kVLaw dcLaw pmLaw anLaw cdLaw ctLaw), slLaw⟩)
    (cLaw : PySem.W.codeIn K cdLaw "law" = true)
    (kLaw : PySem.W.keepIn K (.ref fLaw) = true) :
    ∃ fd : FuncData, (∀ (s : Shared) (v : Value), BindsTo s fd ⟨[v], []⟩ [("_law_script", v)]) ∧ ∀ base : Heap, K.In base → base.Ns mainGlobals mg → FnOk l.prog w K mg base CX0 61 fa fd ["_law_script"] (spLaw K) := by
  have e := hfa.symm.trans (PySem.W.mg_of X G aLaw)
  cases e
  have g0 : ∀ {x : Str}, PySem.W.nsIn K mainGlobals x = some none → mg x = none := fun {x} z => PySem.W.mg_none_of X G z
  have DWithin := df_mk (st := st_is_text_within) (ps := ["value", "most"]) X G aWithin lWithin cWithin kWithin fun _ _ _ _ _ _ us hl => match us, hl with | [_, _], _ => rfl
  have DIsName := df_mk (st := st_is_name) (ps := ["value"]) X G aIsName lIsName cIsName kIsName fun _ _ _ _ _ _ us hl => match us, hl with | [_], _ => rfl
  have DIsAbout := df_mk (st := st_is_about) (ps := ["value"]) X G aIsAbout lIsAbout cIsAbout kIsAbout fun _ _ _ _ _ _ us hl => match us, hl with | [_], _ => rfl
  have DIsAmong := df_mk (st := st_is_among) (ps := ["value", "texts"]) X G aIsAmong lIsAmong cIsAmong kIsAmong fun _ _ _ _ _ _ us hl => match us, hl with | [_, _], _ => rfl
  have DIsDefault := df_mk (st := st_is_default) (ps := ["value", "allowed"]) X G aIsDefault lIsDefault cIsDefault kIsDefault fun _ _ _ _ _ _ us hl => match us, hl with | [_, _], _ => rfl
  have DIsShort := df_mk (st := st_is_short_or_empty) (ps := ["value"]) X G aIsShort lIsShort cIsShort kIsShort fun _ _ _ _ _ _ us hl => match us, hl with | [_], _ => rfl
  have DIsTruth := df_mk (st := st_is_truth) (ps := ["value", "allowed"]) X G aIsTruth lIsTruth cIsTruth kIsTruth fun _ _ _ _ _ _ us hl => match us, hl with | [_, _], _ => rfl
  have DComma := df_mk (st := st_comma_joined) (ps := ["values"]) X G aComma lComma cComma kComma fun _ _ _ _ _ _ us hl => match us, hl with | [_], _ => rfl
  have DLWithin := df_mk (st := st_is_list_within) (ps := ["value", "most"]) X G aLWithin lLWithin cLWithin kLWithin fun _ _ _ _ _ _ us hl => match us, hl with | [_, _], _ => rfl
  have DAreO := df_mk (st := st_are_options) (ps := ["value"]) X G aAreO lAreO cAreO kAreO fun _ _ _ _ _ _ us hl => match us, hl with | [_], _ => rfl
  have DAreP := df_mk (st := st_are_places) (ps := ["value"]) X G aAreP lAreP cAreP kAreP fun _ _ _ _ _ _ us hl => match us, hl with | [_], _ => rfl
  have DIsG := df_mk (st := st_is_group) (ps := ["value"]) X G aIsG lIsG cIsG kIsG fun _ _ _ _ _ _ us hl => match us, hl with | [_], _ => rfl
  have DAreG := df_mk (st := st_are_groups) (ps := ["value"]) X G aAreG lAreG cAreG kAreG fun _ _ _ _ _ _ us hl => match us, hl with | [_], _ => rfl
  have DAreC := df_mk (st := st_are_commands) (ps := ["value"]) X G aAreC lAreC cAreC kAreC fun _ _ _ _ _ _ us hl => match us, hl with | [_], _ => rfl
  have DEmpty := df_mk (st := st_empty_for_none) (ps := ["value"]) X G aEmpty lEmpty cEmpty kEmpty fun _ _ _ _ _ _ us hl => match us, hl with | [_], _ => rfl
  have DCopied := df_mk (st := st_copied_groups) (ps := ["groups"]) X G aCopied lCopied cCopied kCopied fun _ _ _ _ _ _ us hl => match us, hl with | [_], _ => rfl
  have DFirstRep := df_mk (st := st_first_repeated) (ps := ["texts", "ahead"]) X G aFirstRep lFirstRep cFirstRep kFirstRep fun _ _ _ _ _ _ us hl => match us, hl with | [_, _], _ => rfl
  have DLongNames := df_mk (st := st_long_names) (ps := ["command"]) X G aLongNames lLongNames cLongNames kLongNames fun _ _ _ _ _ _ us hl => match us, hl with | [_], _ => rfl
  have DLongC := df_mk (st := st_long_clash) (ps := ["command"]) X G aLongC lLongC cLongC kLongC fun _ _ _ _ _ _ us hl => match us, hl with | [_], _ => rfl
  have DShortC := df_mk (st := st_short_clash) (ps := ["command"]) X G aShortC lShortC cShortC kShortC fun _ _ _ _ _ _ us hl => match us, hl with | [_], _ => rfl
  have DNameC := df_mk (st := st_name_clash) (ps := ["command"]) X G aNameC lNameC cNameC kNameC fun _ _ _ _ _ _ us hl => match us, hl with | [_], _ => rfl
  have DMay := df_mk (st := st_may_stand_behind) (ps := ["many", "ahead"]) X G aMay lMay cMay kMay fun _ _ _ _ _ _ us hl => match us, hl with | [_, _], _ => rfl
  have DOrderC := df_mk (st := st_order_clash) (ps := ["command"]) X G aOrderC lOrderC cOrderC kOrderC fun _ _ _ _ _ _ us hl => match us, hl with | [_], _ => rfl
  have DBothC := df_mk (st := st_both_clash) (ps := ["command"]) X G aBothC lBothC cBothC kBothC fun _ _ _ _ _ _ us hl => match us, hl with | [_], _ => rfl
  have DGroupC := df_mk (st := st_group_clash) (ps := ["command"]) X G aGroupC lGroupC cGroupC kGroupC fun _ _ _ _ _ _ us hl => match us, hl with | [_], _ => rfl
  have DCommandC := df_mk (st := st_command_clash) (ps := ["command"]) X G aCommandC lCommandC cCommandC kCommandC fun _ _ _ _ _ _ us hl => match us, hl with | [_], _ => rfl
  have DOwnC := df_mk (st := st_own_clash) (ps := ["command", "path"]) X G aOwnC lOwnC cOwnC kOwnC fun _ _ _ _ _ _ us hl => match us, hl with | [_, _], _ => rfl
  have DWithinC := df_mk (st := st_clash_within) (ps := ["command", "above"]) X G aWithinC lWithinC cWithinC kWithinC fun _ _ _ _ _ _ us hl => match us, hl with | [_, _], _ => rfl
  have DFirstC := df_mk (st := st_first_clash) (ps := ["command"]) X G aFirstC lFirstC cFirstC kFirstC fun _ _ _ _ _ _ us hl => match us, hl with | [_], _ => rfl
  have DCell := df_mk (st := sCell) (ps := ["_law_script", "_law_k"]) X G aCell lCell cCell kCell fun _ _ _ _ _ _ us hl => match us, hl with | [_, _], _ => rfl
  have DPot := df_mk (st := sPot) (ps := ["_law_script", "_law_k"]) X G aPot lPot cPot kPot fun _ _ _ _ _ _ us hl => match us, hl with | [_, _], _ => rfl
  have DTake := df_mk (st := sTake) (ps := ["_law_pot_here", "_law_room"]) X G aTake lTake cTake kTake fun _ _ _ _ _ _ us hl => match us, hl with | [_, _], _ => rfl
  have DName := df_mk (st := sName) (ps := ["_law_pot_here"]) X G aName lName cName kName fun _ _ _ _ _ _ us hl => match us, hl with | [_], _ => rfl
  have DUnlike := df_mk (st := st_unlike) (ps := ["_law_pot_here", "_law_seen"]) X G aUnlike lUnlike cUnlike kUnlike fun _ _ _ _ _ _ us hl => match us, hl with | [_, _], _ => rfl
  have DPlaces := df_mk (st := st_places) (ps := ["_law_pot_here", "_law_seen"]) X G aPlaces lPlaces cPlaces kPlaces fun _ _ _ _ _ _ us hl => match us, hl with | [_, _], _ => rfl
  have DOptions := df_mk (st := st_options) (ps := ["_law_pot_here", "_law_seen"]) X G aOptions lOptions cOptions kOptions fun _ _ _ _ _ _ us hl => match us, hl with | [_, _], _ => rfl
  have DGroups := df_mk (st := st_groups) (ps := ["_law_pot_here", "_law_options_here"]) X G aGroups lGroups cGroups kGroups fun _ _ _ _ _ _ us hl => match us, hl with | [_, _], _ => rfl
  have DTree := df_mk (st := st_tree) (ps := ["_law_pot_here", "_law_name_here", "_law_deep", "_law_left"]) X G aTree lTree cTree kTree fun _ _ _ _ _ _ us hl => match us, hl with | [_, _, _, _], _ => rfl
  have DMkCmd := df_mk (st := st_command) (ps := ["_law_tree_here"]) X G aMkCmd lMkCmd cMkCmd kMkCmd fun _ _ _ _ _ _ us hl => match us, hl with | [_], _ => rfl
  have DAll := df_mk (st := st_all) (ps := ["_law_tree_here"]) X G aAll lAll cAll kAll fun _ _ _ _ _ _ us hl => match us, hl with | [_], _ => rfl
  have DPair := df_mk (st := st_pair) (ps := ["_law_pot_here", "_law_many"]) X G aPair lPair cPair kPair fun _ _ _ _ _ _ us hl => match us, hl with | [_, _], _ => rfl
  have DSpList := df_mk (st := st_spoilt_list) (ps := ["_law_pot_here", "_law_things", "_law_at_here"]) X G aSpList lSpList cSpList kSpList fun _ _ _ _ _ _ us hl => match us, hl with | [_, _, _], _ => rfl
  have DSpGroup := df_mk (st := st_spoilt_group) (ps := ["_law_pot_here", "_law_tree_here"]) X G aSpGroup lSpGroup cSpGroup kSpGroup fun _ _ _ _ _ _ us hl => match us, hl with | [_, _], _ => rfl
  have DSpPlaces := df_mk (st := st_spoilt_places) (ps := ["_law_pot_here", "_law_tree_here", "_law_way"]) X G aSpPlaces lSpPlaces cSpPlaces kSpPlaces fun _ _ _ _ _ _ us hl => match us, hl with | [_, _, _], _ => rfl
  have DDeep := df_mk (st := st_deepened) (ps := ["_law_pot_here", "_law_tree_here"]) X G aDeep lDeep cDeep kDeep fun _ _ _ _ _ _ us hl => match us, hl with | [_, _], _ => rfl
  have DSpoilt := df_mk (st := st_spoilt) (ps := ["_law_pot_here", "_law_whole"]) X G aSpoilt lSpoilt cSpoilt kSpoilt fun _ _ _ _ _ _ us hl => match us, hl with | [_, _], _ => rfl
  have DLast := df_mk (st := st_last) (ps := ["_law_things", "_law_who", "_law_at_here"]) X G aLast lLast cLast kLast fun _ _ _ _ _ _ us hl => match us, hl with | [_, _, _], _ => rfl
  have DWithout := df_mk (st := st_without) (ps := ["_law_things", "_law_who", "_law_at_here"]) X G aWithout lWithout cWithout kWithout fun _ _ _ _ _ _ us hl => match us, hl with | [_, _, _], _ => rfl
  have DPlaceOut := df_mk (st := st_place_out) (ps := ["_law_tree_here", "_law_kind", "_law_who"]) X G aPlaceOut lPlaceOut cPlaceOut kPlaceOut fun _ _ _ _ _ _ us hl => match us, hl with | [_, _, _], _ => rfl
  have DGroupOut := df_mk (st := st_group_out) (ps := ["_law_tree_here", "_law_who"]) X G aGroupOut lGroupOut cGroupOut kGroupOut fun _ _ _ _ _ _ us hl => match us, hl with | [_, _], _ => rfl
  have DTaken := df_mk (st := st_taken_out) (ps := ["_law_tree_here", "_law_kind", "_law_who"]) X G aTaken lTaken cTaken kTaken fun _ _ _ _ _ _ us hl => match us, hl with | [_, _, _], _ => rfl
  have DAt := df_mk (st := st_at) (ps := ["_law_tree_here", "_law_path"]) X G aAt lAt cAt kAt fun _ _ _ _ _ _ us hl => match us, hl with | [_, _], _ => rfl
  have DMended := df_mk (st := st_mended) (ps := ["_law_tree_here", "_law_told"]) X G aMended lMended cMended kMended fun _ _ _ _ _ _ us hl => match us, hl with | [_, _], _ => rfl
  have DUnl := df_mk (st := st_unlike_texts) (ps := ["_law_texts"]) X G aUnl lUnl cUnl kUnl fun _ _ _ _ _ _ us hl => match us, hl with | [_], _ => rfl
  have DClean := df_mk (st := st_is_clean) (ps := ["_law_tree_here", "_law_deep"]) X G aClean lClean cClean kClean fun _ _ _ _ _ _ us hl => match us, hl with | [_, _], _ => rfl
  have FLaw := fun_mk (st := st_law) lLaw cLaw kLaw
  have FEO := fun_mk (st := st_err) lEO cEO kEO
  have bEO := FEO.binds (ps := ["self", "field"]) fun _ _ _ _ _ _ us hl => match us, hl with | [_, _], _ => rfl
  have TEO : ErrT K mg "NoOption" CNO fEO _ := ⟨⟨⟨nmO, qO, NNO, bsO, _, snO, subO, abO, colO, ddO, m0O, m1O, m2O, m3O, m5O, xNO, rfl⟩, saNO, eNO, tNO, kNO⟩, aEO, tEO, nfNO, PySem.W.mg_of X G aNO, bEO⟩
  have FIO : InitO K fIO _ := ⟨⟨_, _, _, _, _, _, _, _, _, _, rfl, lIO, cIO, .inr ⟨by simp, TO, _, _, _, rfl, lTO, rfl, .cons ⟨_, rfl⟩ (.cons ⟨_, rfl⟩ (.cons ⟨_, rfl⟩ (.cons rfl (.cons rfl (.cons rfl (.cons ⟨_, rfl⟩ .nil))))))⟩, .inl rfl⟩, kIO⟩
  have CLO : Cls K CO := ⟨pgO, hdO, poO, saO⟩
  have ICO : IsiC K CO := ⟨caO, spN, tkN, moO⟩
  obtain ⟨d1O, hv1O, b1O⟩ := initO_b1 FIO
  have TTO : ClsT K CO := ⟨CLO, nhO⟩
  have FGOL := fun_mk (st := st_Option_long) lGOL cGOL kGOL
  have bGOL := FGOL.binds (ps := ["self"]) fun _ _ _ _ _ _ us hl => match us, hl with | [_], _ => rfl
  have FGOS := fun_mk (st := st_Option_short) lGOS cGOS kGOS
  have bGOS := FGOS.binds (ps := ["self"]) fun _ _ _ _ _ _ us hl => match us, hl with | [_], _ => rfl
  have FGON := fun_mk (st := st_Option_needed) lGON cGON kGON
  have bGON := FGON.binds (ps := ["self"]) fun _ _ _ _ _ _ us hl => match us, hl with | [_], _ => rfl
  have nrO : ∀ T ∈ allT, PySem.W.kitOne K (.type T) (.ref CO) = some false := fun T hT => kit_no hdO tyO (all_T (Q := fun T => PySem.W.subIn K (.type T) (.ref CO) = some false) nrONoneType nrObool nrOint nrOstr nrOlist nrOtuple nrOdict T hT) ssO
  have FEP := fun_mk (st := WP.st_err) lEP cEP kEP
  have bEP := FEP.binds (ps := ["self", "field"]) fun _ _ _ _ _ _ us hl => match us, hl with | [_, _], _ => rfl
  have TEP : WP.ErrT K mg "NoPlace" CNP fEP _ := ⟨⟨⟨nmP, qP, NNP, bsP, _, snP, subP, abP, colP, ddP, m0P, m1P, m2P, m3P, m5P, xNP, rfl⟩, saNP, eNP, tNP, kNP⟩, aEP, tEP, nfNP, PySem.W.mg_of X G aNP, bEP⟩
  have FIP : InitP K fIP _ := ⟨⟨_, _, _, _, _, _, _, _, _, _, rfl, lIP, cIP, .inr ⟨by simp, TP, _, _, _, rfl, lTP, rfl, .cons ⟨_, rfl⟩ (.cons ⟨_, rfl⟩ (.cons rfl (.cons ⟨_, rfl⟩ .nil)))⟩, .inl rfl⟩, kIP⟩
  have CLP : Cls K CP := ⟨pgP, hdP, poP, saP⟩
  have ICP : IsiC K CP := ⟨caP, spN, tkN, moP⟩
  obtain ⟨d1P, hv1P, b1P⟩ := initP_b1 FIP
  have TTP : ClsT K CP := ⟨CLP, nhP⟩
  have FGPN := fun_mk (st := st_Place_name) lGPN cGPN kGPN
  have bGPN := FGPN.binds (ps := ["self"]) fun _ _ _ _ _ _ us hl => match us, hl with | [_], _ => rfl
  have FGPM := fun_mk (st := st_Place_many) lGPM cGPM kGPM
  have bGPM := FGPM.binds (ps := ["self"]) fun _ _ _ _ _ _ us hl => match us, hl with | [_], _ => rfl
  have nrP : ∀ T ∈ allT, PySem.W.kitOne K (.type T) (.ref CP) = some false := fun T hT => kit_no hdP tyP (all_T (Q := fun T => PySem.W.subIn K (.type T) (.ref CP) = some false) nrPNoneType nrPbool nrPint nrPstr nrPlist nrPtuple nrPdict T hT) ssP
  have FEC := fun_mk (st := st_errC) lEC cEC kEC
  have bEC := FEC.binds (ps := ["self", "field"]) fun _ _ _ _ _ _ us hl => match us, hl with | [_, _], _ => rfl
  have TEC : ErrT K mg "NoCommand" CNC fEC _ := ⟨⟨⟨nmC, qC, NNC, bsC, _, snC, subC, abC, colC, ddC, m0C, m1C, m2C, m3C, m5C, xNC, rfl⟩, saNC, eNC, tNC, kNC⟩, aEC, tEC, nfNC, PySem.W.mg_of X G aNC, bEC⟩
  have FIC : InitC K fIC _ := ⟨⟨_, _, _, _, _, _, _, _, _, _, rfl, lIC, cIC, .inr ⟨by simp, TC, _, _, _, rfl, lTC, rfl, .cons rfl (.cons rfl (.cons rfl (.cons rfl (.cons ⟨_, rfl⟩ .nil))))⟩, .inl rfl⟩, kIC⟩
  have CLC : Cls K CC := ⟨pgC, hdC, poC, saC⟩
  have ICC : IsiC K CC := ⟨caC, spN, tkN, moC⟩
  obtain ⟨d1C, hv1C, b1C⟩ := initC_b1 FIC
  have nrC : ∀ T ∈ allT, PySem.W.kitOne K (.type T) (.ref CC) = some false := fun T hT => kit_no hdC tyC (all_T (Q := fun T => PySem.W.subIn K (.type T) (.ref CC) = some false) nrCNoneType nrCbool nrCint nrCstr nrClist nrCtuple nrCdict T hT) ssC
  have FM0 := fun_mk (st := st_Command_name) lM0 cM0 kM0
  have bM0 := FM0.binds (ps := ["self"]) fun _ _ _ _ _ _ us hl => match us, hl with | [_], _ => rfl
  have FM1 := fun_mk (st := st_Command_options) lM1 cM1 kM1
  have bM1 := FM1.binds (ps := ["self"]) fun _ _ _ _ _ _ us hl => match us, hl with | [_], _ => rfl
  have FM2 := fun_mk (st := st_Command_places) lM2 cM2 kM2
  have bM2 := FM2.binds (ps := ["self"]) fun _ _ _ _ _ _ us hl => match us, hl with | [_], _ => rfl
  have FM3 := fun_mk (st := st_Command_groups) lM3 cM3 kM3
  have bM3 := FM3.binds (ps := ["self"]) fun _ _ _ _ _ _ us hl => match us, hl with | [_], _ => rfl
  have FM4 := fun_mk (st := st_Command_commands) lM4 cM4 kM4
  have bM4 := FM4.binds (ps := ["self"]) fun _ _ _ _ _ _ us hl => match us, hl with | [_], _ => rfl
  have FM5 := fun_mk (st := st_Command_about) lM5 cM5 kM5
  have bM5 := FM5.binds (ps := ["self"]) fun _ _ _ _ _ _ us hl => match us, hl with | [_], _ => rfl
  have hT : ∀ H : Hp, SqT K H aT (takesL.map V.str) := fun H => .inr ⟨_, _, _, l6, rfl, rfl, by simp [sizeLine_eq], .cons ⟨_, rfl⟩ (.cons ⟨_, rfl⟩ (.cons ⟨_, rfl⟩ (.cons ⟨_, rfl⟩ (.cons ⟨_, rfl⟩ .nil))))⟩
  have hU : ∀ H : Hp, SqT K H aU (plainL.map V.str) := fun H => .inr ⟨_, _, _, l7, rfl, rfl, by simp [sizeLine_eq], .cons ⟨_, rfl⟩ (.cons ⟨_, rfl⟩ .nil)⟩
  have hW : ∀ H : Hp, SqT K H aW (singleL.map V.str) := fun H => .inr ⟨_, _, _, l8, rfl, rfl, by simp [sizeLine_eq], .cons ⟨_, rfl⟩ (.cons ⟨_, rfl⟩ .nil)⟩
  have hM : ∀ H : Hp, SqT K H aM (WP.manies.map V.str) := fun H => .inr ⟨_, _, _, l9, rfl, rfl, by simp [sizeLine_eq], .cons ⟨_, rfl⟩ (.cons ⟨_, rfl⟩ (.cons ⟨_, rfl⟩ (.cons ⟨_, rfl⟩ .nil)))⟩
  have gO := PySem.W.mg_of X G aCO
  have gP := PySem.W.mg_of X G aCP
  have gC := PySem.W.mg_of X G aCC
  have kOP := kit_no hdP tyP sOP ssP
  have kPO := kit_no hdO tyO sPO ssO
  have kOC := kit_no hdC tyC sOC ssC
  have kCO' := kit_no hdO tyO sCO ssO
  have kPC := kit_no hdC tyC sPC ssC
  have kCP' := kit_no hdP tyP sCP ssP
  have c3 : Cl3 K [CO, CP, CC] := ⟨all_3 CLO CLP CLC, all_3 ICO ICP ICC, fun T hT => all_3 (nrO T hT) (nrP T hT) (nrC T hT), all_3 (all_3 kit_dec1 (kit_dec kOP) (kit_dec kOC)) (all_3 (kit_dec kPO) kit_dec1 (kit_dec kPC)) (all_3 (kit_dec kCO') (kit_dec kCP') kit_dec1), all_3 (kit_subT (by decide +kernel) sbOstr) (kit_subT (by decide +kernel) sbPstr) (kit_subT (by decide +kernel) sbCstr), all_3 (kit_subT (by decide +kernel) sbOlist) (kit_subT (by decide +kernel) sbPlist) (kit_subT (by decide +kernel) sbClist)⟩
  have TC : ClsC K CC := ⟨CLC, no0, no1, no2, no3, no4, no5⟩
  obtain ⟨itO, kbO⟩ := initO_k FIO
  obtain ⟨itC, kbC⟩ := initC_k FIC
  obtain ⟨d3P, hv3P, b3P⟩ := initP_b3 FIP
  obtain ⟨d6C, hv6C, b6C⟩ := initC_b6 FIC
  have LK : Looked K mg aL (pick7 tL0 tL1 tL2 tL3 tL4 tL5 tL6) (pick7 fLongC fShortC fNameC fOrderC fBothC fGroupC fCommandC) := ⟨PySem.W.mg_of X G cLF, fun H => .inr ⟨_, _, _, lL, rfl, rfl, by simp [sizeLine_eq], .cons rfl (.cons rfl (.cons rfl (.cons rfl (.cons rfl (.cons rfl (.cons rfl .nil))))))⟩,
    fun H => all7 (.inr ⟨_, _, _, lL0, rfl, rfl, by simp [sizeLine_eq], .cons ⟨_, rfl⟩ (.cons rfl .nil)⟩) (.inr ⟨_, _, _, lL1, rfl, rfl, by simp [sizeLine_eq], .cons ⟨_, rfl⟩ (.cons rfl .nil)⟩) (.inr ⟨_, _, _, lL2, rfl, rfl, by simp [sizeLine_eq], .cons ⟨_, rfl⟩ (.cons rfl .nil)⟩) (.inr ⟨_, _, _, lL3, rfl, rfl, by simp [sizeLine_eq], .cons ⟨_, rfl⟩ (.cons rfl .nil)⟩) (.inr ⟨_, _, _, lL4, rfl, rfl, by simp [sizeLine_eq], .cons ⟨_, rfl⟩ (.cons rfl .nil)⟩) (.inr ⟨_, _, _, lL5, rfl, rfl, by simp [sizeLine_eq], .cons ⟨_, rfl⟩ (.cons rfl .nil)⟩) (.inr ⟨_, _, _, lL6, rfl, rfl, by simp [sizeLine_eq], .cons ⟨_, rfl⟩ (.cons rfl .nil)⟩)⟩
  refine ⟨PySem.W.fnOf "law" "law" (defArgs st_law) (defBody st_law) (defScope st_law) .none kVLaw dcLaw pmLaw anLaw cdLaw ctLaw, fun s v => ?_, fun base _ _ => ?_⟩
  · exact .of_eq rfl
  · have GIO : FnOk l.prog w K mg base (L2.CX l.prog w) 3 fIO _ optPs (spInit CO CNO) := ok_init (k := 0) FIO FEO TEO TTO DWithin DIsName DIsAbout DIsAmong DIsDefault DIsShort DIsTruth (g0 z_len) (g0 z_str) (g0 z_bool) (g0 z_isinstance) (g0 z_all) (PySem.W.mg_of X G v1) (PySem.W.mg_of X G v2) (PySem.W.mg_of X G v3) (PySem.W.mg_of X G v4) (PySem.W.mg_of X G v5) (PySem.W.mg_of X G v6) hT (PySem.W.mg_of X G v7) hU (PySem.W.mg_of X G v8) hW
    have GIP : FnOk l.prog w K mg base (L2.CX l.prog w) 3 fIP _ plcPs (WP.spInit CP CNP) := WP.ok_init (k := 0) FIP FEP TEP ⟨TTP.cl, TTP.nh⟩ DWithin DIsName DIsAbout DIsAmong DIsDefault (g0 z_len) (g0 z_str) (g0 z_isinstance) (g0 z_all) (PySem.W.mg_of X G v1) (PySem.W.mg_of X G v2) (PySem.W.mg_of X G v3) (PySem.W.mg_of X G v4) (PySem.W.mg_of X G v9) hM
    have GIC : FnOk l.prog w K mg base (L2.CX l.prog w) 4 fIC _ cmdPs (spCInit CO CP CC CNC) := ok_cinit (k := 0) FIC c3 FEC TEC TC DWithin DIsName DIsAbout DLWithin DAreO DAreP DIsG DAreG DAreC DEmpty DCopied gO gP gC (g0 z_len) (g0 z_list) (g0 z_str) (g0 z_isinstance) (g0 z_all) (PySem.W.mg_of X G v1) (PySem.W.mg_of X G v2) (PySem.W.mg_of X G v3) (PySem.W.mg_of X G x1) (PySem.W.mg_of X G x2) (PySem.W.mg_of X G x3) (PySem.W.mg_of X G x4) (PySem.W.mg_of X G x5) (PySem.W.mg_of X G x6)
    have MA : Mk14 l.prog w K mg base (0 + 5) CO CP CC CNO CNP CNC fIO fIP fIC _ _ _ d3P d6C _ _ _ _ := ⟨⟨mkO, aIO, iIO, kCO⟩, GIO.mono (by decide), gO, kbO, fun _ _ _ _ _ _ => rfl, ⟨mkP, aIP, iIP, kCP⟩, GIP.mono (by decide), gP, b3P, hv3P, ⟨mkC, aIC, iIC, kCC⟩, GIC.mono (by decide), gC, b6C, hv6C, kbC, fun _ _ _ => rfl⟩
    have M : Gets l.prog w K mg base (0 + 2) CO CP CC := ⟨TC, TTO, TTP, ⟨fM0, _, ⟨aM0, iM0, kM0⟩, ok_cname (k := 1) FM0 TC, bM0⟩, ⟨fM5, _, ⟨aM5, iM5, kM5⟩, ok_cabout (k := 1) FM5 TC, bM5⟩, ⟨fM1, _, ⟨aM1, iM1, kM1⟩, ok_coptions (k := 1) FM1 TC (g0 z_list), bM1⟩, ⟨fM2, _, ⟨aM2, iM2, kM2⟩, ok_cplaces (k := 1) FM2 TC (g0 z_list), bM2⟩, ⟨fM4, _, ⟨aM4, iM4, kM4⟩, ok_ccommands (k := 1) FM4 TC (g0 z_list), bM4⟩, ⟨fM3, _, ⟨aM3, iM3, kM3⟩, ok_cgroups (k := 0) FM3 TC DCopied (g0 z_list), bM3⟩,
      ⟨fGOL, _, ⟨aGOL, iGOL, kGOL⟩, ok_glong (k := 1) FGOL TTO, bGOL⟩, ⟨fGOS, _, ⟨aGOS, iGOS, kGOS⟩, ok_gshort (k := 1) FGOS TTO, bGOS⟩, ⟨fGON, _, ⟨aGON, iGON, kGON⟩, ok_gneed (k := 1) FGON TTO, bGON⟩, ⟨fGPN, _, ⟨aGPN, iGPN, kGPN⟩, ok_gname (k := 1) FGPN TTP, bGPN⟩, ⟨fGPM, _, ⟨aGPM, iGPM, kGPM⟩, ok_gmany (k := 1) FGPM TTP, bGPM⟩⟩
    have GOwn : ∀ d, FnOk l.prog w K mg base CX0 5 fOwnC _ ["command", "path"] (spOwn CO CP CC d) := fun d => ok_own (k := 0) (fdL := pick7 _ _ _ _ _ _ _) DOwnC.F M LK (all7 (ok_longC (k := 0) DLongC.F M DFirstRep DLongNames (g0 z_list)) ((ok_shortC (k := 0) DShortC.F M DFirstRep (g0 z_list)).mono (by decide)) (ok_nameC (k := 0) DNameC.F M DFirstRep DLongNames (g0 z_list)) ((ok_orderC (k := 0) DOrderC.F M DMay).mono (by decide)) ((ok_bothC (k := 0) DBothC.F M (g0 z_len)).mono (by decide)) ((ok_groupC (k := 0) DGroupC.F M).mono (by decide)) ((ok_cmdC (k := 0) DCommandC.F M DFirstRep (g0 z_list)).mono (by decide)))
      (all7 kLongC kShortC kNameC kOrderC kBothC kGroupC kCommandC) (all7 DLongC.b DShortC.b DNameC.b DOrderC.b DBothC.b DGroupC.b DCommandC.b) (PySem.W.mg_of X G cMN) (g0 z_len)
    have GWithin := ok_withinC (k := 0) M DWithinC DOwnC GOwn
    have GFirst : FnOk l.prog w K mg base CX0 60 fFirstC _ ["command"] (spFirst CO CP CC 44) := ok_first (k := 59) DFirstC.F DWithinC ((GWithin 44).mono (by omega))
    have GCommand : FnOk l.prog w K mg base CX0 60 fMkCmd _ ["_law_tree_here"] (spCommand CO CP CC 44) := (ok_command (k := 0) DMkCmd MA 44).mono (by omega)
    have GAll : FnOk l.prog w K mg base CX0 60 fAll _ ["_law_tree_here"] (spAllT 44) := (ok_allT (k := 0) DAll 44).mono (by omega)
    have GSpoilt : FnOk l.prog w K mg base CX0 60 fSpoilt _ ["_law_pot_here", "_law_whole"] sp44 := fn_44 fun m ϕ => ok_spoilt (k := 10) DSpoilt.F DTake DName DUnlike DOptions DAll DPair DSpList DSpGroup DSpPlaces DDeep (g0 z_len) (g0 z_max) (g0 z_range) (g0 z_int)
    have GTree : FnOk l.prog w K mg base CX0 60 fTree _ ["_law_pot_here", "_law_name_here", "_law_deep", "_law_left"] (spTree 4) := (ok_tree (k := 0) DTree DTake DName DUnlike DPlaces DOptions DGroups (g0 z_len) (g0 z_range) (g0 z_int) (g0 z_min) (g0 z_list) 4).mono (by decide)
    have GTaken : ∀ d, FnOk l.prog w K mg base CX0 (0 + 3) fTaken _ ["_law_tree_here", "_law_kind", "_law_who"] (spTaken d) := fun d => ok_taken (k := 0) DTaken.F DLast DWithout DPlaceOut DGroupOut (g0 z_len) (g0 z_enumerate) (g0 z_sum)
    have GMended : FnOk l.prog w K mg base CX0 60 fMended _ ["_law_tree_here", "_law_told"] spMended := (ok_mended (k := 0) DMended.F DAt DLast DTaken GTaken (g0 z_len) (g0 z_enumerate)).mono (by decide)
    have GClean : FnOk l.prog w K mg base CX0 60 fClean _ ["_law_tree_here", "_law_deep"] (spClean 44) := (ok_clean (k := 0) DClean DUnl (g0 z_len) (g0 z_set) (g0 z_all) (g0 z_sorted) 44).mono (by omega)
    have GTake := ok_take (P := l.prog) (w := w) (mg := mg) (base := base) (k := 59) DTake.F
    have GName : FnOk l.prog w K mg base CX0 60 fName _ ["_law_pot_here"] spNm := ok_nm (k := 58) DName.F DTake (g0 z_len) (g0 z_range)
    have GPot : FnOk l.prog w K mg base CX0 60 fPot _ ["_law_script", "_law_k"] (spPot K) := ok_pot (k := 58) DPot.F DCell (g0 z_len) (g0 z_max) (g0 z_abs)
    exact ok_law (k := 60) FLaw DPot DTake DName DTree DSpoilt DAll DMkCmd DFirstC DMended DClean GPot GTake GName GTree GSpoilt GAll GCommand GFirst GMended GClean (g0 z_len) (g0 z_max) (g0 z_min) (g0 z_range) (g0 z_sum) (g0 z_isinstance) (g0 z_tuple)
end WB

open PySem PySem.W PyProof.Rows
set_option maxRecDepth 100000
set_option Elab.async false
set_option maxHeartbeats 0 in
theorem PySem.Challenge.cw_wordbench_k15_whole_clashes_taken_out_holds : PySem.Challenge.rw_wordbench_k15_whole_clashes_taken_out.Holds := by
  w_on; o_law; k_head; (case hw => w_witness2)
  k_fill
  refine L2.walk_of (l := PySem.Challenge.rw_wordbench_k15_whole_clashes_taken_out) (n := 63) (k := 61) (x := "_law_script") (CX := fun _ => L2.CX0) (sp := fun w => WB.spLaw _) rfl (by decide) rfl ⟨rfl, by decide, by decide⟩ (fun w h Y => PySem.W.kIn_of Y) ?F (fun _ _ a ns hl _ hS => ⟨a, ns, rfl, hS, hl, fun _ => rfl⟩) (fun _ _ _ _ _ h => h)
  case F =>
    intro w mg fa h KX G hmg
    refine' WB.all_mk KX G hmg ?aWithin ?lWithin ?cWithin ?kWithin ?aIsName ?lIsName ?cIsName ?kIsName ?aIsAbout ?lIsAbout ?cIsAbout ?kIsAbout ?aIsAmong ?lIsAmong ?cIsAmong ?kIsAmong ?aIsDefault ?lIsDefault ?cIsDefault ?kIsDefault ?aIsShort ?lIsShort ?cIsShort ?kIsShort ?aIsTruth ?lIsTruth ?cIsTruth ?kIsTruth ?aComma ?lComma ?cComma ?kComma ?aLWithin ?lLWithin ?cLWithin ?kLWithin ?aAreO ?lAreO ?cAreO ?kAreO ?aAreP ?lAreP ?cAreP ?kAreP ?aIsG ?lIsG ?cIsG ?kIsG ?aAreG ?lAreG ?cAreG ?kAreG ?aAreC ?lAreC ?cAreC ?kAreC ?aEmpty ?lEmpty ?cEmpty ?kEmpty ?aCopied ?lCopied ?cCopied ?kCopied ?aFirstRep ?lFirstRep ?cFirstRep ?kFirstRep ?aLongNames ?lLongNames ?cLongNames ?kLongNames ?aLongC ?lLongC ?cLongC ?kLongC ?aShortC ?lShortC ?cShortC ?kShortC ?aNameC ?lNameC ?cNameC ?kNameC ?aMay ?lMay ?cMay ?kMay ?aOrderC ?lOrderC ?cOrderC ?kOrderC ?aBothC ?lBothC ?cBothC ?kBothC ?aGroupC ?lGroupC ?cGroupC ?kGroupC ?aCommandC ?lCommandC ?cCommandC ?kCommandC ?aOwnC ?lOwnC ?cOwnC ?kOwnC ?aWithinC ?lWithinC ?cWithinC ?kWithinC ?aFirstC ?lFirstC ?cFirstC ?kFirstC ?aCell ?lCell ?cCell ?kCell ?aPot ?lPot ?cPot ?kPot ?aTake ?lTake ?cTake ?kTake ?aName ?lName ?cName ?kName ?aUnlike ?lUnlike ?cUnlike ?kUnlike ?aPlaces ?lPlaces ?cPlaces ?kPlaces ?aOptions ?lOptions ?cOptions ?kOptions ?aGroups ?lGroups ?cGroups ?kGroups ?aTree ?lTree ?cTree ?kTree ?aMkCmd ?lMkCmd ?cMkCmd ?kMkCmd ?aAll ?lAll ?cAll ?kAll ?aPair ?lPair ?cPair ?kPair ?aSpList ?lSpList ?cSpList ?kSpList ?aSpGroup ?lSpGroup ?cSpGroup ?kSpGroup ?aSpPlaces ?lSpPlaces ?cSpPlaces ?kSpPlaces ?aDeep ?lDeep ?cDeep ?kDeep ?aSpoilt ?lSpoilt ?cSpoilt ?kSpoilt ?aLast ?lLast ?cLast ?kLast ?aWithout ?lWithout ?cWithout ?kWithout ?aPlaceOut ?lPlaceOut ?cPlaceOut ?kPlaceOut ?aGroupOut ?lGroupOut ?cGroupOut ?kGroupOut ?aTaken ?lTaken ?cTaken ?kTaken ?aAt ?lAt ?cAt ?kAt ?aMended ?lMended ?cMended ?kMended ?aUnl ?lUnl ?cUnl ?kUnl ?aClean ?lClean ?cClean ?kClean ?aB ?tB ?hdB ?spN ?tkN ?aNO ?xNO ?aEO ?lEO ?cEO ?kEO ?tEO ?saNO ?nfNO ?kNO ?eNO ?tNO ?aCO ?aIO ?lIO ?cIO ?kIO ?iIO ?lTO ?nhO ?aGOL ?lGOL ?cGOL ?kGOL ?iGOL ?aGOS ?lGOS ?cGOS ?kGOS ?iGOS ?aGON ?lGON ?cGON ?kGON ?iGON ?pgO ?hdO ?poO ?saO ?mkO ?kCO ?tyO ?ssO ?moO ?caO ?sbOstr ?sbOlist ?nrONoneType ?nrObool ?nrOint ?nrOstr ?nrOlist ?nrOtuple ?nrOdict ?aNP ?xNP ?aEP ?lEP ?cEP ?kEP ?tEP ?saNP ?nfNP ?kNP ?eNP ?tNP ?aCP ?aIP ?lIP ?cIP ?kIP ?iIP ?lTP ?nhP ?aGPN ?lGPN ?cGPN ?kGPN ?iGPN ?aGPM ?lGPM ?cGPM ?kGPM ?iGPM ?pgP ?hdP ?poP ?saP ?mkP ?kCP ?tyP ?ssP ?moP ?caP ?sbPstr ?sbPlist ?nrPNoneType ?nrPbool ?nrPint ?nrPstr ?nrPlist ?nrPtuple ?nrPdict ?aNC ?xNC ?aEC ?lEC ?cEC ?kEC ?tEC ?saNC ?nfNC ?kNC ?eNC ?tNC ?gaN ?ggN ?hcN ?hdN ?sN ?moN ?sB ?aCC ?aIC ?lIC ?cIC ?kIC ?iIC ?lTC ?aM0 ?lM0 ?cM0 ?kM0 ?iM0 ?no0 ?aM1 ?lM1 ?cM1 ?kM1 ?iM1 ?no1 ?aM2 ?lM2 ?cM2 ?kM2 ?iM2 ?no2 ?aM3 ?lM3 ?cM3 ?kM3 ?iM3 ?no3 ?aM4 ?lM4 ?cM4 ?kM4 ?iM4 ?no4 ?aM5 ?lM5 ?cM5 ?kM5 ?iM5 ?no5 ?pgC ?hdC ?poC ?saC ?mkC ?kCC ?tyC ?ssC ?moC ?caC ?sbCstr ?sbClist ?nrCNoneType ?nrCbool ?nrCint ?nrCstr ?nrClist ?nrCtuple ?nrCdict ?sOP ?sOC ?sPO ?sPC ?sCO ?sCP ?v1 ?v2 ?v3 ?v4 ?v5 ?v6 ?v7 ?v8 ?v9 ?x1 ?x2 ?x3 ?x4 ?x5 ?x6 ?l6 ?l7 ?l8 ?l9 ?cMN ?cLF ?lL ?lL0 ?lL1 ?lL2 ?lL3 ?lL4 ?lL5 ?lL6 ?z_len ?z_max ?z_min ?z_abs ?z_range ?z_list ?z_repr ?z_str ?z_isinstance ?z_all ?z_bool ?z_tuple ?z_int ?z_enumerate ?z_sum ?z_set ?z_sorted ?aLaw ?lLaw ?cLaw ?kLaw
    (case aWithin => k_is)
    (case lWithin => k_is)
    (case cWithin => k_is)
    (case kWithin => k_is)
    (case aIsName => k_is)
    (case lIsName => k_is)
    (case cIsName => k_is)
    (case kIsName => k_is)
    (case aIsAbout => k_is)
    (case lIsAbout => k_is)
    (case cIsAbout => k_is)
    (case kIsAbout => k_is)
    (case aIsAmong => k_is)
    (case lIsAmong => k_is)
    (case cIsAmong => k_is)
    (case kIsAmong => k_is)
    (case aIsDefault => k_is)
    (case lIsDefault => k_is)
    (case cIsDefault => k_is)
    (case kIsDefault => k_is)
    (case aIsShort => k_is)
    (case lIsShort => k_is)
    (case cIsShort => k_is)
    (case kIsShort => k_is)
    (case aIsTruth => k_is)
    (case lIsTruth => k_is)
    (case cIsTruth => k_is)
    (case kIsTruth => k_is)
    (case aComma => k_is)
    (case lComma => k_is)
    (case cComma => k_is)
    (case kComma => k_is)
    (case aLWithin => k_is)
    (case lLWithin => k_is)
    (case cLWithin => k_is)
    (case kLWithin => k_is)
    (case aAreO => k_is)
    (case lAreO => k_is)
    (case cAreO => k_is)
    (case kAreO => k_is)
    (case aAreP => k_is)
    (case lAreP => k_is)
    (case cAreP => k_is)
    (case kAreP => k_is)
    (case aIsG => k_is)
    (case lIsG => k_is)
    (case cIsG => k_is)
    (case kIsG => k_is)
    (case aAreG => k_is)
    (case lAreG => k_is)
    (case cAreG => k_is)
    (case kAreG => k_is)
    (case aAreC => k_is)
    (case lAreC => k_is)
    (case cAreC => k_is)
    (case kAreC => k_is)
    (case aEmpty => k_is)
    (case lEmpty => k_is)
    (case cEmpty => k_is)
    (case kEmpty => k_is)
    (case aCopied => k_is)
    (case lCopied => k_is)
    (case cCopied => k_is)
    (case kCopied => k_is)
    (case aFirstRep => k_is)
    (case lFirstRep => k_is)
    (case cFirstRep => k_is)
    (case kFirstRep => k_is)
    (case aLongNames => k_is)
    (case lLongNames => k_is)
    (case cLongNames => k_is)
    (case kLongNames => k_is)
    (case aLongC => k_is)
    (case lLongC => k_is)
    (case cLongC => k_is)
    (case kLongC => k_is)
    (case aShortC => k_is)
    (case lShortC => k_is)
    (case cShortC => k_is)
    (case kShortC => k_is)
    (case aNameC => k_is)
    (case lNameC => k_is)
    (case cNameC => k_is)
    (case kNameC => k_is)
    (case aMay => k_is)
    (case lMay => k_is)
    (case cMay => k_is)
    (case kMay => k_is)
    (case aOrderC => k_is)
    (case lOrderC => k_is)
    (case cOrderC => k_is)
    (case kOrderC => k_is)
    (case aBothC => k_is)
    (case lBothC => k_is)
    (case cBothC => k_is)
    (case kBothC => k_is)
    (case aGroupC => k_is)
    (case lGroupC => k_is)
    (case cGroupC => k_is)
    (case kGroupC => k_is)
    (case aCommandC => k_is)
    (case lCommandC => k_is)
    (case cCommandC => k_is)
    (case kCommandC => k_is)
    (case aOwnC => k_is)
    (case lOwnC => k_is)
    (case cOwnC => k_is)
    (case kOwnC => k_is)
    (case aWithinC => k_is)
    (case lWithinC => k_is)
    (case cWithinC => k_is)
    (case kWithinC => k_is)
    (case aFirstC => k_is)
    (case lFirstC => k_is)
    (case cFirstC => k_is)
    (case kFirstC => k_is)
    (case aCell => k_is)
    (case lCell => k_is)
    (case cCell => k_is)
    (case kCell => k_is)
    (case aPot => k_is)
    (case lPot => k_is)
    (case cPot => k_is)
    (case kPot => k_is)
    (case aTake => k_is)
    (case lTake => k_is)
    (case cTake => k_is)
    (case kTake => k_is)
    (case aName => k_is)
    (case lName => k_is)
    (case cName => k_is)
    (case kName => k_is)
    (case aUnlike => k_is)
    (case lUnlike => k_is)
    (case cUnlike => k_is)
    (case kUnlike => k_is)
    (case aPlaces => k_is)
    (case lPlaces => k_is)
    (case cPlaces => k_is)
    (case kPlaces => k_is)
    (case aOptions => k_is)
    (case lOptions => k_is)
    (case cOptions => k_is)
    (case kOptions => k_is)
    (case aGroups => k_is)
    (case lGroups => k_is)
    (case cGroups => k_is)
    (case kGroups => k_is)
    (case aTree => k_is)
    (case lTree => k_is)
    (case cTree => k_is)
    (case kTree => k_is)
    (case aMkCmd => k_is)
    (case lMkCmd => k_is)
    (case cMkCmd => k_is)
    (case kMkCmd => k_is)
    (case aAll => k_is)
    (case lAll => k_is)
    (case cAll => k_is)
    (case kAll => k_is)
    (case aPair => k_is)
    (case lPair => k_is)
    (case cPair => k_is)
    (case kPair => k_is)
    (case aSpList => k_is)
    (case lSpList => k_is)
    (case cSpList => k_is)
    (case kSpList => k_is)
    (case aSpGroup => k_is)
    (case lSpGroup => k_is)
    (case cSpGroup => k_is)
    (case kSpGroup => k_is)
    (case aSpPlaces => k_is)
    (case lSpPlaces => k_is)
    (case cSpPlaces => k_is)
    (case kSpPlaces => k_is)
    (case aDeep => k_is)
    (case lDeep => k_is)
    (case cDeep => k_is)
    (case kDeep => k_is)
    (case aSpoilt => k_is)
    (case lSpoilt => k_is)
    (case cSpoilt => k_is)
    (case kSpoilt => k_is)
    (case aLast => k_is)
    (case lLast => k_is)
    (case cLast => k_is)
    (case kLast => k_is)
    (case aWithout => k_is)
    (case lWithout => k_is)
    (case cWithout => k_is)
    (case kWithout => k_is)
    (case aPlaceOut => k_is)
    (case lPlaceOut => k_is)
    (case cPlaceOut => k_is)
    (case kPlaceOut => k_is)
    (case aGroupOut => k_is)
    (case lGroupOut => k_is)
    (case cGroupOut => k_is)
    (case kGroupOut => k_is)
    (case aTaken => k_is)
    (case lTaken => k_is)
    (case cTaken => k_is)
    (case kTaken => k_is)
    (case aAt => k_is)
    (case lAt => k_is)
    (case cAt => k_is)
    (case kAt => k_is)
    (case aMended => k_is)
    (case lMended => k_is)
    (case cMended => k_is)
    (case kMended => k_is)
    (case aUnl => k_is)
    (case lUnl => k_is)
    (case cUnl => k_is)
    (case kUnl => k_is)
    (case aClean => k_is)
    (case lClean => k_is)
    (case cClean => k_is)
    (case kClean => k_is)
    (case aB => k_is)
    (case tB => k_is)
    (case hdB => k_is)
    (case spN => k_is)
    (case tkN => k_is)
    (case aNO => k_is)
    (case xNO => k_is)
    (case aEO => k_is)
    (case lEO => k_is)
    (case cEO => k_is)
    (case kEO => k_is)
    (case tEO => k_is)
    (case saNO => k_is)
    (case nfNO => k_is)
    (case kNO => k_is)
    (case eNO => k_is)
    (case tNO => k_is)
    (case aCO => k_is)
    (case aIO => k_is)
    (case lIO => k_is)
    (case cIO => k_is)
    (case kIO => k_is)
    (case iIO => k_is)
    (case lTO => k_is)
    (case nhO => k_is)
    (case aGOL => k_is)
    (case lGOL => k_is)
    (case cGOL => k_is)
    (case kGOL => k_is)
    (case iGOL => k_is)
    (case aGOS => k_is)
    (case lGOS => k_is)
    (case cGOS => k_is)
    (case kGOS => k_is)
    (case iGOS => k_is)
    (case aGON => k_is)
    (case lGON => k_is)
    (case cGON => k_is)
    (case kGON => k_is)
    (case iGON => k_is)
    (case pgO => k_is)
    (case hdO => k_is)
    (case poO => k_is)
    (case saO => k_is)
    (case mkO => k_is)
    (case kCO => k_is)
    (case tyO => k_is)
    (case ssO => k_is)
    (case moO => k_is)
    (case caO => k_is)
    (case sbOstr => k_is)
    (case sbOlist => k_is)
    (case nrONoneType => k_is)
    (case nrObool => k_is)
    (case nrOint => k_is)
    (case nrOstr => k_is)
    (case nrOlist => k_is)
    (case nrOtuple => k_is)
    (case nrOdict => k_is)
    (case aNP => k_is)
    (case xNP => k_is)
    (case aEP => k_is)
    (case lEP => k_is)
    (case cEP => k_is)
    (case kEP => k_is)
    (case tEP => k_is)
    (case saNP => k_is)
    (case nfNP => k_is)
    (case kNP => k_is)
    (case eNP => k_is)
    (case tNP => k_is)
    (case aCP => k_is)
    (case aIP => k_is)
    (case lIP => k_is)
    (case cIP => k_is)
    (case kIP => k_is)
    (case iIP => k_is)
    (case lTP => k_is)
    (case nhP => k_is)
    (case aGPN => k_is)
    (case lGPN => k_is)
    (case cGPN => k_is)
    (case kGPN => k_is)
    (case iGPN => k_is)
    (case aGPM => k_is)
    (case lGPM => k_is)
    (case cGPM => k_is)
    (case kGPM => k_is)
    (case iGPM => k_is)
    (case pgP => k_is)
    (case hdP => k_is)
    (case poP => k_is)
    (case saP => k_is)
    (case mkP => k_is)
    (case kCP => k_is)
    (case tyP => k_is)
    (case ssP => k_is)
    (case moP => k_is)
    (case caP => k_is)
    (case sbPstr => k_is)
    (case sbPlist => k_is)
    (case nrPNoneType => k_is)
    (case nrPbool => k_is)
    (case nrPint => k_is)
    (case nrPstr => k_is)
    (case nrPlist => k_is)
    (case nrPtuple => k_is)
    (case nrPdict => k_is)
    (case aNC => k_is)
    (case xNC => k_is)
    (case aEC => k_is)
    (case lEC => k_is)
    (case cEC => k_is)
    (case kEC => k_is)
    (case tEC => k_is)
    (case saNC => k_is)
    (case nfNC => k_is)
    (case kNC => k_is)
    (case eNC => k_is)
    (case tNC => k_is)
    (case gaN => k_is)
    (case ggN => k_is)
    (case hcN => k_is)
    (case hdN => k_is)
    (case sN => k_is)
    (case moN => k_is)
    (case sB => k_is)
    (case aCC => k_is)
    (case aIC => k_is)
    (case lIC => k_is)
    (case cIC => k_is)
    (case kIC => k_is)
    (case iIC => k_is)
    (case lTC => k_is)
    (case aM0 => k_is)
    (case lM0 => k_is)
    (case cM0 => k_is)
    (case kM0 => k_is)
    (case iM0 => k_is)
    (case no0 => k_is)
    (case aM1 => k_is)
    (case lM1 => k_is)
    (case cM1 => k_is)
    (case kM1 => k_is)
    (case iM1 => k_is)
    (case no1 => k_is)
    (case aM2 => k_is)
    (case lM2 => k_is)
    (case cM2 => k_is)
    (case kM2 => k_is)
    (case iM2 => k_is)
    (case no2 => k_is)
    (case aM3 => k_is)
    (case lM3 => k_is)
    (case cM3 => k_is)
    (case kM3 => k_is)
    (case iM3 => k_is)
    (case no3 => k_is)
    (case aM4 => k_is)
    (case lM4 => k_is)
    (case cM4 => k_is)
    (case kM4 => k_is)
    (case iM4 => k_is)
    (case no4 => k_is)
    (case aM5 => k_is)
    (case lM5 => k_is)
    (case cM5 => k_is)
    (case kM5 => k_is)
    (case iM5 => k_is)
    (case no5 => k_is)
    (case pgC => k_is)
    (case hdC => k_is)
    (case poC => k_is)
    (case saC => k_is)
    (case mkC => k_is)
    (case kCC => k_is)
    (case tyC => k_is)
    (case ssC => k_is)
    (case moC => k_is)
    (case caC => k_is)
    (case sbCstr => k_is)
    (case sbClist => k_is)
    (case nrCNoneType => k_is)
    (case nrCbool => k_is)
    (case nrCint => k_is)
    (case nrCstr => k_is)
    (case nrClist => k_is)
    (case nrCtuple => k_is)
    (case nrCdict => k_is)
    (case sOP => k_is)
    (case sOC => k_is)
    (case sPO => k_is)
    (case sPC => k_is)
    (case sCO => k_is)
    (case sCP => k_is)
    (case v1 => k_is)
    (case v2 => k_is)
    (case v3 => k_is)
    (case v4 => k_is)
    (case v5 => k_is)
    (case v6 => k_is)
    (case v7 => k_is)
    (case v8 => k_is)
    (case v9 => k_is)
    (case x1 => k_is)
    (case x2 => k_is)
    (case x3 => k_is)
    (case x4 => k_is)
    (case x5 => k_is)
    (case x6 => k_is)
    (case l6 => k_is)
    (case l7 => k_is)
    (case l8 => k_is)
    (case l9 => k_is)
    (case cMN => k_is)
    (case cLF => k_is)
    (case lL => k_is)
    (case lL0 => k_is)
    (case lL1 => k_is)
    (case lL2 => k_is)
    (case lL3 => k_is)
    (case lL4 => k_is)
    (case lL5 => k_is)
    (case lL6 => k_is)
    (case z_len => k_is)
    (case z_max => k_is)
    (case z_min => k_is)
    (case z_abs => k_is)
    (case z_range => k_is)
    (case z_list => k_is)
    (case z_repr => k_is)
    (case z_str => k_is)
    (case z_isinstance => k_is)
    (case z_all => k_is)
    (case z_bool => k_is)
    (case z_tuple => k_is)
    (case z_int => k_is)
    (case z_enumerate => k_is)
    (case z_sum => k_is)
    (case z_set => k_is)
    (case z_sorted => k_is)
    (case aLaw => k_is)
    (case lLaw => k_is)
    (case cLaw => k_is)
    (case kLaw => k_is)
