import PyProof.Rows.All
import Wide.All
import OpenK.AllK
import Wide.FinOn
import KE.KIsAll
import PyProof.ReprRoads
import PyProof.StrBlock2
import HandS.ForMost
import HandS.IsInst
import HandS.Exc
import HandS.ExcInit
import HandS.ExcField
import HandS.ExcIs
import HandS.TryOnly
import HandS.WordsExc
import HandS.Defaults
import HandS.MakeKw
import HandS.MakeKwOnly
import PySem.Challenge.RW_wordbench_k12_places_made
import HandS.Walk
import PyProof.ReprLen
set_option Elab.async false
set_option linter.all false
set_option maxRecDepth 100000
set_option maxHeartbeats 4000000
namespace WG
open PySem PySem.Spec PyProof.Rows L2
/-! ### a def's promise where no repr is under way -/
structure GOk (P : Program) (w : World) (K : PySem.W.Frag) (mg : Str → Option Value) (base : Heap) (CX : CXT) (k : Nat) (f : Addr) (fd : FuncData) (ps : List Str) (sp : Sp) : Prop where
  len : ∀ vs H Q E, sp vs H Q E → vs.length = ps.length
  run : ∀ (A : Around) (outer : List Env) (s : Shared) (H : Hp) (args : Args) (us : List Value) (vs : List V) (Q : VK) (E : XK), A.guards = some [] → Room k A → Env0 P w K mg base A outer s H →
    BindsTo s fd args (ps.zip us) → Vals vs us → sp vs H Q E → codeAny (model P w) A (.call (.ref f) args) (CR CX outer P w H s Q E) s
theorem GOk.of {P : Program} {w : World} {K : PySem.W.Frag} {mg : Str → Option Value} {base : Heap} {CX : CXT} {k : Nat} {f : Addr} {fd : FuncData} {ps : List Str} {sp : Sp} (F : FnOk P w K mg base CX k f fd ps sp) : GOk P w K mg base CX k f fd ps sp :=
  ⟨F.len, fun A o s H args us vs Q E _ => F.run A o s H args us vs Q E⟩
section
variable {CX : CXT} {P : Program} {w : World} {K : PySem.W.Frag} {mg : Str → Option Value} {base : Heap} {k : Nat} {f : Addr} {N ps : List Str} {sp : Sp}
theorem gfn_of {name qual : Str} {params : Arguments} {body : List Stmt} {scope : Scope} {dV kV doc pm cdv ct oc : Value} {an od : Option Addr} {osl : Array (Option Value)}
    (lk : K.lookup f = some ⟨oc, od, .func (PySem.W.fnOf name qual params body scope dV kV doc pm an cdv ct), osl⟩) (hcd : PySem.W.codeIn K cdv qual = true) (S : FnScope N ps scope) (len : ∀ vs H Q E, sp vs H Q E → vs.length = ps.length)
    (hbody : ∀ (A : Around) (outer : List Env) (s : Shared) (H : Hp) (vs : List V) (Q : VK) (E : XK), A.guards = some [] → Room k (A.deeper (envOfC qual scope s.heap.objs.size f cdv)) → sp vs H Q E →
      ∃ t, PSs (cxOf CX P w K mg base N qual scope f cdv A outer s H E) body t ∧ t { nx := fun _ H' => Q .non H', rt := Q } (L2.start N vs) H) :
    GOk P w K mg base CX (k + 1) f (PySem.W.fnOf name qual params body scope dV kV doc pm an cdv ct) ps sp := by
  refine ⟨len, fun A outer s H args us vs Q E hgd room env bnd rel want => ?_⟩
  have hlen := len _ _ _ _ want
  have kin : K.In s.heap := env.mod.kin.keeps fun b o q => (env.bs b o q).1
  have nolim : s.heap.NoLimit := env.mod.nolimit.keeps fun b o q => (env.bs b o q).1
  have kinds : ∀ y ∈ ps.zip us, scope.names.lookup y.1 = some .local ∨ (scope.names.lookup y.1 = some .cell ∧ ((cellsFrom (s.heap.objs.size + 1) scope.names []).lookup y.1).isSome = true) := by
    intro y hy
    obtain ⟨n, v⟩ := y
    cases S.par n (List.of_mem_zip hy).1 with
    | inl z => exact .inl z
    | inr z => exact .inr ⟨z, PySem.W.cellsFrom_some _ _ _ (.inl z)⟩
  refine codeAny_call_function room.depth (kin _ _ lk) rfl S.co S.gen rfl (PySem.W.codeRec_of kin hcd) (bnd _ _ _ _ ?_)
  refine wpAny_newFunctionEnv_cells S.kind kinds fun e2 he2 s1 hx => ?_
  subst he2
  refine ⟨nolim.keeps hx.toInCall.keep, codeAny_func ?_⟩
  obtain ⟨t, tb, tq⟩ := hbody A outer s H vs Q E hgd (room.deeper _) want
  have I : Inv (cxOf CX P w K mg base N qual scope f cdv A outer s H E) [] (L2.start N vs) H s1 := inv_start S room.hd env hlen rel hx
  refine wpAny_mono (tb.run [] s1 (L2.start N vs) H _ I tq) (fun fl s' hs => ?_) fun e s' hs => hs
  cases fl with
  | ret u =>
    obtain ⟨v, _, H', J, rv, q⟩ := hs
    exact ⟨v, H', J.os, J.bare, J.base, J.hok, rv, q⟩
  | next =>
    obtain ⟨_, H', J, q⟩ := hs
    exact ⟨V.non, H', J.os, J.bare, J.base, J.hok, rfl, q⟩
  | brk =>
    obtain ⟨_, _, _, q⟩ := hs
    exact False.elim q
  | cont =>
    obtain ⟨_, _, _, q⟩ := hs
    exact False.elim q
theorem gfun_ok {x qual : Str} {st : Stmt} {fd : FuncData} (F : Fun K x qual st f fd) (S : FnScope N ps (defScope st)) (len : ∀ vs H Q E, sp vs H Q E → vs.length = ps.length)
    (hbody : ∀ (cdv : Value) (A : Around) (outer : List Env) (s : Shared) (H : Hp) (vs : List V) (Q : VK) (E : XK), A.guards = some [] → Room k (A.deeper (envOfC qual (defScope st) s.heap.objs.size f cdv)) → sp vs H Q E →
      ∃ t, PSs (cxOf CX P w K mg base N qual (defScope st) f cdv A outer s H E) (defBody st) t ∧ t { nx := fun _ H' => Q .non H', rt := Q } (L2.start N vs) H) : GOk P w K mg base CX (k + 1) f fd ps sp := by
  obtain ⟨oc, od, kV, doc, pm, an, cdv, ct, osl, rfl, lk, hcd⟩ := F.ex
  exact gfn_of lk hcd S len fun A outer s H vs Q E hg hr hsp => hbody cdv A outer s H vs Q E hg hr hsp
end
section
variable {X : Cx} {CX : CXT} {k : Nat} {f : Addr} {fd : FuncData} {ps : List Str} {sp : Sp} {E : XK} {x : Str} {p pos : Pos} {e : Expr} {es : List Expr} {t : TA}
theorem pe_callG (F : GOk X.prog X.w X.K X.mg X.base CX k f fd ps sp) (hgd : X.A.guards = some []) (hr : Room k X.A) (hg : Gl X x) (hm : X.mg x = some (.ref f)) (hk : PySem.W.keepIn X.K (.ref f) = true) (hb : Binds X.K fd ps []) (hx : Passes CX X E)
    (ha : PA X (e :: es) t) (hdb : (x == ("__debug__" : Str)) = false := by decide) (he : starEach (e :: es) X.env = (false, eval e X.env) :: starEach es X.env := by rfl) (hpl : (backTo pos (starEach es X.env)).any (·.1) = false := by rfl) :
    PE X (.Call (.Name x p) (e :: es) [] pos) (tCall sp [] E t) := by
  constructor
  intro pins s σ H Q I h
  refine wpAny_Call_Name_kw (ld_glob I hg hm ?_ hdb)
  refine PySem.W.callWith_K (h₀ := X.base) I.ok.mod.kin hk (thn (ha.run pos pins s σ H _ I h) fun us s1 ⟨vs, H1, I1, r, q⟩ => ⟨I1.kIn, ?_⟩) he hpl
  have q : sp vs H1 Q E := by
    have z : sp (vs ++ []) H1 Q E := q
    rw [List.append_nil] at z
    exact z
  have hl : (us ++ []).length = ps.length := by
    rw [List.append_nil, ← r.length]
    exact F.len _ _ _ _ q
  have b := hb s1 us I1.kIn hl
  rw [List.append_nil] at b
  refine wpAny_call (codeAny_mono (F.run X.A X.stack s1 H1 ⟨us, []⟩ us vs Q E hgd hr I1.env0 b r q) fun rr s' hq => ?_)
  cases rr with
  | error er => exact hx pins σ H1 s1 er s' I1 hq
  | ok fl =>
    cases fl with
    | ret u => exact I1.after hq
    | next => exact hq.elim
    | brk => exact hq.elim
    | cont => exact hq.elim
end
/-! ### the law's end over such a promise -/
theorem glaw_call {P : Program} {w : World} {K : PySem.W.Frag} {mg mb : Str → Option Value} {CX : CXT} {k : Nat} {fa a : Addr} {fd : FuncData} {x : Str} {sp : Sp} {t : Shared} {vs : List Value} {ns : List Int}
    (kin : K.In t.heap) (nsm : t.heap.Ns mainGlobals mg) (nsb : t.heap.Ns builtinsNs mb) (hbb : ∀ x : Str, x ≠ "__name__" → mb x = bootBuiltins x) (nolim : t.heap.NoLimit) (nogen : t.gens = #[])
    (obj : t.heap.get? a = some { cls := .type "list", data := .seq vs.toArray }) (hints : IntsAre vs ns) (hl : ns.length ≤ sizeLine) (room : Room k callerA)
    (F : ∀ base : Heap, K.In base → base.Ns mainGlobals mg → GOk P w K mg base CX k fa fd [x] sp) (bnd : ∀ (s : Shared) (u : Value), BindsTo s fd ⟨[u], []⟩ [(x, u)])
    (want : ∀ H : Hp, Only H → SqL K H a (ns.map V.int) → sp [.ref a] H (fun v _ => v = .bl true) fun _ _ _ => False)
    (noX : ∀ H e s', CX [] H t (fun _ _ _ => False) e s' → False) :
    codeAny (model P w) callerA (.call (.ref fa) ⟨[.ref a], []⟩) (fun r s' => r = .ok (.ret (.bool true)) ∧ OldK t.heap s'.heap ∧ s'.os = t.os ∧ AllBare s'.gens) t := by
  have rv := vals_ints hints
  have hlv := hints.length
  have main : ∀ H : Hp, Only H → SqL K H a (ns.map V.int) → HOk P w H t.heap → (∀ b, H b ≠ none → b = a) → (H a ≠ none → K.lookup a = none) →
      codeAny (model P w) callerA (.call (.ref fa) ⟨[.ref a], []⟩) (fun r s' => r = .ok (.ret (.bool true)) ∧ OldK t.heap s'.heap ∧ s'.os = t.os ∧ AllBare s'.gens) t := by
    intro H only hS ok onlyA hK
    have noD : ∀ {b : Addr} {o : Obj} {es : Array DictEntry} {ep : Nat}, t.heap.get? b = some o → o.data = .dict es ep → H b = none := by
      intro b o es ep e d
      cases q : H b with
      | none => rfl
      | some u =>
        have z := onlyA b (by rw [q]; exact Option.some_ne_none u)
        subst z
        rw [obj] at e
        cases e
        cases d
    have nsH : ∀ {b : Addr} {m : Str → Option Value}, t.heap.Ns b m → (hidT t.heap H).Ns b m := by
      rintro b m ⟨o, es, ep, e, d, r⟩
      exact ⟨o, es, ep, hidT_get e (noD e d), d, r⟩
    have kinH : K.In (hidT t.heap H) := by
      intro b o e
      refine hidT_get (kin b o e) ?_
      cases q : H b with
      | none => rfl
      | some u =>
        have z := onlyA b (by rw [q]; exact Option.some_ne_none u)
        subst z
        rw [hK (by rw [q]; exact Option.some_ne_none u)] at e
        cases e
    have md : Mod K mg (hidT t.heap H) := by
      refine ⟨kinH, nsH nsm, ⟨mb, nsH nsb, hbb⟩, ?_⟩
      obtain ⟨mc, h1, h2⟩ := nolim
      exact ⟨mc, nsH h1, h2⟩
    have env : Env0 P w K mg (hidT t.heap H) callerA [] t H :=
      ⟨rfl, md, fun b o e => of_hidT e, Nat.le_of_eq (hidT_size _ _), trivial, fun b hb => (List.not_mem_nil (show b ∈ ([] : List Addr) from hb)).elim, ok, .of_eq nogen⟩
    refine codeAny_mono ((F _ kinH (nsH nsm)).run callerA [] t H ⟨[.ref a], []⟩ [.ref a] [.ref a] _ _ rfl room env (bnd t (.ref a)) (.cons rfl .nil) (want H only hS)) fun r s' h => ?_
    cases r with
    | error e => exact (noX H e s' h).elim
    | ok fl =>
      cases fl with
      | next => exact h.elim
      | brk => exact h.elim
      | cont => exact h.elim
      | ret u =>
        obtain ⟨v, H', os, bare, un, ok', r', q⟩ := h
        have q' : v = .bl true := q
        subst q'
        cases r'
        refine ⟨rfl, OldK.of_keep fun b o e => ?_, os, bare⟩
        cases q : H b with
        | none => exact un.keep b o e q (fun z => (List.not_mem_nil (show b ∈ ([] : List Addr) from z)).elim) List.not_mem_nil
        | some u =>
          rcases only b with z | ⟨ob, xs, z⟩
          · rw [q] at z
            cases z
          · obtain ⟨e1, _⟩ := ok b _ z
            obtain ⟨e2, _⟩ := ok' b _ (un.frzs b ob _ z)
            rw [e] at e1
            cases e1
            exact e2
  cases hk : K.lookup a with
  | some o =>
    have e := kin a o hk
    rw [obj] at e
    cases e
    refine main (fun _ => none) (fun _ => .inl rfl) (.inr ⟨_, vs.toArray, _, hk, rfl, rfl, rfl, ?_, by simpa using rv⟩) (fun b u z => by cases (show (none : Option HO) = some u from z)) (fun b z => absurd rfl z) fun z => absurd rfl z
    rw [List.size_toArray, hlv]
    exact hl
  | none =>
    refine main (fun b => if b = a then some (.frz { cls := .type "list", data := .seq vs.toArray } (.lst (ns.map V.int))) else none) (fun b => ?_) (.inl (.inr ⟨_, if_pos rfl⟩)) (fun b u z => ?_) (fun b z => ?_) fun _ => hk
    · by_cases hb : b = a
      · exact .inr ⟨_, _, if_pos hb⟩
      · exact .inl (if_neg hb)
    · by_cases hb : b = a
      · have z' := (if_pos hb).symm.trans z
        cases z'
        subst hb
        exact ⟨obj, by rw [List.length_map]; exact hl, vs, _, rv, obj⟩
      · have z' := (if_neg hb).symm.trans z
        cases z'
    · by_cases hb : b = a
      · exact hb
      · exact absurd (if_neg hb) z
theorem gwalk_of {l : PySem.W.OpenLaw} {n k : Nat} {q : Program} {loose : List Str} {XP : (Str → Option Value) → Heap → Prop} {YP : World → Heap → Prop} {d : DefRec} {K : Params → PySem.W.Frag} {CX : World → CXT} {sp : World → Sp} {x : Str}
    (hn : l.most = some n) (hn2 : n ≤ sizeLine) (hdf : d.params.defaults = []) (hr : Room k callerA) (hY : ∀ (w : World) (h : Heap), YP w h → (K w.params).In h)
    (F : ∀ (w : World) (mg : Str → Option Value) (fa : Addr) (h : Heap), (K w.params).In h → h.Ns mainGlobals mg → mg d.name = some (.ref fa) →
      ∃ fd : FuncData, (∀ (s : Shared) (u : Value), BindsTo s fd ⟨[u], []⟩ [(x, u)]) ∧ ∀ base : Heap, (K w.params).In base → base.Ns mainGlobals mg → GOk l.prog w (K w.params) mg base (CX w) k fa fd [x] (sp w))
    (hsp : ∀ (w : World) (H : Hp) (a : Addr) (ns : List Int), ns.length ≤ n → Only H → SqL (K w.params) H a (ns.map V.int) → sp w [.ref a] H (fun v _ => v = .bl true) fun _ _ _ => False)
    (hCX : ∀ (w : World) (H : Hp) (s : Shared) (e : Value) (s' : Shared), CX w [] H s (fun _ _ _ => False) e s' → False) : PySem.W.WalkO q loose XP YP l.row.toRowW d [] (fun f vs => PySem.call f vs) := by
  refine Att.attach_call hn hdf fun w s0 s1 mg mb fa o pm cd doc a vs ns G Y ho hd hcd hmg hobj hints hlen hg => ?_
  obtain ⟨fd, hb, hF⟩ := F w mg fa _ (hY w _ Y) G.T.g hmg
  exact glaw_call (hY w _ Y) G.T.g G.T.b G.T.builtins G.T.nolimit hg hobj hints (Nat.le_trans hlen hn2) hr hF hb (fun H hO hS => hsp w H a ns hlen hO hS) fun H e s' => hCX w H s1 e s'
/-! ### text * int -/
theorem fold_toList : ∀ (l : List (Array Nat)) (acc : Array Nat), (l.foldl (· ++ ·) acc).toList = acc.toList ++ (l.map Array.toList).flatten
  | [], acc => by simp
  | x :: l, acc => by
    rw [List.foldl_cons, fold_toList l]
    simp
theorem mul_tl (z : Str) (n : Nat) : (Txt.mul z (n : Int)).cps.toList = (List.replicate n z.cps.toList).flatten := by
  unfold Txt.mul
  by_cases h1 : (n : Int) < 1
  · have e : n = 0 := by omega
    subst e
    rw [if_pos h1]
    rfl
  · rw [if_neg h1]
    by_cases h2 : ((n : Int) == 1 || z.length == 0) = true
    · rw [if_pos h2]
      rcases Bool.or_eq_true_iff.mp h2 with e | e
      · have e1 : n = 1 := by
          have := eq_of_beq e
          omega
        subst e1
        simp
      · have e1 : z.cps.toList = [] := List.length_eq_zero_iff.mp (by
          have := eq_of_beq e
          simpa [Str.length] using this)
        rw [e1]
        simp
    · rw [if_neg h2]
      show ((List.replicate (n : Int).toNat z.cps).foldl (· ++ ·) #[]).toList = _
      rw [fold_toList, Int.toNat_natCast, List.map_replicate]
      rfl
theorem op_mul_str {X : Cx} : OpR X (binaryOp .Mult) (fun x y H Q => ∃ (z : Str) (n : Nat), x = .str z ∧ y = .int (n : Int) ∧ n ≤ 1000 ∧ z.length ≤ 1000 ∧ ∀ y : Str, y.length = z.length * n → (∀ c ∈ y.cps.toList, c ∈ z.cps.toList) → Q (.str y) H) := by
  intro pins s σ H x y v u Q I rx ry h
  obtain ⟨z, n, rfl, rfl, hn, hz, q⟩ := h
  obtain ⟨tx, rfl⟩ := rx
  obtain ⟨ty, rfl⟩ := ry
  have pw : z.length * n ≤ 1000000 := Nat.le_trans (Nat.mul_le_mul hz hn) (by decide)
  refine PySem.SB.mul ⟨?_, fun h1 h2 => ?_, fun h1 h2 => ?_⟩ fun t' k => ⟨.str _, H, I.tok k, ⟨t', rfl⟩, q _ ?_ ?_⟩
  · rw [decide_eq_false (by omega), decide_eq_false (by omega)]
    rfl
  · have e : (1000 : Int) ≤ (2 ^ 63 - 1) / (n : Int) := by
      have h3 : (0 : Int) < n := by omega
      exact (Int.le_ediv_iff_mul_le h3).mpr (by omega)
    omega
  · rw [Int.toNat_natCast]
    exact decide_eq_false (by show ¬ sizeLine < _; have : sizeLine = 16777216 := sizeLine_eq; omega)
  · rw [TL.len_tl, TL.len_tl z]
    show (Txt.mul z (n : Int)).cps.toList.length = _
    rw [mul_tl]
    simp [Nat.mul_comm]
  · intro c hc
    rw [mul_tl] at hc
    obtain ⟨l, hl, hcl⟩ := List.mem_flatten.mp hc
    rw [(List.mem_replicate.mp hl).2] at hcl
    exact hcl
/-! ### repr of a list -/
/-- a value and the data that it is: as in Dp, and dicts of none or one text with an int -/
inductive Itm (K : PySem.W.Frag) (H : Hp) : V → PyData → Prop
  | dp {v : V} {d : PyData} (h : Dp K H v d) (nd : d.hasDict = false) : Itm K H v d
  | d0 {a : Addr} (h : H a = some (.dK [])) : Itm K H (.ref a) (.dict [])
  | d1 {a : Addr} {x : Str} {i : Int} (h : H a = some (.dK [(Sum.inr x, .int i)])) : Itm K H (.ref a) (.dict [(.str x, .int i)])
inductive ItmAll (K : PySem.W.Frag) (H : Hp) : List V → List PyData → Prop
  | nil : ItmAll K H [] []
  | cons {v : V} {vs : List V} {d : PyData} {ds : List PyData} : Itm K H v d → ItmAll K H vs ds → ItmAll K H (v :: vs) (d :: ds)
section
variable {X : Cx} {pins : List (Addr × Obj)} {σ : L2.St} {H : Hp} {s : Shared}
theorem Itm.reads (I : Inv X pins σ H s) {v : V} {u : Value} {d : PyData} (h : Itm X.K H v d) (r : RelV v u) : ∃ as, Reads s.heap u d as ∧ (d.hasDict = true → sysModules ∉ as) := by
  cases h with
  | dp h nd =>
    obtain ⟨as, q⟩ := Dp.reads I d v u h r
    exact ⟨as, q, fun z => by rw [nd] at z; cases z⟩
  | @d0 a h =>
    cases r
    obtain ⟨_, ns, vs, kv, o, es, ep, ho, hx, hd, hk, hp, _⟩ := I.hok _ _ h
    cases kv
    generalize hl : es.toList = l at hp
    cases hp
    refine ⟨_, Reads.dict (kvs := []) (as := []) (bs := []) ho hx.1 hd (by rw [hl]; exact .nil) (by rw [hl]; exact .nil), fun _ => ?_⟩
    intro hm
    rcases List.mem_cons.mp hm with e | e
    · rw [← e] at ns
      exact absurd ns (by decide)
    · cases e
  | @d1 a x i h =>
    cases r
    obtain ⟨_, ns, vs, kv, o, es, ep, ho, hx, hd, hk, hp, _⟩ := I.hok _ _ h
    cases kv with
    | cons h1 h2 =>
      cases h2
      obtain ⟨e1, t, e2⟩ := h1
      rename_i b nd2
      obtain ⟨b1, b2⟩ := b
      dsimp only at e1 e2
      subst e1 e2
      generalize hl : es.toList = l at hp
      cases hp with
      | cons k1 k2 k3 =>
        cases k3
        rename_i en
        obtain ⟨hh, ky, vl⟩ := en
        dsimp only at k1 k2
        subst k2
        have k1' : keyIs (Sum.inr x) ky = true := k1
        rcases keyIs_shape k1' with ⟨j, t', z, _⟩ | ⟨y, t', z, rfl⟩
        · cases z
        · cases z
          refine ⟨_, Reads.dict (kvs := [(.str x, .int i)]) ho hx.1 hd (by rw [hl]; exact .cons (.str x t') .nil) (by rw [hl]; exact .cons (.int i t) .nil), fun _ => ?_⟩
          intro hm
          rcases List.mem_cons.mp hm with e | e
          · rw [← e] at ns
            exact absurd ns (by decide)
          · cases e
theorem ItmAll.all (I : Inv X pins σ H s) : ∀ {vs : List V} {ds : List PyData} {us : List Value}, ItmAll X.K H vs ds → Vals vs us → PyData.showableAll ds = true → (∀ t ∈ PyData.shownAll ds, t.length ≤ sizeLine) →
    (∃ as, ReadsAll s.heap us ds as) ∧ ∃ bs, ReadAtMost s.heap (PyData.depthAll ds) bs ∧ ReprAllK X.prog X.w bs s.heap (PyData.depthAll ds) us (PyData.shownAll ds)
  | _, _, _, .nil, .nil, _, _ => ⟨⟨_, .nil⟩, [], (fun _ h => nomatch h), by simp only [PyData.shownAll]; exact .nil⟩
  | _, _, _, .cons (d := d) (ds := ds) h1 h2, .cons r1 r2, hs, hz => by
    have hs' : d.showable = true ∧ PyData.showableAll ds = true := by simpa [PyData.showableAll] using hs
    obtain ⟨as, q, nq⟩ := h1.reads I r1
    obtain ⟨⟨as2, q2⟩, bs2, b2, k2⟩ := ItmAll.all I h2 r2 hs'.2 (fun t ht => hz t (by simp only [PyData.shownAll]; exact List.mem_cons_of_mem _ ht))
    obtain ⟨bs1, b1, k1⟩ := ReprK.of_reads (prog := X.prog) (w := X.w) q hs'.1 nq (hz _ (by simp only [PyData.shownAll]; exact List.mem_cons_self ..))
    refine ⟨⟨_, .cons q q2⟩, bs1 ++ bs2, ?_, ?_⟩
    · have e1 : d.depth ≤ PyData.depthAll (d :: ds) := by simp only [PyData.depthAll]; omega
      have e2 : PyData.depthAll ds ≤ PyData.depthAll (d :: ds) := by simp only [PyData.depthAll]; omega
      exact (b1.mono e1).append (b2.mono e2)
    · have e1 : d.depth ≤ PyData.depthAll (d :: ds) := by simp only [PyData.depthAll]; omega
      have e2 : PyData.depthAll ds ≤ PyData.depthAll (d :: ds) := by simp only [PyData.depthAll]; omega
      simp only [PyData.shownAll]
      exact .cons ((k1.more fun b hb => List.mem_append_left _ hb).level_le e1) (k2.more_le (fun b hb => List.mem_append_right _ hb) e2)
/-- repr(l) -/
def rRepr (K : PySem.W.Frag) : List V → Hp → VK → Prop := fun xs H Q => ∃ (a : Addr) (vs : List V) (ds : List PyData), xs = [.ref a] ∧ SqL K H a vs ∧ vs ≠ [] ∧ ItmAll K H vs ds ∧ PyData.showableAll ds = true ∧ PyData.depthAll ds ≤ 8 ∧
  (listText (PyData.shownAll ds)).length ≤ sizeLine ∧ Q (.str (listText (PyData.shownAll ds))) H
end
theorem call_repr_l {X : Cx} (hg : X.A.guards = some []) (hu : X.A.units + 16 < cLine) : CallR X (.builtin "repr") (rRepr X.K) := by
  intro pins s σ H xs us Q I r h
  obtain ⟨a, vs, ds, rfl, hS, hne, hI, hs, hdp, hz, q⟩ := h
  cases r with
  | cons ra rr =>
    cases rr
    cases ra
    obtain ⟨its, rv, ⟨o, n, ho, hc, hdx, hd⟩, _⟩ := I.list hS
    obtain ⟨⟨as, hr⟩, bs, hb, hk⟩ := ItmAll.all I hI rv hs (fun t ht => Nat.le_trans (listText_mem_le ht) hz)
    cases its with
    | nil =>
      cases rv
      exact absurd rfl hne
    | cons x l =>
      have rd : Reads s.heap (.ref a) (.list ds) _ := Reads.list ho hc hd hr
      have hna : a ∉ bs := not_mem_of_deeper rd (by simp only [PyData.depth]; omega) hb
      refine call_repr_slot (T := "list") (idr := "list.__repr__") (by omega) ⟨o, ho, hc⟩ F.slot_list_repr.toG ?_
      exact call_list_reprK (h₀ := s.heap) (as := bs) ho hc hd hna (by simpa using hk.length_eq) (fun i y e => hk.item i y (by simpa using e)) (g := []) hg (fun b _ => Clear.nil b) (by show X.A.units + 1 + (_ + 1) < cLine; omega) (fun _ _ e => e)
        (fun h' u tk hkp => ⟨_, _, rfl, .str _, H, I.kept (t' := tk) hkp, ⟨u, rfl⟩, q⟩) hz
end WG

set_option Elab.async false
set_option linter.all false
set_option maxRecDepth 100000
set_option maxHeartbeats 4000000
namespace WG
open PySem PySem.Spec PySem.Calls PyProof.Rows PySem.W
section
variable {prog : Program} {w : World} {A : Around} {E : Value → Shared → Prop} {s : Shared} {K : Frag} {x D : Addr} {ox : Obj} {od : Option Obj}
theorem find_dat {C : Addr} {name : Str} {a g : Value} (hc : (clsIn K C).isSome = true) (ha : findIn K (.ref C) name = some (some a)) (hg : specialIn K a "__get__" = some (some g)) (ht : takesIn K a = some true) :
    findObj K C od name = some (.bind g a) := by
  obtain ⟨cd, hcd⟩ := Option.isSome_iff_exists.mp hc
  unfold findObj
  rw [hcd, Option.bind_some, ha, Option.bind_some]
  simp [hg, ht]
theorem exc_class {Q : Option Value → Shared → Prop} (c : L2.ExcC K D) (kin : K.In s.heap) (at0 : InstAt s.heap x ox D od) (h : Q (some (.ref D)) { s with toks := s.toks + 1 }) : wpAny (model prog w) A (getAttr? (.ref x) "__class__") Q E s := by
  have hf : findObj K D od "__class__" = some (.bind (.builtin "getset_descriptor.__get__") (.builtin "object.__class__")) := by
    refine find_dat ?_ c.ha c.hn c.ht
    obtain ⟨cd, hcd, _⟩ := any_some c.hd
    rw [hcd] <;> rfl
  obtain ⟨hh, gs, dr, tk, os⟩ := s
  have t0 := at0.type (M := model prog w)
  have t1 := looks_findIn (M := model prog w) kin c.hg
  have t2 := looks_findIn (M := model prog w) kin c.hk
  have t3 := looks_find (M := model prog w) kin at0 hf
  have isb : Looks (model prog w) hh (isInstance (.ref x) (.type "BaseException")) true := t0.andThen (looks_subIn kin c.hs)
  have z0 : (false && onTheHeap (Value.builtin "BaseException.__getattribute__")) = false := rfl
  have z2 : (Value.builtin "BaseException.__getattribute__" == Value.builtin "object.__getattribute__") = false := by decide +kernel
  have z1 : (onTheHeap (Value.ref D) && Value.builtin "BaseException.__getattribute__" == Value.builtin "object.__getattribute__") = false := by
    rw [z2]
    rfl
  unfold getAttr? getAttrBy? getAttrBy
  refine wpAny_bind (wpAny_mkText (wpAny_bind (wpAny_attempt (wpAny_holding (wpAny_bind (t0.at (wpAny_bind (t1.at ?_))))))))
  show wpAny _ _ (if (onTheHeap (Value.ref D) && Value.builtin "BaseException.__getattribute__" == Value.builtin "object.__getattribute__") = true then _ else _) _ _ _
  rw [z1, if_neg Bool.false_ne_true]
  unfold getAttrByItsOwn hookBefore
  refine wpAny_bind ?_
  rw [if_pos (show onTheHeap (Value.ref D) = true from rfl)]
  refine t2.at (wpAny_bind (wpAny_attempt (wpAny_holding ?_)))
  unfold callGetattribute
  rw [z0, if_neg Bool.false_ne_true]
  unfold boundAndCalled
  rw [PySem.F.excAttr_ValueError.ga.bind (.ref x)]
  refine wpAny_bind (wpAny_pure ?_)
  show wpAny _ _ (call (.builtin "BaseException.__getattribute__") [.ref x, .str "__class__" tk]) _ _ _
  refine wpAny_call (codeAny_call_builtin PySem.F.excAttr_ValueError.ga.plain PySem.F.entry_bexc_ga ?_)
  refine @check_slot (model prog w) _ _ ⟨hh, gs, dr, tk + 1, os⟩ "BaseException.__getattribute__" "BaseException" "__getattribute__" (.ref x) [.str "__class__" tk] [] _ (by decide +kernel) (by decide +kernel) isb (PySem.F.args_bexc_ga (.ref x) (.str "__class__" tk)) ?_
  unfold Builtin.«object.__getattribute__»
  refine wpAny_bind (wpAny_of_eq (a := ((Value.ref x : Value), [Value.str "__class__" tk])) (by first | rfl | (simp only [slotArgs]; rfl)) ?_)
  refine wpAny_bind (wpAny_pure (wpAny_bind (t0.at (wpAny_bind (t3.at ?_)))))
  show wpAny _ _ (holding [Value.builtin "object.__class__"] (call (.builtin "getset_descriptor.__get__") [.builtin "object.__class__", .ref x, .ref D]) >>= ret) _ _ _
  refine wpAny_bind (wpAny_holding (wpAny_call (class_get (s := ⟨hh, gs, dr, tk + 1, os⟩) (ox := ox) (od := od) kin at0 c.hm ?_)))
  refine wpAny_pure ?_
  show wpAny _ _ (handedOut (.ref D)) _ _ _
  rw [handedOut_of (v := .ref D) rfl]
  first
    | exact wpAny_pure (wpAny_pure h)
    | exact wpAny_pure h
    | exact wpAny_pure (wpAny_bind (wpAny_pure (wpAny_pure h)))
theorem kit_exc (c : L2.ExcC K D) : KitX K (.ref x) (.ref D) (fun h => InstAt h x ox D od) := by
  obtain ⟨cd, hcd, _⟩ := any_some c.hd
  obtain ⟨o, ho, hdo⟩ : ∃ o, K.lookup D = some o ∧ o.data = .cls cd := by
    unfold clsIn at hcd
    split at hcd
    · rename_i c' d' cd' sl' hk
      cases hcd
      exact ⟨_, hk, rfl⟩
    · cases hcd
  obtain ⟨oc, odd, oda, osl⟩ := o
  dsimp only at hdo
  subst hdo
  refine { ty := fun _ _ _ J => J.type, it := fun _ _ kin _ => ?_, ne := fun h tp dd its n sl kin htp => ?_, ca := fun kin J k => exc_class c kin J k }
  · intro A' Q' E' s' kp q
    unfold isType loadHead
    exact wpAny_bind (wpAny_loadPart (kp _ _ (kin _ _ ho)) (wpAny_pure q))
  · refine Bool.eq_false_iff.mpr fun q => ?_
    have e : D = tp := Value.ref.inj (beq_iff_eq.mp q)
    subst e
    have z := (kin _ _ ho).symm.trans htp
    cases z
end
end WG
namespace WG
open PySem PySem.Spec PyProof.Rows L2
/-- isinstance(e, c), e the caught exception at a with its own dict -/
def rIsD (K : PySem.W.Frag) (a : Addr) (cls : Value) (d : Option Addr) : List V → Hp → VK → Prop := fun xs H Q => ∃ (D dd : Addr) (fs : List (Str × V)) (c : V) (cv : Value) (b : Bool), cls = .ref D ∧ d = some dd ∧ H dd = some (.xd fs) ∧ ExcC K D ∧
  xs = [.ref a, c] ∧ (∀ u, RelV c u → u = cv) ∧ PySem.W.kitOne K (.ref D) cv = some b ∧ Q (.bl b) H
theorem call_isD {X : Cx} {a : Addr} {oe : Obj} {cls : Value} {d : Option Addr} {pn : List (Addr × Obj)} (hz : Zc cls d oe) (hf : ∃ vs, oe.data = .fields vs) : CallR (X.suite a ((a, oe) :: pn)) (.builtin "isinstance") (rIsD X.K a cls d) := by
  intro pins s σ H xs us Q I r h
  obtain ⟨D, dd, fs, cl, cv, b, rfl, rfl, hx, c, rfl, hcv, e, q⟩ := h
  cases r with
  | cons rx rr =>
    cases rr with
    | cons rt rr =>
      cases rr
      cases rx
      have ec := hcv _ rt
      subst ec
      obtain ⟨hget, _⟩ := I.pin (a, oe) (List.mem_append.mpr (.inl List.mem_cons_self))
      obtain ⟨vs, hv⟩ := hf
      obtain ⟨mA, hns, _⟩ := I.hok dd _ hx
      obtain ⟨od, ho, _⟩ := lookIn_ns hns
      have J : PySem.W.InstAt s.heap a oe D (some od) := ⟨hget, hz.1, by unfold PySem.W.notCls; rw [hv] <;> rfl, by rw [hz.2]; exact ho⟩
      exact PySem.W.kia_one (kit_exc c) I.kIn J e (fun z => nomatch z) fun tk => ⟨.bl b, H, I.kept (t' := tk) fun _ _ z => z, rfl, q⟩
end WG

set_option Elab.async false
set_option linter.all false
set_option maxRecDepth 100000
set_option maxHeartbeats 4000000
namespace WB
open PySem PySem.Spec PyProof.Rows L2 WG
open TL (tl)
def topS (i : Nat) : Stmt := PySem.Challenge.pw_wordbench_k12_places_made.main.body.getD i (.Pass ⟨0, 0, 0, 0⟩)
abbrev sWithin : Stmt := topS 6
abbrev sIsName : Stmt := topS 7
abbrev sIsAbout : Stmt := topS 8
abbrev sIsAmong : Stmt := topS 9
abbrev sIsDefault : Stmt := topS 10
abbrev sErrInit : Stmt := inClass (topS 14) 0
abbrev sInit : Stmt := inClass (topS 17) 0
abbrev sGet (j : Nat) : Stmt := inClass (topS 17) (1 + j)
abbrev sCell : Stmt := topS 19
abbrev sPot : Stmt := topS 20
abbrev sTake : Stmt := topS 21
abbrev sName : Stmt := topS 22
abbrev sSigns : Stmt := topS 23
abbrev sAbout : Stmt := topS 24
abbrev sText : Stmt := topS 25
abbrev sLIsName : Stmt := topS 26
abbrev sLIsAbout : Stmt := topS 27
abbrev sGood : Stmt := topS 28
abbrev sOdd : Stmt := topS 29
abbrev sWrong : Stmt := topS 30
abbrev sDue : Stmt := topS 31
abbrev sMade : Stmt := topS 32
abbrev sMet : Stmt := topS 33
abbrev sLaw : Stmt := topS 34
/-- a def of the top: its object, how it binds, its name -/
structure Df (K : PySem.W.Frag) (mg : Str → Option Value) (x : Str) (st : Stmt) (ps : List Str) (f : Addr) (fd : FuncData) : Prop where
  F : Fun K x x st f fd
  b : Binds K fd ps []
  g : mg x = some (.ref f)
theorem scCell : FnScope ["_law_script", "_law_k"] ["_law_script", "_law_k"] (defScope sCell) := ⟨rfl, rfl, rfl, by decide +kernel, rfl, by decide +kernel, by decide +kernel⟩
theorem scPot : FnScope ["_law_script", "_law_k", "_law_cell_here"] ["_law_script", "_law_k"] (defScope sPot) := ⟨rfl, rfl, rfl, by decide +kernel, rfl, by decide +kernel, by decide +kernel⟩
theorem scTake : FnScope ["_law_pot_here", "_law_room", "_law_digit"] ["_law_pot_here", "_law_room"] (defScope sTake) := ⟨rfl, rfl, rfl, by decide +kernel, rfl, by decide +kernel, by decide +kernel⟩
theorem scName : FnScope ["_law_pot_here", "_law_signs_here", "_law_size", "_law_text_here", "_law_k", "_law_sign"] ["_law_pot_here"] (defScope sName) := ⟨rfl, rfl, rfl, by decide +kernel, rfl, by decide +kernel, by decide +kernel⟩
theorem scSigns : FnScope ["_law_pot_here", "_law_most", "_law_signs_here", "_law_k"] ["_law_pot_here", "_law_most"] (defScope sSigns) := ⟨rfl, rfl, rfl, by decide +kernel, rfl, by decide +kernel, by decide +kernel⟩
theorem scAbout : FnScope ["_law_pot_here", "_law_way", "_law_k"] ["_law_pot_here"] (defScope sAbout) := ⟨rfl, rfl, rfl, by decide +kernel, rfl, by decide +kernel, by decide +kernel⟩
theorem scText : FnScope ["_law_pot_here", "_law_way"] ["_law_pot_here"] (defScope sText) := ⟨rfl, rfl, rfl, by decide +kernel, rfl, by decide +kernel, by decide +kernel⟩
/-! ### heaps -/
theorem same_upd {H : Hp} {p : Addr} {o : HO} (h : H p = none) : Same H (upd H p o) := fun b x e => by
  rw [upd_ne (ne_of_none e h)]
  exact e
/-- all that was tracked but at p is as it was -/
def But (p : Addr) (H H' : Hp) : Prop := ∀ b o, b ≠ p → H b = some o → H' b = some o
theorem But.refl (p : Addr) (H : Hp) : But p H H := fun _ _ _ h => h
theorem But.trans {p : Addr} {H H1 H2 : Hp} (a : But p H H1) (b : But p H1 H2) : But p H H2 := fun c o n h => b c o n (a c o n h)
theorem But.of_same {p : Addr} {H H' : Hp} (a : Same H H') : But p H H' := fun c o _ h => a c o h
theorem But.upd (p : Addr) (H : Hp) (o : HO) : But p H (upd H p o) := fun c u n h => by
  rw [upd_ne n]
  exact h
theorem But.new {p : Addr} {H : Hp} {q : Addr} {o : HO} (h : H q = none) : But p H (L2.upd H q o) := But.of_same (same_upd h)
/-- at p a pot stands -/
def Pot (H : Hp) (p : Addr) : Prop := ∃ a b : Int, H p = some (.lst [.int a, .int b]) ∧ 0 ≤ b ∧ b < 2147483648
theorem Pot.ne {H : Hp} {p q : Addr} (h : Pot H p) (n : H q = none) : p ≠ q := by
  obtain ⟨a, b, e, _⟩ := h
  exact ne_of_none e n
theorem Pot.same {H H' : Hp} {p : Addr} (h : Pot H p) (s : Same H H') : Pot H' p := by
  obtain ⟨a, b, e, h1, h2⟩ := h
  exact ⟨a, b, s _ _ e, h1, h2⟩
theorem Pot.new {H : Hp} {p q : Addr} {o : HO} (h : Pot H p) (n : H q = none) : Pot (L2.upd H q o) p := h.same (same_upd n)
section
variable {P : Program} {w : World} {K : PySem.W.Frag} {mg : Str → Option Value} {base : Heap}
/-! ### _law_cell -/
def spCell (K : PySem.W.Frag) : Sp := fun vs H Q _ => ∃ (a : Addr) (ns : List Int) (k : Int), vs = [.ref a, .int k] ∧ SqL K H a (ns.map V.int) ∧ 0 ≤ k ∧ ∀ z : Int, Q (.int z) H
theorem ok_cell {f : Addr} {fd : FuncData} {k : Nat} (F : Fun K "_law_cell" "_law_cell" sCell f fd) (mL : mg "len" = none) : FnOk P w K mg base CX0 (k + 1) f fd ["_law_script", "_law_k"] (spCell K) := by
  refine F.ok scCell (fun vs H Q E h => ?_) (fun cdv A outer s H vs Q E hr h => ?_)
  · obtain ⟨a, ns, k, rfl, _⟩ := h
    rfl
  · obtain ⟨a, ns, k, rfl, hS, hk, q⟩ := h
    refine ⟨_, pss_one (ps_ret (pe_ifExp (pt_cmpR op_lt (pv 1) (pe_callB call_len_seq (by rfl) mL PySem.boot_len (pa_cons (pv 0) pa_nil)) (nomark _)) (pe_ix ix_list (pv 0) (pv 1) (fun _ _ => rfl)) pe_int)), ?_⟩
    refine ⟨.int k, rfl, .ref a, rfl, a, _, rfl, .inl hS, k, _, rfl, rfl, _, rfl, ite2 (fun e => ?_) (fun e => q 0)⟩
    have e1 := of_decide_eq_true e
    obtain ⟨n, rfl⟩ := Int.eq_ofNat_of_zero_le hk
    rw [List.length_map] at e1
    have hn : n < ns.length := by omega
    exact ⟨.ref a, rfl, .int n, rfl, a, _, _, .int ns[n], rfl, rfl, hS, atI_nat (j := n) (by rw [List.getElem?_map, List.getElem?_eq_getElem hn]; rfl), q _⟩
/-! ### _law_pot -/
def spPot (K : PySem.W.Frag) : Sp := fun vs H Q _ => ∃ (a : Addr) (ns : List Int) (k : Int), vs = [.ref a, .int k] ∧ SqL K H a (ns.map V.int) ∧ 0 ≤ k ∧ k ≤ 1000 ∧
  ∀ H' p, Same H H' → H p = none → Pot H' p → Q (.ref p) H'
theorem ok_pot {f fC : Addr} {fd fdC : FuncData} {k : Nat} (F : Fun K "_law_pot" "_law_pot" sPot f fd) (C : Df K mg "_law_cell" sCell ["_law_script", "_law_k"] fC fdC) (mL : mg "len" = none) (mM : mg "max" = none) (mA : mg "abs" = none) :
    FnOk P w K mg base CX0 (k + 2) f fd ["_law_script", "_law_k"] (spPot K) := by
  have GC : FnOk P w K mg base CX0 (k + 1) fC fdC ["_law_script", "_law_k"] (spCell K) := ok_cell C.F mL
  refine F.ok scPot (fun vs H Q E h => ?_) (fun cdv A outer s H vs Q E hr h => ?_)
  · obtain ⟨a, ns, k, rfl, _⟩ := h
    rfl
  · obtain ⟨a, ns, k, rfl, hS, hk, hk1, q⟩ := h
    refine ⟨_, pss_cons (ps_set (i := 2) scPot.nd rfl (.inl rfl) (pe_call GC hr (by rfl) C.g C.F.kp C.b .nil pass0 (pa_cons (pv 0) (pa_cons (pv 1) pa_nil))))
      (pss_one (ps_ret (pe_lst (pa_cons (pe_callB (call_max2 rfl) (by rfl) mM (by decide +kernel) (pa_cons pe_int (pa_cons (pe_op op_sub (pv 2) (pe_op op_pow pe_int pe_int)) pa_nil)))
        (pa_cons (pe_op op_mod (pe_op op_add (pe_op op_add (pe_op op_add (pe_op op_mul (pe_op op_mod (pe_callB call_abs (by rfl) mA (by decide +kernel) (pa_cons (pv 2) pa_nil)) pe_int) pe_int)
          (pe_op op_mul (pe_op op_mul pe_int (pv 1)) (pv 1))) (pe_op op_mul pe_int (pv 1))) pe_int) pe_int) pa_nil))))), ?_⟩
    refine ⟨.ref a, rfl, .int k, rfl, a, ns, k, rfl, hS, hk, fun z => ?_⟩
    refine ⟨.int z, rfl, 10, 18, rfl, rfl, ⟨by decide, by decide, by decide⟩, z, _, rfl, rfl, 0, _, rfl, ?_⟩
    refine ⟨.int z, rfl, z, rfl, _, 2147483629, rfl, rfl, (by show (0 : Int) < 2147483629; decide), _, 48271, rfl, rfl, .inr ⟨by decide, by decide⟩, .int k, rfl, 7919, k, rfl, rfl, .inl ⟨by decide, by decide⟩, .int k, rfl, _, k, rfl, rfl, .inr ⟨by omega, by omega⟩, _, _, rfl, rfl,
      .int k, rfl, 613, k, rfl, rfl, .inl ⟨by decide, by decide⟩, _, _, rfl, rfl, _, 29, rfl, rfl, _, 2147483629, rfl, rfl, (by show (0 : Int) < 2147483629; decide), ?_⟩
    refine ⟨by show 2 ≤ sizeLine; decide, fun p hp => q _ p (same_upd hp) hp ⟨_, _, upd_same, Int.emod_nonneg _ (by decide), ?_⟩⟩
    exact Int.lt_trans (Int.emod_lt_of_pos _ (by decide)) (by decide)
/-! ### _law_take -/
def spTake : Sp := fun vs H Q _ => ∃ (p : Addr) (m : Int), vs = [.ref p, .int m] ∧ Pot H p ∧ 0 < m ∧ m ≤ 1000 ∧ ∀ H' (d : Int), But p H H' → Pot H' p → 0 ≤ d → d < m → Q (.int d) H'
theorem ok_take {f : Addr} {fd : FuncData} {k : Nat} (F : Fun K "_law_take" "_law_take" sTake f fd) : FnOk P w K mg base CX0 (k + 1) f fd ["_law_pot_here", "_law_room"] spTake := by
  refine F.ok scTake (fun vs H Q E h => ?_) (fun cdv A outer s H vs Q E hr h => ?_)
  · obtain ⟨p, m, rfl, _⟩ := h
    rfl
  · obtain ⟨p, m, rfl, ⟨a, b, hp, hb0, hb1⟩, hm0, hm1, q⟩ := h
    refine ⟨_, pss_cons (ps_if (pt_cmpR op_gt (pe_ix ix_list (pv 0) pe_int (fun _ _ => rfl)) pe_int (nomark _))
        (pss_cons (ps_set (i := 2) scTake.nd rfl (.inl rfl) (pe_op op_mod (pe_ix ix_list (pv 0) pe_int (fun _ _ => rfl)) (pv 1)))
          (pss_cons (ps_asg (pe_op op_fdiv (pe_ix ix_list (pv 0) pe_int (fun _ _ => rfl)) (pv 1)) (pg_sub (pv 0) pe_int set_list))
          (pss_one (ps_ret (pv 2))))) pss_nil)
      (pss_cons (ps_asg (pe_op op_mod (pe_op op_add (pe_op op_mul (pe_ix ix_list (pv 0) pe_int (fun _ _ => rfl)) pe_int) pe_int) pe_int) (pg_sub (pv 0) pe_int set_list))
      (pss_one (ps_ret (pe_op op_mod (pe_op op_fdiv (pe_op op_mod (pe_op op_mul (pe_ix ix_list (pv 0) pe_int (fun _ _ => rfl)) (pe_ix ix_list (pv 0) pe_int (fun _ _ => rfl))) pe_int) pe_int) (pv 1))))), ?_⟩
    refine ⟨.ref p, rfl, p, _, 0, .int a, rfl, rfl, SqL.of hp, atI_nat (j := 0) rfl, a, 0, rfl, rfl, _, rfl, ite2 (fun e => ?_) (fun e => ?_)⟩
    · refine ⟨.ref p, rfl, p, _, 0, .int a, rfl, rfl, SqL.of hp, atI_nat (j := 0) rfl, .int m, rfl, a, m, rfl, rfl, hm0, ?_⟩
      refine ⟨.ref p, rfl, p, _, 0, .int a, rfl, rfl, SqL.of hp, atI_nat (j := 0) rfl, .int m, rfl, a, m, rfl, rfl, ⟨hm0, by omega⟩, ?_⟩
      refine ⟨.ref p, rfl, p, _, 0, 0, rfl, rfl, hp, rfl, ?_⟩
      exact ⟨.int (a % m), rfl, q _ _ (But.upd _ _ _) ⟨a / m, b, upd_same, hb0, hb1⟩ (Int.emod_nonneg _ (by omega)) (Int.emod_lt_of_pos _ hm0)⟩
    · refine ⟨.ref p, rfl, p, _, 1, .int b, rfl, rfl, SqL.of hp, atI_nat (j := 1) rfl, b, 39373, rfl, rfl, .inr ⟨by decide, by decide⟩, _, 8191, rfl, rfl, _, 2147483587, rfl, rfl, (by show (0 : Int) < 2147483587; decide), ?_⟩
      refine ⟨.ref p, rfl, p, _, 1, 1, rfl, rfl, hp, rfl, ?_⟩
      have c0 : 0 ≤ (b * 39373 + 8191) % 2147483587 := Int.emod_nonneg _ (by decide)
      have c1 : (b * 39373 + 8191) % 2147483587 < 2147483587 := Int.emod_lt_of_pos _ (by decide)
      refine ⟨.ref p, rfl, p, _, 1, .int ((b * 39373 + 8191) % 2147483587), rfl, rfl, SqL.of upd_same, atI_nat (j := 1) rfl, .ref p, rfl, p, _, 1, .int ((b * 39373 + 8191) % 2147483587), rfl, rfl, SqL.of upd_same, atI_nat (j := 1) rfl,
        (b * 39373 + 8191) % 2147483587, (b * 39373 + 8191) % 2147483587, rfl, rfl, .inl ⟨by omega, by omega⟩, _, 2147483543, rfl, rfl, (by show (0 : Int) < 2147483543; decide), _, 13, rfl, rfl, ⟨by decide, by decide⟩, .int m, rfl, _, m, rfl, rfl, hm0, ?_⟩
      exact q _ _ (But.upd _ _ _) ⟨a, _, upd_same, c0, by omega⟩ (Int.emod_nonneg _ (by omega)) (Int.emod_lt_of_pos _ hm0)
end
theorem at_strs (ys : List Str) (d : Int) (h0 : 0 ≤ d) (h1 : d < (ys.length : Int)) : ∃ y ∈ ys, atI (ys.map V.str) d = some (.str y) := by
  obtain ⟨n, rfl⟩ := Int.eq_ofNat_of_zero_le h0
  have hn : n < ys.length := by omega
  exact ⟨ys[n], List.getElem_mem hn, atI_nat (by rw [List.getElem?_map, List.getElem?_eq_getElem hn]; rfl)⟩
theorem at_ints (ys : List Int) (d : Int) (h0 : 0 ≤ d) (h1 : d < (ys.length : Int)) : ∃ y ∈ ys, atI (ys.map V.int) d = some (.int y) := by
  obtain ⟨n, rfl⟩ := Int.eq_ofNat_of_zero_le h0
  have hn : n < ys.length := by omega
  exact ⟨ys[n], List.getElem_mem hn, atI_nat (by rw [List.getElem?_map, List.getElem?_eq_getElem hn]; rfl)⟩
theorem at_any (ys : List V) (d : Int) (h0 : 0 ≤ d) (h1 : d < (ys.length : Int)) : ∃ y ∈ ys, atI ys d = some y := by
  obtain ⟨n, rfl⟩ := Int.eq_ofNat_of_zero_le h0
  have hn : n < ys.length := by omega
  exact ⟨ys[n], List.getElem_mem hn, atI_nat (List.getElem?_eq_getElem hn)⟩
end WB

set_option Elab.async false
set_option linter.all false
set_option maxRecDepth 100000
set_option maxHeartbeats 4000000
namespace WB
open PySem PySem.Spec PyProof.Rows L2 WG
open TL (tl)
/-! ### plain texts of at most n signs -/
structure Tx (n : Nat) (y : Str) : Prop where
  le : y.length ≤ n
  pl : ∀ c ∈ tl y, c < 256
theorem Tx.mono {n m : Nat} {y : Str} (h : Tx n y) (e : n ≤ m) : Tx m y := ⟨Nat.le_trans h.le e, h.pl⟩
theorem Tx.app {n m : Nat} {x y : Str} (h : Tx n x) (k : Tx m y) : Tx (n + m) (x ++ y) := by
  refine ⟨?_, fun c hc => ?_⟩
  · rw [Str.length_append]
    exact Nat.add_le_add h.le k.le
  · rw [TL.tl_append] at hc
    exact (List.mem_append.mp hc).elim (h.pl c) (k.pl c)
theorem Tx.cut {n : Nat} {x : Str} (h : Tx n x) (lo hi : Option Int) : Tx n (cutS x lo hi) := by
  refine ⟨Nat.le_trans (cutS_length x lo hi) h.le, fun c hc => h.pl c ?_⟩
  have e : c ∈ (x.cps.toList.drop _).take _ := hc
  exact List.mem_of_mem_drop (List.mem_of_mem_take e)
theorem Tx.sign {c : Nat} (h : c < 256) : Tx 1 ⟨#[c]⟩ := by
  refine ⟨Nat.le_refl 1, fun d hd => ?_⟩
  have e : d ∈ [c] := hd
  rw [List.mem_singleton.mp e]
  exact h
theorem Tx.lit (s : String) (n : Nat) (h : (Str.ofString s).length ≤ n) (k : ∀ c ∈ tl (Str.ofString s), c < 256) : Tx n (Str.ofString s) := ⟨h, k⟩
theorem mem_joinL (S : List Nat) : ∀ (ps : List (List Nat)) (c : Nat), c ∈ TL.joinL S ps → c ∈ S ∨ ∃ p ∈ ps, c ∈ p
  | [], c, h => by cases h
  | [p], c, h => .inr ⟨p, List.mem_singleton.mpr rfl, h⟩
  | p :: q :: r, c, h => by
    rcases List.mem_append.mp (show c ∈ p ++ (S ++ TL.joinL S (q :: r)) from h) with h | h
    · exact .inr ⟨p, List.mem_cons_self, h⟩
    · rcases List.mem_append.mp h with h | h
      · exact .inl h
      · rcases mem_joinL S (q :: r) c h with h | ⟨p', hp, hc⟩
        · exact .inl h
        · exact .inr ⟨p', List.mem_cons_of_mem _ hp, hc⟩
theorem sum_most (m : Nat) : ∀ ys : List Str, (∀ y ∈ ys, Tx m y) → (ys.map (·.length)).sum ≤ ys.length * m
  | [], _ => Nat.zero_le _
  | y :: r, h => by
    have h1 := sum_most m r fun z hz => h z (List.mem_cons_of_mem _ hz)
    have h2 := (h y List.mem_cons_self).le
    rw [List.map_cons, List.sum_cons, List.length_cons, Nat.succ_mul]
    omega
theorem Tx.join {sep : Str} {k m n : Nat} {ys : List Str} (hs : Tx k sep) (h : ∀ y ∈ ys, Tx m y) (hn : ys.length * m + ys.length * k ≤ n) : Tx n (Txt.join sep ys) := by
  refine ⟨?_, fun c hc => ?_⟩
  · rw [TL.join_eq]
    have e := StrLaws.join_length_le sep ys
    have e2 := sum_most m ys h
    have e3 : ys.length * sep.length ≤ ys.length * k := Nat.mul_le_mul_left _ hs.le
    omega
  · rw [TL.join_eq, TL.tl_join] at hc
    rcases mem_joinL _ _ c hc with h1 | ⟨p, hp, h1⟩
    · exact hs.pl c h1
    · obtain ⟨y, hy, rfl⟩ := List.mem_map.mp hp
      exact (h y hy).pl c h1
section
variable {P : Program} {w : World} {K : PySem.W.Frag} {mg : Str → Option Value} {base : Heap}
/-! ### _law_name -/
def spDrawn (n : Nat) : Sp := fun vs H Q _ => ∃ p : Addr, vs = [.ref p] ∧ Pot H p ∧ ∀ H' (y : Str), But p H H' → Pot H' p → Tx n y → Q (.str y) H'
def nameSigns : List Str := [Str.ofString "abcdefghijklmnopqrstuvwxyz0123456789-", Str.ofString "abno-", Str.ofString "no-"]
theorem nameSigns_len : ∀ y ∈ nameSigns, 0 < y.length ∧ y.length ≤ 100 ∧ ∀ c ∈ tl y, c < 256 := by decide +kernel
theorem ok_name {f fT : Addr} {fd fdT : FuncData} {k : Nat} (F : Fun K "_law_name" "_law_name" sName f fd) (T : Df K mg "_law_take" sTake ["_law_pot_here", "_law_room"] fT fdT) (mL : mg "len" = none) (mR : mg "range" = none) :
    FnOk P w K mg base CX0 (k + 2) f fd ["_law_pot_here"] (spDrawn 20) := by
  have GT : FnOk P w K mg base CX0 (k + 1) fT fdT ["_law_pot_here", "_law_room"] spTake := ok_take T.F
  refine F.ok scName (fun vs H Q E h => ?_) (fun cdv A outer s H vs Q E hr h => ?_)
  · obtain ⟨p, rfl, _⟩ := h
    rfl
  · obtain ⟨p, rfl, hp, q⟩ := h
    refine ⟨_, pss_cons (ps_set (i := 1) scName.nd rfl (.inl rfl) (pe_ix ix_list (pe_lst (pa_cons pe_str (pa_cons pe_str (pa_cons pe_str pa_nil)))) (pe_call GT hr (by rfl) T.g T.F.kp T.b .nil pass0 (pa_cons (pv 0) (pa_cons pe_int pa_nil))) (fun _ _ => rfl)))
      (pss_cons (ps_set (i := 2) scName.nd rfl (.inl rfl) (pe_op op_add pe_int (pe_call GT hr (by rfl) T.g T.F.kp T.b .nil pass0 (pa_cons (pv 0) (pa_cons (pe_ix ix_list (pe_lst (pa_cons pe_int (pa_cons pe_int pa_nil)))
        (pe_call GT hr (by rfl) T.g T.F.kp T.b .nil pass0 (pa_cons (pv 0) (pa_cons pe_int pa_nil))) (fun _ _ => rfl)) pa_nil)))))
      (pss_cons (ps_set (i := 3) scName.nd rfl (.inl rfl) pe_str)
      (pss_cons (ps_for PassesOwn.never rfl (pi_range1 rfl mR (pa_cons (pv 2) pa_nil)) (pg_name (i := 4) scName.nd rfl (Or.inl rfl))
        (pss_cons (ps_set (i := 5) scName.nd rfl (.inl rfl) (pe_ix ix_str (pv 1) (pe_call GT hr (by rfl) T.g T.F.kp T.b .nil pass0 (pa_cons (pv 0) (pa_cons (pe_callB call_len_str (by rfl) mL PySem.boot_len (pa_cons (pv 1) pa_nil)) pa_nil))) (fun _ _ => rfl)))
        (pss_cons (ps_if (PW.pt (pw_and (pt_cmpR op_eq (pv 5) pe_str (nomark _)) (pw_and1 (pt_cmpR op_in_seq (pv 4) (pe_tup (pa_cons pe_int (pa_cons (pe_op op_sub (pv 2) pe_int) pa_nil))) (by rfl)))))
          (pss_one (ps_set (i := 5) scName.nd rfl (.inl rfl) pe_str)) pss_nil)
        (pss_one (ps_set (i := 3) scName.nd rfl (.inl rfl) (pe_op op_add_str (pv 3) (pv 5)))))))
      (pss_cons (ps_if (pt_cmpR op_eq (pe_slice sl_str (pv 3) po_none (po_some pe_int)) pe_str (nomark _))
        (pss_one (ps_set (i := 3) scName.nd rfl (.inl rfl) (pe_op op_add_str pe_str (pe_slice sl_str (pv 3) (po_some pe_int) po_none)))) pss_nil)
      (pss_one (ps_ret (pv 3))))))), ?_⟩
    refine ⟨by decide +kernel, fun l1 n1 => ?_⟩
    have p1 := hp.new (o := .lst (nameSigns.map V.str)) n1
    have nl1 := hp.ne n1
    refine ⟨.ref p, rfl, p, 3, rfl, p1, by decide, by decide, fun H2 d2 b2 p2 d20 d21 => ?_⟩
    obtain ⟨z, hzm, hze⟩ := at_strs nameSigns d2 d20 (by show d2 < 3; exact d21)
    obtain ⟨hz0, hz1, hz2⟩ := nameSigns_len z hzm
    refine ⟨l1, _, d2, .str z, rfl, rfl, SqL.of (b2 _ _ nl1.symm upd_same), hze, .ref p, rfl, by decide +kernel, fun l2 n2 => ?_⟩
    have p3 := p2.new (o := .lst ([(3 : Int), 10].map V.int)) n2
    have nl2 := p2.ne n2
    refine ⟨.ref p, rfl, p, 2, rfl, p3, by decide, by decide, fun H4 d4 b4 p4 d40 d41 => ?_⟩
    obtain ⟨mo, mom, moe⟩ := at_ints [(3 : Int), 10] d4 d40 (by show d4 < 2; exact d41)
    have hmo : 0 < mo ∧ mo ≤ 10 := (by decide : ∀ y ∈ [(3 : Int), 10], 0 < y ∧ y ≤ 10) mo mom
    refine ⟨l2, _, d4, .int mo, rfl, rfl, SqL.of (b4 _ _ nl2.symm upd_same), moe, p, mo, rfl, p4, hmo.1, by omega, fun H5 d5 b5 p5 d50 d51 => ?_⟩
    refine ⟨1, d5, rfl, rfl, ?_⟩
    have bb : But p H H5 := ((((But.new n1).trans b2).trans (But.new n2)).trans b4).trans b5
    refine ⟨.int (1 + d5), rfl, _, rfl, by omega, by omega, for_range (lo := 0) (n := (1 + d5).toNat) (fun i σ H' => But p H5 H' ∧ Pot H' p ∧ ∃ (x : Str) (x4 x5 : Option V), σ = [some (.ref p), some (.str z), some (.int (1 + d5)), some (.str x), x4, x5] ∧ Tx i x)
      ⟨But.refl _ _, p5, Str.ofString "", none, none, rfl, Tx.lit "" 0 (by decide +kernel) (by decide +kernel)⟩ ?_ ?_⟩
    · rintro i σ H6 hi ⟨b6, p6, x, x4, x5, rfl, hx⟩
      have hzl : z.length ≤ sizeLine := Nat.le_trans hz1 (by decide)
      refine ⟨.str z, rfl, .ref p, rfl, .str z, rfl, z, rfl, hzl, p, z.length, rfl, p6, by omega, by omega, fun H7 j b7 p7 j0 j1 => ?_⟩
      obtain ⟨n, rfl⟩ := Int.eq_ofNat_of_zero_le j0
      have hn : n < z.cps.toList.length := by
        have e : z.cps.toList.length = z.length := by simp [Str.length]
        omega
      refine ⟨z, n, z.cps.toList[n], rfl, rfl, hzl, atI_nat (List.getElem?_eq_getElem hn), ?_⟩
      have fin : ∀ (H8 : Hp) (c : Str), But p H7 H8 → Pot H8 p → Tx 1 c → (tAsg (tOp (fun x y H Q => ∃ i j, x = .str i ∧ y = .str j ∧ i.length + j.length ≤ sizeLine ∧ Q (.str (i ++ j)) H) (tVar 3) (tVar 5)) (gName 3)) { nx := fun σ H' => But p H5 H' ∧ Pot H' p ∧ ∃ (x : Str) (x4 x5 : Option V), σ = [some (.ref p), some (.str z), some (.int (1 + d5)), some (.str x), x4, x5] ∧ Tx (i + 1) x, rt := Q }
          [some (.ref p), some (.str z), some (.int (1 + d5)), some (.str x), some (.int (0 + (i : Int))), some (.str c)] H8 := by
        intro H8 c b8 p8 hc
        refine ⟨_, rfl, _, rfl, x, c, rfl, rfl, ?_, (b6.trans b7).trans b8, p8, x ++ c, _, _, rfl, hx.app hc⟩
        have h1 := hx.le
        have h2 := hc.le
        exact Nat.le_of_lt (small1000 (by omega))
      refine ⟨_, rfl, rfl, _, rfl, ite2 (fun e => ?_) (fun e => ?_)⟩
      · refine ⟨_, rfl, .int (1 + d5), rfl, _, _, rfl, rfl, by show 2 ≤ sizeLine; decide, fun t nt => ?_⟩
        refine ⟨t, _, rfl, .inr (SqT.of upd_same), rfl, rfl, _, rfl, ite2 (fun e2 => ?_) (fun e2 => ?_)⟩
        · exact fin _ _ (But.new nt) (p7.new nt) (Tx.lit "e" 1 (by decide +kernel) (by decide +kernel))
        · exact fin _ _ (But.new nt) (p7.new nt) (Tx.sign (hz2 _ (List.getElem_mem hn)))
      · exact fin _ _ (But.refl _ _) p7 (Tx.sign (hz2 _ (List.getElem_mem hn)))
    · rintro σ H6 ⟨b6, p6, x, x4, x5, rfl, hx⟩
      have hxl : x.length ≤ 11 := by
        have := hx.le
        omega
      have hx11 : Tx 11 x := ⟨hxl, hx.pl⟩
      refine ⟨_, rfl, 3, rfl, x, rfl, Nat.le_trans hxl (by decide), rfl, _, rfl, ite2 (fun e => ?_) (fun e => ?_)⟩
      · refine ⟨_, rfl, 1, rfl, x, rfl, Nat.le_trans hxl (by decide), _, _, rfl, rfl, ?_, _, rfl, q _ _ (bb.trans b6) p6 (((Tx.lit "m" 1 (by decide +kernel) (by decide +kernel)).app (hx11.cut (some 1) none)).mono (by decide))⟩
        have := cutS_length x (some 1) none
        exact Nat.le_of_lt (small1000 (by rw [show (Str.ofString "m").length = 1 from by decide +kernel]; omega))
      · exact ⟨_, rfl, q _ _ (bb.trans b6) p6 (hx11.mono (by decide))⟩
/-! ### _law_signs -/
def allSigns : Str := Str.ofString "!\"#$&'()*+,-./0123456789:;<=>?@ABCDEFGHIJKLMNOPQRSTUVWXYZ[\\]^_`abcdefghijklmnopqrstuvwxyz{|}~"
theorem allSigns_len : 0 < allSigns.length ∧ allSigns.length ≤ 100 ∧ ∀ c ∈ tl allSigns, c < 256 := by decide +kernel
def spSigns : Sp := fun vs H Q _ => ∃ (p : Addr) (m : Int), vs = [.ref p, .int m] ∧ Pot H p ∧ 0 < m ∧ m ≤ 100 ∧ ∀ H' (y : Str), But p H H' → Pot H' p → Tx m.toNat y → Q (.str y) H'
theorem ok_signs {f fT : Addr} {fd fdT : FuncData} {k : Nat} (F : Fun K "_law_signs" "_law_signs" sSigns f fd) (T : Df K mg "_law_take" sTake ["_law_pot_here", "_law_room"] fT fdT) (mL : mg "len" = none) (mR : mg "range" = none) :
    FnOk P w K mg base CX0 (k + 2) f fd ["_law_pot_here", "_law_most"] spSigns := by
  have GT : FnOk P w K mg base CX0 (k + 1) fT fdT ["_law_pot_here", "_law_room"] spTake := ok_take T.F
  refine F.ok scSigns (fun vs H Q E h => ?_) (fun cdv A outer s H vs Q E hr h => ?_)
  · obtain ⟨p, m, rfl, _⟩ := h
    rfl
  · obtain ⟨p, m, rfl, hp, hm0, hm1, q⟩ := h
    refine ⟨_, pss_cons (ps_set (i := 2) scSigns.nd rfl (.inr rfl) pe_str) (pss_one (ps_ret (pe_join pe_str (pe_lc (own := [("_law_k", 3)]) (g := gName 3) (tt := tYes) rfl scSigns.nd
      (pi_range1 rfl mR (pa_cons (pe_op op_add pe_int (pe_call GT hr (by rfl) T.g T.F.kp T.b .nil pass0 (pa_cons (pv 0) (pa_cons (pv 1) pa_nil)))) pa_nil))
      (blkOk_by (N := ["_law_pot_here", "_law_most", "_law_signs_here", "_law_k"]) (sc := defScope sSigns) (by decide +kernel))
      (fun _ _ _ _ _ => pg_name (i := 3) scSigns.nd rfl (Or.inl rfl)) (fun _ _ _ _ _ => pts_nil)
      (fun _ _ _ _ _ => pe_ix ix_str (pv 2) (pe_call GT hr (by rfl) T.g T.F.kp T.b .nil pass0 (pa_cons (pv 0) (pa_cons (pe_callB call_len_str (by rfl) mL PySem.boot_len (pa_cons (pv 2) pa_nil)) pa_nil))) (fun _ _ => rfl)))))), ?_⟩
    obtain ⟨hz0, hz1, hz2⟩ := allSigns_len
    refine ⟨⟨_, rfl⟩, .ref p, rfl, .int m, rfl, p, m, rfl, hp, hm0, by omega, fun H1 d b1 p1 d0 d1 => ?_⟩
    refine ⟨1, d, rfl, rfl, 1 + d, rfl, by omega, by omega, fun T' nT => ?_⟩
    have npT : p ≠ T' := p1.ne nT
    refine lc_range (lo := 0) (n := (1 + d).toNat) (fun i Hc => But p H1 Hc ∧ Pot Hc p ∧ ∃ ys : List Str, Hc T' = some (.lst (ys.map V.str)) ∧ ys.length = i ∧ ∀ y ∈ ys, Tx 1 y)
      ⟨But.new nT, p1.new nT, [], upd_same, rfl, fun y hy => by cases hy⟩ (fun i Hc hi ⟨bc, pc, ys, eT, el, e1⟩ => ?_) (fun Hc ⟨bc, pc, ys, eT, el, e1⟩ => ?_)
    · refine ⟨rfl, ?_⟩
      have hzl : allSigns.length ≤ sizeLine := Nat.le_trans hz1 (by decide)
      refine ⟨.str allSigns, rfl, .ref p, rfl, .str allSigns, rfl, allSigns, rfl, hzl, p, allSigns.length, rfl, pc, by omega, by omega, fun H4 j b4 p4 j0 j1 => ?_⟩
      obtain ⟨n, rfl⟩ := Int.eq_ofNat_of_zero_le j0
      have hn : n < allSigns.cps.toList.length := by
        have e : allSigns.cps.toList.length = allSigns.length := by simp [Str.length]
        omega
      have eT4 : H4 T' = some (.lst (ys.map V.str)) := b4 T' _ npT.symm eT
      refine ⟨allSigns, n, allSigns.cps.toList[n], rfl, rfl, hzl, atI_nat (List.getElem?_eq_getElem hn), ys.map V.str, eT4, ?_, ?_, ?_, ys ++ [⟨#[allSigns.cps.toList[n]]⟩], ?_, ?_, ?_⟩
      · rw [List.length_map, el]
        exact small1000 (by omega)
      · exact fun b o nb e => by
          rw [upd_ne (ne_of_none e nT)]
          exact b4 b o nb (bc b o nb e)
      · obtain ⟨x, y, e, h1, h2⟩ := p4
        refine ⟨x, y, ?_, h1, h2⟩
        rw [upd_ne npT]
        exact e
      · rw [upd_same, List.map_append]
        rfl
      · rw [List.length_append, el]
        rfl
      · intro y hy
        rcases List.mem_append.mp hy with hy | hy
        · exact e1 y hy
        · rw [List.mem_singleton.mp hy]
          exact Tx.sign (hz2 _ (List.getElem_mem hn))
    · have e0 : (Str.ofString "").length = 0 := by decide +kernel
      have es := sum_most 1 ys e1
      refine ⟨_, T', ys, rfl, rfl, .inl (SqL.of eT), ?_, q _ _ (b1.trans bc) pc ?_⟩
      · rw [e0]
        omega
      · exact Tx.join (Tx.lit "" 0 (by decide +kernel) (by decide +kernel)) e1 (by omega)
/-! ### _law_about -/
theorem ok_about {f fT fS : Addr} {fd fdT fdS : FuncData} {k : Nat} (F : Fun K "_law_about" "_law_about" sAbout f fd) (T : Df K mg "_law_take" sTake ["_law_pot_here", "_law_room"] fT fdT) (S : Df K mg "_law_signs" sSigns ["_law_pot_here", "_law_most"] fS fdS)
    (mL : mg "len" = none) (mR : mg "range" = none) : FnOk P w K mg base CX0 (k + 3) f fd ["_law_pot_here"] (spDrawn 300) := by
  have GT : FnOk P w K mg base CX0 (k + 2) fT fdT ["_law_pot_here", "_law_room"] spTake := ok_take T.F
  have GS : FnOk P w K mg base CX0 (k + 2) fS fdS ["_law_pot_here", "_law_most"] spSigns := ok_signs S.F T mL mR
  refine F.ok scAbout (fun vs H Q E h => ?_) (fun cdv A outer s H vs Q E hr h => ?_)
  · obtain ⟨p, rfl, _⟩ := h
    rfl
  · obtain ⟨p, rfl, hp, q⟩ := h
    refine ⟨_, pss_cons (ps_set (i := 1) scAbout.nd rfl (.inl rfl) (pe_call GT hr (by rfl) T.g T.F.kp T.b .nil pass0 (pa_cons (pv 0) (pa_cons pe_int pa_nil))))
      (pss_cons (ps_if (pt_cmpR op_eq (pv 1) pe_int (nomark _)) (pss_one (ps_ret pe_str)) pss_nil)
      (pss_cons (ps_if (pt_cmpR op_eq (pv 1) pe_int (nomark _)) (pss_one (ps_ret (pe_op op_mul_str (pe_call GS hr (by rfl) S.g S.F.kp S.b .nil pass0 (pa_cons (pv 0) (pa_cons pe_int pa_nil))) pe_int))) pss_nil)
      (pss_one (ps_ret (pe_join pe_str (pe_lc (own := [("_law_k", 2)]) (g := gName 2) (tt := tYes) rfl scAbout.nd
      (pi_range1 rfl mR (pa_cons (pe_op op_add pe_int (pe_call GT hr (by rfl) T.g T.F.kp T.b .nil pass0 (pa_cons (pv 0) (pa_cons pe_int pa_nil)))) pa_nil))
      (blkOk_by (N := ["_law_pot_here", "_law_way", "_law_k"]) (sc := defScope sAbout) (by decide +kernel))
      (fun _ _ _ _ _ => pg_name (i := 2) scAbout.nd rfl (Or.inl rfl)) (fun _ _ _ _ _ => pts_nil)
      (fun _ _ _ _ _ => pe_call GS hr (by rfl) S.g S.F.kp S.b .nil pass0 (pa_cons (pv 0) (pa_cons pe_int pa_nil))))))))), ?_⟩
    refine ⟨.ref p, rfl, p, 6, rfl, hp, by decide, by decide, fun H1 d1 b1 p1 d10 d11 => ?_⟩
    refine ⟨_, rfl, rfl, _, rfl, ite2 (fun e => q _ _ b1 p1 (Tx.lit "" _ (by decide +kernel) (by decide +kernel))) (fun e => ?_)⟩
    refine ⟨_, rfl, rfl, _, rfl, ite2 (fun e => ?_) (fun e => ?_)⟩
    · refine ⟨.ref p, rfl, p, 1, rfl, p1, by decide, by decide, fun H2 y b2 p2 hy => ?_⟩
      have hy1 : y.length ≤ 1 := hy.le
      exact ⟨y, 200, rfl, rfl, by decide, by omega, fun z hz hc => q _ _ (b1.trans b2) p2 ⟨by omega, fun c h => hy.pl c (hc c h)⟩⟩
    · refine ⟨⟨_, rfl⟩, .ref p, rfl, p, 12, rfl, p1, by decide, by decide, fun H2 d2 b2 p2 d20 d21 => ?_⟩
      refine ⟨1, d2, rfl, rfl, 1 + d2, rfl, by omega, by omega, fun T' nT => ?_⟩
      have npT : p ≠ T' := p2.ne nT
      refine lc_range (lo := 0) (n := (1 + d2).toNat) (fun i Hc => But p H2 Hc ∧ Pot Hc p ∧ ∃ ys : List Str, Hc T' = some (.lst (ys.map V.str)) ∧ ys.length = i ∧ ∀ y ∈ ys, Tx 15 y)
        ⟨But.new nT, p2.new nT, [], upd_same, rfl, fun y hy => by cases hy⟩ (fun i Hc hi ⟨bc, pc, ys, eT, el, e1⟩ => ?_) (fun Hc ⟨bc, pc, ys, eT, el, e1⟩ => ?_)
      · refine ⟨rfl, ?_⟩
        refine ⟨.ref p, rfl, p, 15, rfl, pc, by decide, by decide, fun H4 y b4 p4 hy => ?_⟩
        have eT4 : H4 T' = some (.lst (ys.map V.str)) := b4 T' _ npT.symm eT
        refine ⟨ys.map V.str, eT4, ?_, ?_, ?_, ys ++ [y], ?_, ?_, ?_⟩
        · rw [List.length_map, el]
          exact small1000 (by omega)
        · exact fun b o nb e => by
            rw [upd_ne (ne_of_none e nT)]
            exact b4 b o nb (bc b o nb e)
        · obtain ⟨x, y, e, h1, h2⟩ := p4
          refine ⟨x, y, ?_, h1, h2⟩
          rw [upd_ne npT]
          exact e
        · rw [upd_same, List.map_append]
          rfl
        · rw [List.length_append, el]
          rfl
        · intro z hz
          rcases List.mem_append.mp hz with hz | hz
          · exact e1 z hz
          · rw [List.mem_singleton.mp hz]
            exact hy
      · have e0 : (Str.ofString " ").length = 1 := by decide +kernel
        have es := sum_most 15 ys e1
        refine ⟨_, T', ys, rfl, rfl, .inl (SqL.of eT), ?_, q _ _ ((b1.trans b2).trans bc) pc ?_⟩
        · rw [e0]
          omega
        · exact Tx.join (Tx.lit " " 1 (by decide +kernel) (by decide +kernel)) e1 (by omega)
/-! ### _law_text -/
theorem ok_text {f fT fS : Addr} {fd fdT fdS : FuncData} {k : Nat} (F : Fun K "_law_text" "_law_text" sText f fd) (T : Df K mg "_law_take" sTake ["_law_pot_here", "_law_room"] fT fdT) (S : Df K mg "_law_signs" sSigns ["_law_pot_here", "_law_most"] fS fdS)
    (mL : mg "len" = none) (mR : mg "range" = none) : FnOk P w K mg base CX0 (k + 3) f fd ["_law_pot_here"] (spDrawn 60) := by
  have GT : FnOk P w K mg base CX0 (k + 2) fT fdT ["_law_pot_here", "_law_room"] spTake := ok_take T.F
  have GS : FnOk P w K mg base CX0 (k + 2) fS fdS ["_law_pot_here", "_law_most"] spSigns := ok_signs S.F T mL mR
  refine F.ok scText (fun vs H Q E h => ?_) (fun cdv A outer s H vs Q E hr h => ?_)
  · obtain ⟨p, rfl, _⟩ := h
    rfl
  · obtain ⟨p, rfl, hp, q⟩ := h
    refine ⟨_, pss_cons (ps_set (i := 1) scText.nd rfl (.inl rfl) (pe_call GT hr (by rfl) T.g T.F.kp T.b .nil pass0 (pa_cons (pv 0) (pa_cons pe_int pa_nil))))
      (pss_cons (ps_if (pt_cmpR op_eq (pv 1) pe_int (nomark _)) (pss_one (ps_ret pe_str)) pss_nil)
      (pss_cons (ps_if (pt_cmpR op_eq (pv 1) pe_int (nomark _)) (pss_one (ps_ret (pe_op op_mul_str (pe_call GS hr (by rfl) S.g S.F.kp S.b .nil pass0 (pa_cons (pv 0) (pa_cons pe_int pa_nil))) pe_int))) pss_nil)
      (pss_one (ps_ret (pe_op op_add_str (pe_op op_add_str (pe_op op_mul_str pe_str (pe_call GT hr (by rfl) T.g T.F.kp T.b .nil pass0 (pa_cons (pv 0) (pa_cons pe_int pa_nil))))
        (pe_call GS hr (by rfl) S.g S.F.kp S.b .nil pass0 (pa_cons (pv 0) (pa_cons pe_int pa_nil)))) (pe_op op_mul_str pe_str (pe_call GT hr (by rfl) T.g T.F.kp T.b .nil pass0 (pa_cons (pv 0) (pa_cons pe_int pa_nil))))))))), ?_⟩
    have e1 : (Str.ofString " ").length = 1 := by decide +kernel
    refine ⟨.ref p, rfl, p, 5, rfl, hp, by decide, by decide, fun H1 d1 b1 p1 d10 d11 => ?_⟩
    refine ⟨_, rfl, rfl, _, rfl, ite2 (fun e => q _ _ b1 p1 (Tx.lit "" _ (by decide +kernel) (by decide +kernel))) (fun e => ?_)⟩
    refine ⟨_, rfl, rfl, _, rfl, ite2 (fun e => ?_) (fun e => ?_)⟩
    · refine ⟨.ref p, rfl, p, 1, rfl, p1, by decide, by decide, fun H2 y b2 p2 hy => ?_⟩
      have hy1 : y.length ≤ 1 := hy.le
      exact ⟨y, 60, rfl, rfl, by decide, by omega, fun z hz hc => q _ _ (b1.trans b2) p2 ⟨by omega, fun c h => hy.pl c (hc c h)⟩⟩
    · refine ⟨.ref p, rfl, p, 2, rfl, p1, by decide, by decide, fun H2 d2 b2 p2 d20 d21 => ?_⟩
      obtain ⟨n2, rfl⟩ := Int.eq_ofNat_of_zero_le d20
      refine ⟨_, n2, rfl, rfl, by omega, by rw [e1]; decide, fun z2 hz2 hc2 => ?_⟩
      refine ⟨.ref p, rfl, p, 40, rfl, p2, by decide, by decide, fun H3 y b3 p3 hy => ?_⟩
      rw [e1] at hz2
      have bl : ∀ c ∈ tl (Str.ofString " "), c < 256 := by decide +kernel
      have t2 : Tx 1 z2 := ⟨by omega, fun c h => bl c (hc2 c h)⟩
      have hy1 : y.length ≤ 40 := hy.le
      refine ⟨z2, y, rfl, rfl, Nat.le_of_lt (small1000 (by omega)), ?_⟩
      refine ⟨.ref p, rfl, p, 2, rfl, p3, by decide, by decide, fun H4 d4 b4 p4 d40 d41 => ?_⟩
      obtain ⟨n4, rfl⟩ := Int.eq_ofNat_of_zero_le d40
      refine ⟨_, n4, rfl, rfl, by omega, by rw [e1]; decide, fun z4 hz4 hc4 => ?_⟩
      rw [e1] at hz4
      have t4 : Tx 1 z4 := ⟨by omega, fun c h => bl c (hc4 c h)⟩
      refine ⟨z2 ++ y, z4, rfl, rfl, ?_, q _ _ (((b1.trans b2).trans b3).trans b4) p4 (((t2.app hy).app t4).mono (by decide))⟩
      rw [Str.length_append]
      exact Nat.le_of_lt (small1000 (by omega))
end
end WB

set_option Elab.async false
set_option linter.all false
set_option maxRecDepth 100000
set_option maxHeartbeats 4000000
namespace WB
open PySem PySem.Spec PyProof.Rows L2 WG
open TL (tl)
/-! ### things that may be handed in -/
def isS : V → Bool
  | .str _ => true
  | _ => false
inductive Odd : HO → Prop
  | l0 : Odd (.lst [])
  | l1 {z : Str} (h : Tx 20 z) : Odd (.lst [.str z])
  | t0 : Odd (.tup [])
  | t1 {z : Str} (h : Tx 20 z) : Odd (.tup [.str z])
  | d0 : Odd (.dK [])
  | d1 {x : Str} {i : Int} (h : Tx 20 x) (h0 : 0 ≤ i) (h1 : i ≤ 1000) : Odd (.dK [(Sum.inr x, .int i)])
inductive Thg (H : Hp) : V → Prop
  | non : Thg H .non
  | bl (b : Bool) : Thg H (.bl b)
  | int {i : Int} (h0 : 0 ≤ i) (h1 : i ≤ 1000) : Thg H (.int i)
  | str {z : Str} (h : Tx 300 z) : Thg H (.str z)
  | odd {a : Addr} {o : HO} (e : H a = some o) (h : Odd o) : Thg H (.ref a)
theorem Thg.same {H H' : Hp} {v : V} (h : Thg H v) (s : Same H H') : Thg H' v := by
  cases h with
  | non => exact .non
  | bl b => exact .bl b
  | int h0 h1 => exact .int h0 h1
  | str h => exact .str h
  | odd e h => exact .odd (s _ _ e) h
theorem Odd.ne {xs : List V} (h : Odd (.lst xs)) : xs.length ≤ 1 := by
  cases h with
  | l0 => exact Nat.zero_le _
  | l1 _ => exact Nat.le_refl _
/-- isinstance(v, str) -/
theorem Thg.isi {K : PySem.W.Frag} {H : Hp} {v : V} (h : Thg H v) : ∃ t : Value, TyX K H v t ∧ PySem.W.kitOne K t (.type "str") = some (isS v) := by
  cases h with
  | non => exact ⟨_, .base .non, kit_ty (show kitB "NoneType" "str" = some false from by decide +kernel)⟩
  | bl b => exact ⟨_, .base (.bl b), kit_ty (show kitB "bool" "str" = some false from by decide +kernel)⟩
  | int _ _ => exact ⟨_, .base (.int _), kit_ty (show kitB "int" "str" = some false from by decide +kernel)⟩
  | str _ => exact ⟨_, .base (.str _), kit_ty (show kitB "str" "str" = some true from by decide +kernel)⟩
  | odd e h =>
    cases h with
    | l0 => exact ⟨_, .base (.lst e), kit_ty (show kitB "list" "str" = some false from by decide +kernel)⟩
    | l1 _ => exact ⟨_, .base (.lst e), kit_ty (show kitB "list" "str" = some false from by decide +kernel)⟩
    | t0 => exact ⟨_, .base (.tup e), kit_ty (show kitB "tuple" "str" = some false from by decide +kernel)⟩
    | t1 _ => exact ⟨_, .base (.tup e), kit_ty (show kitB "tuple" "str" = some false from by decide +kernel)⟩
    | d0 => exact ⟨_, .base (.dK e), kit_ty (show kitB "dict" "str" = some false from by decide +kernel)⟩
    | d1 _ _ _ => exact ⟨_, .base (.dK e), kit_ty (show kitB "dict" "str" = some false from by decide +kernel)⟩
theorem Thg.tx {H : Hp} {z : Str} (h : Thg H (.str z)) : Tx 300 z := by
  cases h with
  | str h => exact h
/-- its data -/
theorem repr_tx {n : Nat} {z : Str} (h : Tx n z) : (reprText z).length ≤ 10 * n + 2 := by
  have e := StrLaws.reprText_len z (fun c hc => Nat.lt_trans (h.pl c hc) (by decide))
  have := h.le
  omega
/-! ### the mathematics of names and abouts -/
def nameSet : Str := Str.ofString "abcdefghijklmnopqrstuvwxyz0123456789-"
def nm (cs : List Nat) : Bool := decide (cs ≠ []) && decide (cs.length ≤ 10) && !decide (cs.take 1 = [45]) && !decide (cs.getLast? = some 45) && !decide (cs.take 3 = [110, 111, 45]) && cs.all fun c => decide (c ∈ tl nameSet)
def isNm : V → Bool
  | .str z => nm (tl z)
  | _ => false
def ab (z : Str) : Bool := decide (z.length ≤ 200) && (decide (z = Str.ofString "") || !inV (.str (Str.ofString "")) ((Txt.split z (Str.ofString " ")).map V.str))
def isAb : V → Bool
  | .str z => ab z
  | _ => false
theorem starts (x y : Str) : Txt.startswith x y = ((tl x).take (tl y).length == tl y) := by
  unfold Txt.startswith
  rw [StrLaws.subAt_eq, List.drop_zero, TL.len_tl y]
  by_cases h : (tl y).length ≤ (tl x).length
  · have e : decide (0 + (tl y).length ≤ x.length) = true := decide_eq_true (by rw [TL.len_tl x]; omega)
    rw [e, Bool.true_and]
  · have e : decide (0 + (tl y).length ≤ x.length) = false := decide_eq_false (by rw [TL.len_tl x]; omega)
    rw [e, Bool.false_and]
    cases q : ((tl x).take (tl y).length == tl y) with
    | false => rfl
    | true =>
      have z := congrArg List.length (eq_of_beq q)
      rw [List.length_take] at z
      omega
theorem starts_lit (x : Str) (s : String) {l : List Nat} (hl : tl (Str.ofString s) = l) : Txt.startswith x (Str.ofString s) = decide ((tl x).take l.length = l) := by
  rw [starts, hl]
  cases q : ((tl x).take l.length == l) with
  | true => exact (decide_eq_true (eq_of_beq q)).symm
  | false => exact (decide_eq_false (fun e => by rw [e] at q; simp at q)).symm
theorem drop_last {l : List Nat} (h : l ≠ []) : l.drop (l.length - 1) = [l.getLast h] := by
  have e := List.dropLast_concat_getLast h
  have hl : l.length - 1 = l.dropLast.length := by rw [List.length_dropLast]
  rw [hl]
  conv => lhs; rw [← e]
  rw [List.dropLast_concat, List.drop_left]
theorem ends_dash (x : Str) : Txt.endswith x (Str.ofString "-") = decide ((tl x).getLast? = some 45) := by
  unfold Txt.endswith
  have e1 : (Str.ofString "-").length = 1 := by decide +kernel
  have e2 : (Str.ofString "-").cps.toList = [45] := by decide +kernel
  rw [StrLaws.subAt_eq, e1, e2, TL.len_tl x]
  cases hx : tl x with
  | nil => rfl
  | cons c r =>
    have hx' : x.cps.toList = c :: r := hx
    rw [hx']
    have e3 : decide (0 + 1 ≤ (c :: r).length) = true := decide_eq_true (by rw [List.length_cons]; omega)
    rw [e3, Bool.true_and]
    have e4 : ((c :: r).drop ((c :: r).length - 1)).take 1 = [(c :: r).getLast (List.cons_ne_nil c r)] := by
      rw [drop_last (List.cons_ne_nil c r)]
      rfl
    rw [e4, List.getLast?_eq_getLast (List.cons_ne_nil c r)]
    cases q : ([(c :: r).getLast (List.cons_ne_nil c r)] == [45]) with
    | true =>
      have := eq_of_beq q
      injection this with a b
      rw [a]
      rfl
    | false =>
      refine (decide_eq_false fun e => ?_).symm
      rw [Option.some.inj e] at q
      cases q
theorem eq_lit (x : Str) (s : String) : (V.str x = V.str (Str.ofString s)) ↔ tl x = tl (Str.ofString s) := by
  constructor
  · intro h
    rw [V.str.inj h]
  · intro h
    rw [TL.ext_tl h]
theorem dec_lit (x : Str) (s : String) {l : List Nat} (hl : tl (Str.ofString s) = l) : decide (V.str x = V.str (Str.ofString s)) = decide (tl x = l) := by
  rw [← hl]
  exact decide_eq_decide.mpr (eq_lit x s)
theorem cut3 (z : Str) : tl (cutS z none (some 3)) = (tl z).take 3 := by
  show ((z.cps.toList.drop (HT.sIx z.length 0 none)).take (HT.sIx z.length z.length (some 3) - HT.sIx z.length 0 none)) = _
  rw [HT.sIx_none, show HT.sIx z.length z.length (some 3) = min 3 z.length from HT.sIx_nat z.length z.length 3, List.drop_zero, Nat.sub_zero]
  rw [TL.len_tl z]
  rw [← List.take_take, List.take_length]
end WB

set_option Elab.async false
set_option linter.all false
set_option maxRecDepth 100000
set_option maxHeartbeats 4000000
namespace WB
open PySem PySem.Spec PyProof.Rows L2 WG
open TL (tl)
abbrev st_is_text_within : Stmt := topS 6
theorem sc_is_text_within : FnScope ["value", "most"] ["value", "most"] (defScope st_is_text_within) := ⟨rfl, rfl, rfl, by decide +kernel, rfl, by decide +kernel, by decide +kernel⟩
abbrev st_is_name : Stmt := topS 7
theorem sc_is_name : FnScope ["value", "sign"] ["value"] (defScope st_is_name) := ⟨rfl, rfl, rfl, by decide +kernel, rfl, by decide +kernel, by decide +kernel⟩
abbrev st_is_about : Stmt := topS 8
theorem sc_is_about : FnScope ["value"] ["value"] (defScope st_is_about) := ⟨rfl, rfl, rfl, by decide +kernel, rfl, by decide +kernel, by decide +kernel⟩
abbrev st_is_among : Stmt := topS 9
theorem sc_is_among : FnScope ["value", "texts"] ["value", "texts"] (defScope st_is_among) := ⟨rfl, rfl, rfl, by decide +kernel, rfl, by decide +kernel, by decide +kernel⟩
abbrev st_is_default : Stmt := topS 10
theorem sc_is_default : FnScope ["value", "allowed"] ["value", "allowed"] (defScope st_is_default) := ⟨rfl, rfl, rfl, by decide +kernel, rfl, by decide +kernel, by decide +kernel⟩
abbrev st_w_is_name : Stmt := topS 26
theorem sc_w_is_name : FnScope ["_law_thing", "_law_sign"] ["_law_thing"] (defScope st_w_is_name) := ⟨rfl, rfl, rfl, by decide +kernel, rfl, by decide +kernel, by decide +kernel⟩
abbrev st_w_is_about : Stmt := topS 27
theorem sc_w_is_about : FnScope ["_law_thing"] ["_law_thing"] (defScope st_w_is_about) := ⟨rfl, rfl, rfl, by decide +kernel, rfl, by decide +kernel, by decide +kernel⟩
section
variable {P : Program} {w : World} {K : PySem.W.Frag} {mg : Str → Option Value} {base : Heap}
/-! ### is_text_within -/
def within (v : V) (m : Int) : Bool := match v with
  | .str z => decide ((z.length : Int) ≤ m)
  | _ => false
def spWithin : Sp := fun vs H Q _ => ∃ (v : V) (m : Int), vs = [v, .int m] ∧ Thg H v ∧ Q (.bl (within v m)) H
theorem ok_within {f : Addr} {fd : FuncData} {k : Nat} (F : Fun K "is_text_within" "is_text_within" st_is_text_within f fd) (m_len : mg "len" = none) (m_str : mg "str" = none) (m_isinstance : mg "isinstance" = none) :
    FnOk P w K mg base CX0 (k + 1) f fd ["value", "most"] spWithin := by
  refine F.ok sc_is_text_within (fun vs H Q E h => ?_) (fun cdv A outer s H vs Q E hr h => ?_)
  · obtain ⟨v, m, rfl, _⟩ := h
    rfl
  · obtain ⟨v, m, rfl, hv, q⟩ := h
    refine ⟨_, pss_one (ps_ret (pe_and (pe_callB call_isi (by rfl) m_isinstance (by decide +kernel) (pa_cons (pv 0) (pa_cons (pe_bltn (v := .ty "str") (by rfl) m_str (by decide +kernel) rfl) pa_nil))) (pe_one (pe_cmpR op_le (pe_callB call_len_str (by rfl) m_len PySem.boot_len (pa_cons (pv 0) pa_nil)) (pv 1) (nomark _))))), ?_⟩
    obtain ⟨t, ht, hk⟩ := hv.isi (K := K)
    refine ⟨v, rfl, v, _, t, _, isS v, rfl, ClsV.ty "str", ht, hk, _, rfl, ?_⟩
    cases v with
    | str z =>
      exact ⟨_, rfl, z, rfl, Nat.le_trans hv.tx.le (by decide), _, rfl, _, _, rfl, rfl, q⟩
    | _ => exact q
/-! ### is_name -/
def spOf (g : V → Bool) : Sp := fun vs H Q _ => ∃ v : V, vs = [v] ∧ Thg H v ∧ ∀ H', Same H H' → Q (.bl (g v)) H'
theorem ok_isName {f fW : Addr} {fd fdW : FuncData} {k : Nat} {u1 u2 : Tok} (F : Fun K "is_name" "is_name" st_is_name f fd) (D_is_text_within : Df K mg "is_text_within" st_is_text_within ["value", "most"] fW fdW)
    (m_len : mg "len" = none) (m_str : mg "str" = none) (m_isinstance : mg "isinstance" = none) (m_all : mg "all" = none) (c_MOST_NAME_SIGNS : mg "MOST_NAME_SIGNS" = some (.int 10 u1)) (c_NAME_SIGNS : mg "NAME_SIGNS" = some (.str nameSet u2)) :
    FnOk P w K mg base CX0 (k + 2) f fd ["value"] (spOf isNm) := by
  have G_is_text_within : FnOk P w K mg base CX0 (k + 1) fW fdW ["value", "most"] spWithin := ok_within D_is_text_within.F m_len m_str m_isinstance
  refine F.ok sc_is_name (fun vs H Q E h => ?_) (fun cdv A outer s H vs Q E hr h => ?_)
  · obtain ⟨v, rfl, _⟩ := h
    rfl
  · obtain ⟨v, rfl, hv, q⟩ := h
    refine ⟨_, pss_cons (ps_if (PW.pt (pw_or (pt_not (pt_val (pe_call G_is_text_within hr (by rfl) D_is_text_within.g D_is_text_within.F.kp D_is_text_within.b .nil pass0 (pa_cons (pv 0) (pa_cons (pe_glob (v := .int 10) rfl c_MOST_NAME_SIGNS ⟨_, rfl⟩) pa_nil))))) (pw_or1 (pt_cmpR op_eq (pv 0) pe_str (nomark _))))) (pss_one (ps_ret pe_bl)) pss_nil)
      (pss_cons (ps_if (PW.pt (pw_or (pt_val (pe_m1 PySem.F.slot_str_startswith PySem.F.type_str_startswith mt_startswith (pv 0) pe_str)) (pw_or (pt_val (pe_m1 PySem.F.slot_str_endswith PySem.F.type_str_endswith mt_endswith (pv 0) pe_str)) (pw_or1 (pt_val (pe_m1 PySem.F.slot_str_startswith PySem.F.type_str_startswith mt_startswith (pv 0) pe_str)))))) (pss_one (ps_ret pe_bl)) pss_nil)
      (pss_one (ps_ret (pe_callB (cr_all rfl) (by rfl) m_all (by decide +kernel) (pa_cons (pe_lc (own := [("sign", 1)]) (g := gName 1) (tt := tYes) rfl sc_is_name.nd (pi_str (pv 0)) (blkOk_by (N := ["value", "sign"]) (sc := defScope st_is_name) (by decide +kernel)) (fun _ _ _ _ _ => (pg_name (i := 1) sc_is_name.nd rfl (Or.inl rfl))) (fun _ _ _ _ _ => pts_nil) (fun _ _ _ _ _ => (pe_cmpR op_in_sign (pv 1) (pe_glob (v := .str nameSet) rfl c_NAME_SIGNS ⟨_, rfl⟩) (by rfl)))) pa_nil))))), ?_⟩
    refine ⟨v, rfl, v, 10, rfl, hv, _, rfl, ite2 (fun e => ?_) (fun e => ?_)⟩
    · cases v with
      | str z =>
        have e1 : ¬ ((z.length : Int) ≤ 10) := fun c => by
          have : within (.str z) 10 = true := decide_eq_true c
          rw [this] at e
          cases e
        have e2 : isNm (.str z) = false := by
          show nm (tl z) = false
          unfold nm
          rw [decide_eq_false (p := (tl z).length ≤ 10) (by rw [← TL.len_tl]; omega)]
          simp
        rw [e2] at q
        exact q _ (Same.refl _)
      | _ => exact q _ (Same.refl _)
    · cases v with
      | str z =>
        have e1 : (z.length : Int) ≤ 10 := by
          have : within (.str z) 10 = true := by
            cases c : within (.str z) 10 with
            | true => rfl
            | false => rw [c] at e; exact absurd rfl e
          exact of_decide_eq_true this
        refine ⟨.str z, rfl, rfl, _, rfl, ite2 (fun e => ?_) (fun e => ?_)⟩
        · have e2 : tl z = [] := (eq_lit z "").mp (of_decide_eq_true e)
          have e3 : isNm (.str z) = false := by
            show nm (tl z) = false
            rw [e2]
            rfl
          rw [e3] at q
          exact q _ (Same.refl _)
        · have e2 : tl z ≠ [] := fun c => e (decide_eq_true ((eq_lit z "").mpr c))
          have hlen : (tl z).length ≤ 10 := by rw [← TL.len_tl]; omega
          have neg : ∀ b : Bool, b = true → (b = true → nm (tl z) = false) → nm (tl z) = false := fun b h k => k h
          refine ⟨.str z, rfl, ⟨_, rfl⟩, _, _, rfl, rfl, _, rfl, ite2 (fun e => ?_) (fun e => ?_)⟩
          · rw [starts_lit z "-" (l := [45]) (by decide +kernel)] at e
            have e3 : isNm (.str z) = false := by
              show nm (tl z) = false
              unfold nm
              rw [show decide ((tl z).take 1 = [45]) = true from e]
              simp
            rw [e3] at q
            exact q _ (Same.refl _)
          · rw [starts_lit z "-" (l := [45]) (by decide +kernel)] at e
            have n1 : decide ((tl z).take 1 = [45]) = false := Bool.eq_false_iff.mpr e
            refine ⟨.str z, rfl, ⟨_, rfl⟩, _, _, rfl, rfl, _, rfl, ite2 (fun e => ?_) (fun e => ?_)⟩
            · rw [ends_dash z] at e
              have e3 : isNm (.str z) = false := by
                show nm (tl z) = false
                unfold nm
                rw [e]
                simp
              rw [e3] at q
              exact q _ (Same.refl _)
            · rw [ends_dash z] at e
              have n2 : decide ((tl z).getLast? = some 45) = false := Bool.eq_false_iff.mpr e
              refine ⟨.str z, rfl, ⟨_, rfl⟩, _, _, rfl, rfl, _, rfl, ite2 (fun e => ?_) (fun e => ?_)⟩
              · rw [starts_lit z "no-" (l := [110, 111, 45]) (by decide +kernel)] at e
                have e3 : isNm (.str z) = false := by
                  show nm (tl z) = false
                  unfold nm
                  rw [show decide ((tl z).take 3 = [110, 111, 45]) = true from e]
                  simp
                rw [e3] at q
                exact q _ (Same.refl _)
              · rw [starts_lit z "no-" (l := [110, 111, 45]) (by decide +kernel)] at e
                have n3 : decide ((tl z).take 3 = [110, 111, 45]) = false := Bool.eq_false_iff.mpr e
                have e3 : isNm (.str z) = (tl z).all fun c => decide (c ∈ tl nameSet) := by
                  show nm (tl z) = _
                  unfold nm
                  rw [n1, n2, n3, decide_eq_true e2, decide_eq_true hlen]
                  simp
                refine ⟨.str z, rfl, z, rfl, fun D nD => ?_⟩
                refine lc_it walk_str (fun i Hc => Same H Hc ∧ Hc D = some (.lst ((((tl z).take i).map fun c => decide (c ∈ tl nameSet)).map V.bl))) ⟨same_upd nD, upd_same⟩ (fun _ _ _ _ => True.intro) (fun i x Hc H' hi ⟨sc, eD⟩ ⟨eH, c, ec, ex⟩ => ?_) (fun Hc ⟨sc, eD⟩ => ?_)
                · subst eH ex
                  have ec' : (tl z)[i]? = some c := by
                    rw [Array.getElem?_toList]
                    exact ec
                  refine ⟨rfl, ?_⟩
                  refine ⟨_, rfl, c, nameSet, rfl, rfl, _, eD, ?_, ?_, ?_⟩
                  · rw [List.length_map, List.length_map, List.length_take]
                    exact small1000 (by omega)
                  · intro b o e
                    rw [upd_ne (ne_of_none e nD)]
                    exact sc b o e
                  · rw [upd_same, List.take_add_one, ec', List.map_append, List.map_append]
                    rfl
                · refine ⟨D, _, rfl, SqL.of eD, ?_⟩
                  have el : z.cps.size = (tl z).length := by simp
                  rw [el, List.take_length, List.all_map]
                  rw [e3] at q
                  exact q _ sc
      | _ => exact absurd rfl e
/-! ### is_about -/
theorem strs_flat (ys : List Str) : (ys.map V.str).all flatV = true := by
  rw [List.all_map]
  exact List.all_eq_true.mpr fun _ _ => rfl
theorem ok_isAbout {f fW : Addr} {fd fdW : FuncData} {k : Nat} {u1 : Tok} (F : Fun K "is_about" "is_about" st_is_about f fd) (D_is_text_within : Df K mg "is_text_within" st_is_text_within ["value", "most"] fW fdW)
    (m_len : mg "len" = none) (m_str : mg "str" = none) (m_isinstance : mg "isinstance" = none) (c_MOST_ABOUT_SIGNS : mg "MOST_ABOUT_SIGNS" = some (.int 200 u1)) :
    FnOk P w K mg base CX0 (k + 2) f fd ["value"] (spOf isAb) := by
  have G_is_text_within : FnOk P w K mg base CX0 (k + 1) fW fdW ["value", "most"] spWithin := ok_within D_is_text_within.F m_len m_str m_isinstance
  refine F.ok sc_is_about (fun vs H Q E h => ?_) (fun cdv A outer s H vs Q E hr h => ?_)
  · obtain ⟨v, rfl, _⟩ := h
    rfl
  · obtain ⟨v, rfl, hv, q⟩ := h
    refine ⟨_, pss_cons (ps_if (pt_not (pt_val (pe_call G_is_text_within hr (by rfl) D_is_text_within.g D_is_text_within.F.kp D_is_text_within.b .nil pass0 (pa_cons (pv 0) (pa_cons (pe_glob (v := .int 200) rfl c_MOST_ABOUT_SIGNS ⟨_, rfl⟩) pa_nil))))) (pss_one (ps_ret pe_bl)) pss_nil)
      (pss_one (ps_ret (pe_or (pe_cmpR op_eq (pv 0) pe_str (nomark _)) (pe_one (pe_cmpR op_notIn_seq pe_str (pe_split (pv 0) pe_str) (by rfl)))))), ?_⟩
    refine ⟨v, rfl, v, 200, rfl, hv, _, rfl, ite2 (fun e => ?_) (fun e => ?_)⟩
    · cases v with
      | str z =>
        have e1 : ¬ ((z.length : Int) ≤ 200) := fun c => by
          have : within (.str z) 200 = true := decide_eq_true c
          rw [this] at e
          cases e
        have e2 : isAb (.str z) = false := by
          show ab z = false
          unfold ab
          rw [decide_eq_false (p := z.length ≤ 200) (by omega)]
          rfl
        rw [e2] at q
        exact q _ (Same.refl _)
      | _ => exact q _ (Same.refl _)
    · cases v with
      | str z =>
        have e1 : (z.length : Int) ≤ 200 := by
          have : within (.str z) 200 = true := by
            cases c : within (.str z) 200 with
            | true => rfl
            | false => rw [c] at e; exact absurd rfl e
          exact of_decide_eq_true this
        have e2 : isAb (.str z) = (decide (z = Str.ofString "") || !inV (.str (Str.ofString "")) ((Txt.split z (Str.ofString " ")).map V.str)) := by
          show ab z = _
          unfold ab
          rw [decide_eq_true (p := z.length ≤ 200) (by omega), Bool.true_and]
        have e3 : decide (V.str z = V.str (Str.ofString "")) = decide (z = Str.ofString "") := decide_eq_decide.mpr ⟨fun h => V.str.inj h, fun h => by rw [h]⟩
        refine ⟨.str z, rfl, rfl, _, rfl, ite2 (fun e => ?_) (fun e => ?_)⟩
        · rw [e2, ← e3, e] at q
          exact q _ (Same.refl _)
        · have e4 : decide (V.str z = V.str (Str.ofString "")) = false := Bool.eq_false_iff.mpr e
          rw [e2, ← e3, e4, Bool.false_or] at q
          refine ⟨.str z, rfl, ⟨_, rfl⟩, _, _, rfl, rfl, by decide +kernel, ?_, fun p np => ?_⟩
          · have : sizeLine = 16777216 := sizeLine_eq
            omega
          · exact ⟨p, _, rfl, .inl (SqL.of upd_same), rfl, strs_flat _, q _ (same_upd np)⟩
      | _ => exact absurd rfl e
/-! ### is_among -/
def among (v : V) (ys : List Str) : Bool := match v with
  | .str z => inV (.str z) (ys.map V.str)
  | _ => false
def spAmong (K : PySem.W.Frag) : Sp := fun vs H Q _ => ∃ (v : V) (a : Addr) (ys : List Str), vs = [v, .ref a] ∧ Thg H v ∧ SqT K H a (ys.map V.str) ∧ Q (.bl (among v ys)) H
theorem ok_isAmong {f : Addr} {fd : FuncData} {k : Nat} (F : Fun K "is_among" "is_among" st_is_among f fd) (m_str : mg "str" = none) (m_isinstance : mg "isinstance" = none) :
    FnOk P w K mg base CX0 (k + 1) f fd ["value", "texts"] (spAmong K) := by
  refine F.ok sc_is_among (fun vs H Q E h => ?_) (fun cdv A outer s H vs Q E hr h => ?_)
  · obtain ⟨v, a, ys, rfl, _⟩ := h
    rfl
  · obtain ⟨v, a, ys, rfl, hv, hS, q⟩ := h
    refine ⟨_, pss_one (ps_ret (pe_and (pe_callB call_isi (by rfl) m_isinstance (by decide +kernel) (pa_cons (pv 0) (pa_cons (pe_bltn (v := .ty "str") (by rfl) m_str (by decide +kernel) rfl) pa_nil))) (pe_one (pe_cmpR op_in_seq (pv 0) (pv 1) (by rfl))))), ?_⟩
    obtain ⟨t, ht, hk⟩ := hv.isi (K := K)
    refine ⟨v, rfl, v, _, t, _, isS v, rfl, ClsV.ty "str", ht, hk, _, rfl, ?_⟩
    cases v with
    | str z => exact ⟨_, rfl, _, rfl, a, _, rfl, .inr hS, rfl, strs_flat _, q⟩
    | _ => exact q
/-! ### is_default -/
def dflt (v : V) (allowed : Bool) : Bool := decide (v = .non) || (allowed && within v 60)
def spDefault : Sp := fun vs H Q _ => ∃ (v : V) (b : Bool), vs = [v, .bl b] ∧ Thg H v ∧ Q (.bl (dflt v b)) H
theorem ok_isDefault {f fW : Addr} {fd fdW : FuncData} {k : Nat} {u1 : Tok} (F : Fun K "is_default" "is_default" st_is_default f fd) (D_is_text_within : Df K mg "is_text_within" st_is_text_within ["value", "most"] fW fdW)
    (m_len : mg "len" = none) (m_str : mg "str" = none) (m_isinstance : mg "isinstance" = none) (c_MOST_DEFAULT_SIGNS : mg "MOST_DEFAULT_SIGNS" = some (.int 60 u1)) :
    FnOk P w K mg base CX0 (k + 2) f fd ["value", "allowed"] spDefault := by
  have G_is_text_within : FnOk P w K mg base CX0 (k + 1) fW fdW ["value", "most"] spWithin := ok_within D_is_text_within.F m_len m_str m_isinstance
  refine F.ok sc_is_default (fun vs H Q E h => ?_) (fun cdv A outer s H vs Q E hr h => ?_)
  · obtain ⟨v, b, rfl, _⟩ := h
    rfl
  · obtain ⟨v, b, rfl, hv, q⟩ := h
    refine ⟨_, pss_cons (ps_if (pt_cmpR op_isN (pv 0) pe_non (nomark _)) (pss_one (ps_ret pe_bl)) pss_nil)
      (pss_one (ps_ret (pe_and (pv 1) (pe_one (pe_call G_is_text_within hr (by rfl) D_is_text_within.g D_is_text_within.F.kp D_is_text_within.b .nil pass0 (pa_cons (pv 0) (pa_cons (pe_glob (v := .int 60) rfl c_MOST_DEFAULT_SIGNS ⟨_, rfl⟩) pa_nil))))))), ?_⟩
    refine ⟨v, rfl, rfl, _, rfl, ite2 (fun e => ?_) (fun e => ?_)⟩
    · unfold dflt at q
      rw [e] at q
      exact q
    · unfold dflt at q
      rw [Bool.eq_false_iff.mpr e, Bool.false_or] at q
      refine ⟨.bl b, rfl, b, rfl, ?_⟩
      cases b with
      | true => exact ⟨v, rfl, v, 60, rfl, hv, q⟩
      | false => exact q
theorem dp_strs {K : PySem.W.Frag} {H : Hp} : ∀ ys : List Str, DpAll K H (ys.map V.str) (ys.map PyData.str)
  | [] => .nil
  | y :: r => .cons (.str y) (dp_strs r)
theorem strOk_of {z : Str} (h : ∀ c ∈ tl z, c < 256) : PyData.strOk z = true := by
  unfold PyData.strOk
  rw [← Array.all_toList]
  exact List.all_eq_true.mpr fun c hc => decide_eq_true (Nat.lt_trans (h c hc) (by decide))
theorem lay_strs : ∀ ys : List Str, (∀ y ∈ ys, PyData.strOk y = true) → PyData.canLayAll0 (ys.map PyData.str) = true ∧ PyData.depthAll (ys.map PyData.str) = 0
  | [], _ => ⟨by simp [PyData.canLayAll0], by simp [PyData.depthAll]⟩
  | y :: r, h => by
    obtain ⟨h1, h2⟩ := lay_strs r fun z hz => h z (List.mem_cons_of_mem _ hz)
    rw [List.map_cons]
    exact ⟨by simp [PyData.canLayAll0, PyData.canLay0, h1, h y List.mem_cons_self], by simp [PyData.depthAll, PyData.depth, h2]⟩
theorem shaped_strs (ys : List Str) (h : ∀ y ∈ ys, PyData.strOk y = true) : SeqAt.shaped (.list (ys.map PyData.str)) = true := by
  obtain ⟨h1, h2⟩ := lay_strs ys h
  unfold SeqAt.shaped
  simp [PyData.canLay0, PyData.depth, h1, h2]
theorem eqv_nil (ds : List PyData) : PyData.eqv (.list ds) (.list []) = ds.isEmpty := by
  cases ds with
  | nil => simp [PyData.eqv, PyData.eqvAll]
  | cons d r => simp [PyData.eqv, PyData.eqvAll]
theorem filter_all (p : Nat → Bool) : ∀ l : List Nat, (l.filter fun c => !p c).isEmpty = l.all p
  | [] => rfl
  | c :: r => by
    cases h : p c with
    | true =>
      rw [List.filter_cons_of_neg (by rw [h]; decide), filter_all p r, List.all_cons, h, Bool.true_and]
    | false =>
      rw [List.filter_cons_of_pos (by rw [h]; rfl), List.all_cons, h]
      rfl
/-! ### the law's own looks -/
theorem ok_wName {f : Addr} {fd : FuncData} {k : Nat} (F : Fun K "_law_is_name" "_law_is_name" st_w_is_name f fd) (m_len : mg "len" = none) (m_str : mg "str" = none) (m_isinstance : mg "isinstance" = none) :
    FnOk P w K mg base CX0 (k + 1) f fd ["_law_thing"] (spOf isNm) := by
  refine F.ok sc_w_is_name (fun vs H Q E h => ?_) (fun cdv A outer s H vs Q E hr h => ?_)
  · obtain ⟨v, rfl, _⟩ := h
    rfl
  · obtain ⟨v, rfl, hv, q⟩ := h
    refine ⟨_, pss_cons (ps_if (PW.pt (pw_or (pt_not (pt_val (pe_callB call_isi (by rfl) m_isinstance (by decide +kernel) (pa_cons (pv 0) (pa_cons (pe_bltn (v := .ty "str") (by rfl) m_str (by decide +kernel) rfl) pa_nil))))) (pw_or (pt_cmpR op_eq (pv 0) pe_str (nomark _)) (pw_or1 (pt_cmpR op_gt (pe_callB call_len_str (by rfl) m_len PySem.boot_len (pa_cons (pv 0) pa_nil)) pe_int (nomark _)))))) (pss_one (ps_ret pe_bl)) pss_nil)
      (pss_cons (ps_if (PW.pt (pw_or (pt_cmpR op_eq (pe_ix ix_str (pv 0) pe_int (fun _ _ => rfl)) pe_str (nomark _)) (pw_or (pt_cmpR op_eq (pe_ix ix_str (pv 0) (pe_un un_neg pe_int) (fun _ _ => rfl)) pe_str (nomark _)) (pw_or1 (pt_cmpR op_eq (pe_slice sl_str (pv 0) po_none (po_some pe_int)) pe_str (nomark _)))))) (pss_one (ps_ret pe_bl)) pss_nil)
      (pss_one (ps_ret (pe_cmpR (op_eqD hr.units) (pe_lc (own := [("_law_sign", 1)]) (g := gName 1) rfl sc_w_is_name.nd (pi_str (pv 0)) (blkOk_by (N := ["_law_thing", "_law_sign"]) (sc := defScope st_w_is_name) (by decide +kernel)) (fun _ _ _ _ _ => (pg_name (i := 1) sc_w_is_name.nd rfl (Or.inl rfl))) (fun _ _ _ _ _ => pts_one (pt_cmpR op_notIn_sign (pv 1) pe_str (by rfl))) (fun _ _ _ _ _ => (pv 1))) (pe_lst pa_nil) (nomark _))))), ?_⟩
    obtain ⟨t, ht, hk⟩ := hv.isi (K := K)
    refine ⟨v, rfl, v, _, t, _, isS v, rfl, ClsV.ty "str", ht, hk, _, rfl, ?_⟩
    cases v with
    | str z =>
      have hzl : z.length ≤ sizeLine := Nat.le_trans hv.tx.le (by decide)
      refine ⟨.str z, rfl, rfl, _, rfl, ite2 (fun e => ?_) (fun e => ?_)⟩
      · have e2 : tl z = [] := (eq_lit z "").mp (of_decide_eq_true e)
        have e3 : isNm (.str z) = false := by
          show nm (tl z) = false
          rw [e2]
          rfl
        rw [e3] at q
        exact q _ (Same.refl _)
      · have e2 : tl z ≠ [] := fun c => e (decide_eq_true ((eq_lit z "").mpr c))
        refine ⟨.str z, rfl, z, rfl, hzl, _, _, rfl, rfl, _, rfl, ite2 (fun e => ?_) (fun e => ?_)⟩
        · have e1 := of_decide_eq_true e
          have e3 : isNm (.str z) = false := by
            show nm (tl z) = false
            unfold nm
            rw [decide_eq_false (p := (tl z).length ≤ 10) (by rw [← TL.len_tl]; omega)]
            simp
          rw [e3] at q
          exact q _ (Same.refl _)
        · have e1 : ¬ ((10 : Int) < (z.length : Int)) := fun c => e (decide_eq_true c)
          have hlen : (tl z).length ≤ 10 := by rw [← TL.len_tl]; omega
          cases hz : tl z with
          | nil => exact absurd hz e2
          | cons c0 r0 =>
            have g0 : atI z.cps.toList 0 = some c0 := atI_nat (j := 0) (show (tl z)[0]? = some c0 by rw [hz]; rfl)
            have gl : atI z.cps.toList (-1) = some ((tl z).getLast e2) := by
              have es : z.cps.toList = (tl z).dropLast ++ [(tl z).getLast e2] := (List.dropLast_concat_getLast e2).symm
              rw [es]
              exact atI_last _ _
            refine ⟨.str z, rfl, z, 0, c0, rfl, rfl, hzl, g0, rfl, _, rfl, ite2 (fun e => ?_) (fun e => ?_)⟩
            · rw [dec_lit ⟨#[c0]⟩ "-" (l := [45]) (by decide +kernel)] at e
              have e4 : c0 = 45 := by
                have := of_decide_eq_true e
                injection this
              have e3 : isNm (.str z) = false := by
                show nm (tl z) = false
                unfold nm
                rw [show decide ((tl z).take 1 = [45]) = true from decide_eq_true (by rw [hz, e4]; rfl)]
                simp
              rw [e3] at q
              exact q _ (Same.refl _)
            · rw [dec_lit ⟨#[c0]⟩ "-" (l := [45]) (by decide +kernel)] at e
              have n1 : decide ((tl z).take 1 = [45]) = false := by
                rw [hz]
                exact Bool.eq_false_iff.mpr e
              refine ⟨.str z, rfl, 1, rfl, z, -1, (tl z).getLast e2, rfl, rfl, hzl, gl, rfl, _, rfl, ite2 (fun e => ?_) (fun e => ?_)⟩
              · rw [dec_lit ⟨#[(tl z).getLast e2]⟩ "-" (l := [45]) (by decide +kernel)] at e
                have e4 : (tl z).getLast e2 = 45 := by
                  have := of_decide_eq_true e
                  injection this
                have e3 : isNm (.str z) = false := by
                  show nm (tl z) = false
                  unfold nm
                  rw [show decide ((tl z).getLast? = some 45) = true from decide_eq_true (by rw [List.getLast?_eq_getLast e2, e4])]
                  simp
                rw [e3] at q
                exact q _ (Same.refl _)
              · rw [dec_lit ⟨#[(tl z).getLast e2]⟩ "-" (l := [45]) (by decide +kernel)] at e
                have n2 : decide ((tl z).getLast? = some 45) = false := by
                  refine decide_eq_false fun c => e (decide_eq_true ?_)
                  rw [List.getLast?_eq_getLast e2] at c
                  show [(tl z).getLast e2] = [45]
                  rw [Option.some.inj c]
                refine ⟨.str z, rfl, 3, rfl, z, rfl, hzl, rfl, _, rfl, ite2 (fun e => ?_) (fun e => ?_)⟩
                · rw [dec_lit _ "no-" (l := [110, 111, 45]) (by decide +kernel), cut3] at e
                  have e3 : isNm (.str z) = false := by
                    show nm (tl z) = false
                    unfold nm
                    rw [e]
                    simp
                  rw [e3] at q
                  exact q _ (Same.refl _)
                · rw [dec_lit _ "no-" (l := [110, 111, 45]) (by decide +kernel), cut3] at e
                  have n3 : decide ((tl z).take 3 = [110, 111, 45]) = false := Bool.eq_false_iff.mpr e
                  have e3 : isNm (.str z) = (tl z).all fun c => decide (c ∈ tl nameSet) := by
                    show nm (tl z) = _
                    unfold nm
                    rw [n1, n2, n3, decide_eq_true e2, decide_eq_true hlen]
                    simp
                  refine ⟨.str z, rfl, z, rfl, fun D nD => ?_⟩
                  refine lc_it walk_str (fun i Hc => Same H Hc ∧ Hc D = some (.lst ((((tl z).take i).filter fun c => !decide (c ∈ tl nameSet)).map fun c => V.str ⟨#[c]⟩))) ⟨same_upd nD, upd_same⟩ (fun _ _ _ _ => True.intro) (fun i x Hc H' hi ⟨sc, eD⟩ ⟨eH, c, ec, ex⟩ => ?_) (fun Hc ⟨sc, eD⟩ => ?_)
                  · subst eH ex
                    have ec' : (tl z)[i]? = some c := by
                      rw [Array.getElem?_toList]
                      exact ec
                    refine ⟨rfl, ?_⟩
                    refine ⟨_, rfl, c, nameSet, rfl, rfl, _, rfl, ?_⟩
                    have et : (tl z).take (i + 1) = (tl z).take i ++ [c] := by
                      rw [List.take_add_one, ec']
                      rfl
                    cases hc : decide (c ∈ tl nameSet) with
                    | true =>
                      refine ⟨sc, ?_⟩
                      rw [et, List.filter_append, List.filter_cons_of_neg (by rw [hc]; decide), List.filter_nil, List.append_nil]
                      exact eD
                    | false =>
                      refine ⟨_, rfl, _, eD, ?_, ?_, ?_⟩
                      · rw [List.length_map]
                        refine Nat.lt_of_le_of_lt (List.length_filter_le _ _) ?_
                        rw [List.length_take]
                        exact small1000 (by omega)
                      · intro b o e
                        rw [upd_ne (ne_of_none e nD)]
                        exact sc b o e
                      · rw [upd_same, et, List.filter_append, List.filter_cons_of_pos (by rw [hc]; rfl), List.filter_nil, List.map_append]
                        rfl
                  · have el : z.cps.size = (tl z).length := by simp
                    rw [el, List.take_length] at eD
                    refine ⟨Nat.zero_le _, fun p np => ?_⟩
                    have eD' : (upd Hc p (.lst [])) D = some (.lst ((((tl z).filter fun c => !decide (c ∈ tl nameSet)).map fun c => (⟨#[c]⟩ : Str)).map V.str)) := by
                      rw [upd_ne (ne_of_none eD np), eD, List.map_map]
                      rfl
                    refine ⟨_, _, .lst (SqL.of eD') (dp_strs _), .lst (SqL.of upd_same) .nil, shaped_strs _ ?_, by decide +kernel, ?_⟩
                    · intro y hy
                      obtain ⟨c, hc, rfl⟩ := List.mem_map.mp hy
                      exact strOk_of (Tx.sign (hv.tx.pl c (List.mem_filter.mp hc).1)).pl
                    have e5 : PyData.eqv (.list ((((tl z).filter fun c => !decide (c ∈ tl nameSet)).map fun c => (⟨#[c]⟩ : Str)).map PyData.str)) (.list []) = isNm (.str z) := by
                      rw [e3, eqv_nil, List.isEmpty_map, List.isEmpty_map]
                      exact filter_all _ _
                    rw [e5]
                    exact q _ (sc.trans (same_upd np))
    | _ => exact q _ (Same.refl _)
theorem ok_wAbout {f : Addr} {fd : FuncData} {k : Nat} (F : Fun K "_law_is_about" "_law_is_about" st_w_is_about f fd) (m_len : mg "len" = none) (m_str : mg "str" = none) (m_isinstance : mg "isinstance" = none) :
    FnOk P w K mg base CX0 (k + 1) f fd ["_law_thing"] (spOf isAb) := by
  refine F.ok sc_w_is_about (fun vs H Q E h => ?_) (fun cdv A outer s H vs Q E hr h => ?_)
  · obtain ⟨v, rfl, _⟩ := h
    rfl
  · obtain ⟨v, rfl, hv, q⟩ := h
    refine ⟨_, pss_cons (ps_if (PW.pt (pw_or (pt_not (pt_val (pe_callB call_isi (by rfl) m_isinstance (by decide +kernel) (pa_cons (pv 0) (pa_cons (pe_bltn (v := .ty "str") (by rfl) m_str (by decide +kernel) rfl) pa_nil))))) (pw_or1 (pt_cmpR op_gt (pe_callB call_len_str (by rfl) m_len PySem.boot_len (pa_cons (pv 0) pa_nil)) pe_int (nomark _))))) (pss_one (ps_ret pe_bl)) pss_nil)
      (pss_one (ps_ret (pe_or (pe_cmpR op_eq (pv 0) pe_str (nomark _)) (pe_one (pe_cmpR op_notIn_seq pe_str (pe_split (pv 0) pe_str) (by rfl)))))), ?_⟩
    obtain ⟨t, ht, hk⟩ := hv.isi (K := K)
    refine ⟨v, rfl, v, _, t, _, isS v, rfl, ClsV.ty "str", ht, hk, _, rfl, ?_⟩
    cases v with
    | str z =>
      have hzl : z.length ≤ sizeLine := Nat.le_trans hv.tx.le (by decide)
      refine ⟨.str z, rfl, z, rfl, hzl, _, _, rfl, rfl, _, rfl, ite2 (fun e => ?_) (fun e => ?_)⟩
      · have e1 := of_decide_eq_true e
        have e2 : isAb (.str z) = false := by
          show ab z = false
          unfold ab
          rw [decide_eq_false (p := z.length ≤ 200) (by omega)]
          rfl
        rw [e2] at q
        exact q _ (Same.refl _)
      · have e1 : ¬ ((200 : Int) < (z.length : Int)) := fun c => e (decide_eq_true c)
        have e2 : isAb (.str z) = (decide (z = Str.ofString "") || !inV (.str (Str.ofString "")) ((Txt.split z (Str.ofString " ")).map V.str)) := by
          show ab z = _
          unfold ab
          rw [decide_eq_true (p := z.length ≤ 200) (by omega), Bool.true_and]
        have e3 : decide (V.str z = V.str (Str.ofString "")) = decide (z = Str.ofString "") := decide_eq_decide.mpr ⟨fun h => V.str.inj h, fun h => by rw [h]⟩
        refine ⟨.str z, rfl, rfl, _, rfl, ite2 (fun e => ?_) (fun e => ?_)⟩
        · rw [e2, ← e3, e] at q
          exact q _ (Same.refl _)
        · have e4 : decide (V.str z = V.str (Str.ofString "")) = false := Bool.eq_false_iff.mpr e
          rw [e2, ← e3, e4, Bool.false_or] at q
          refine ⟨.str z, rfl, ⟨_, rfl⟩, _, _, rfl, rfl, by decide +kernel, ?_, fun p np => ?_⟩
          · have : sizeLine = 16777216 := sizeLine_eq
            omega
          · exact ⟨p, _, rfl, .inl (SqL.of upd_same), rfl, strs_flat _, q _ (same_upd np)⟩
    | _ => exact q _ (Same.refl _)
end
end WB

set_option Elab.async false
set_option linter.all false
set_option maxRecDepth 100000
set_option maxHeartbeats 4000000
namespace WB
open PySem PySem.Spec PyProof.Rows L2 WG
open TL (tl)
abbrev st_err : Stmt := inClass (topS 14) 0
abbrev st_init : Stmt := inClass (topS 17) 0
abbrev st_get (j : Nat) : Stmt := inClass (topS 17) (1 + j)
theorem sc_err : FnScope ["self", "field"] ["self", "field"] (defScope st_err) := ⟨rfl, rfl, rfl, by decide +kernel, rfl, by decide +kernel, by decide +kernel⟩
theorem sc_init : FnScope ["self", "name", "many", "maker", "default", "about"] ["self", "name", "many", "maker", "default", "about"] (defScope st_init) := ⟨rfl, rfl, rfl, by decide +kernel, rfl, by decide +kernel, by decide +kernel⟩
/-! ### what is wrong first -/
def manies : List Str := [Str.ofString "one", Str.ofString "maybe", Str.ofString "some", Str.ofString "any"]
def isMb (v : V) : Bool := decide (v = .str (Str.ofString "maybe"))
def wrongF (v0 v1 v2 v3 v4 : V) : Str :=
  if isNm v0 = false then Str.ofString "name" else if among v1 manies = false then Str.ofString "many" else if isNm v2 = false then Str.ofString "maker" else
  if dflt v3 (isMb v1) = false then Str.ofString "default" else if isAb v4 = false then Str.ofString "about" else Str.ofString ""
/-- NoPlace, as the written part tells it -/
structure ErrT (K : PySem.W.Frag) (mg : Str → Option Value) (x : Str) (C fI : Addr) (fd : FuncData) : Prop where
  o : OexC K C
  i : PySem.W.findIn K (.ref C) "__init__" = some (some (.ref fI))
  t : PySem.W.typeIn K (.ref fI) = some (.type "function")
  nf : PySem.W.findIn K (.ref C) "field" = some none
  g : mg x = some (.ref C)
  b : Binds K fd ["self", "field"] []
section
variable {P : Program} {w : World} {K : PySem.W.Frag} {mg : Str → Option Value} {base : Heap}
def spErr (C : Addr) : Sp := fun vs H Q _ => ∃ (a : Addr) (y : V), vs = [.ref a, y] ∧ H a = some (exo a C none) ∧ ∀ dx, H dx = none → dx ≠ a → Q .non (upd (upd H dx (exd dx [(("field" : Str), y)])) a (exo a C (some dx)))
theorem ok_err {C f : Addr} {fd : FuncData} {x q : Str} {k : Nat} (F : Fun K "__init__" q st_err f fd) (T : ErrT K mg x C f fd) : FnOk P w K mg base CX0 (k + 1) f fd ["self", "field"] (spErr C) := by
  refine F.ok sc_err (fun vs H Q E h => ?_) (fun cdv A outer s H vs Q E hr h => ?_)
  · obtain ⟨a, y, rfl, _⟩ := h
    rfl
  · obtain ⟨a, y, rfl, ea, q⟩ := h
    refine ⟨_, pss_one (ps_ost (pv 0) (pv 1)), ?_⟩
    exact ⟨y, rfl, .ref a, rfl, a, C, rfl, T.o, T.nf, .inl ⟨ea, fun dx n ne => q dx n ne⟩⟩
/-- the way out by a raised error -/
theorem err_out {C : Addr} {y : V} {H : Hp} {E : XK} {x : Addr} (h : ∀ H' d, Same H H' → H d = none → H' d = some (.xd [(("field" : Str), y)]) → E (.ref C) (some d) H') (a : Addr) (na : H a = none) :
    spErr C [.ref a, y] (upd H a (exo a C none)) (fun v H2 => v = .non ∧ ∃ (d : Addr) (fs : List (Str × V)), H2 a = some (exo a C (some d)) ∧ H2 d = some (exd d fs) ∧ H d = none ∧ E (.ref C) (some d) (upd (del H2 a) d (.xd fs))) (fun _ _ _ => False) := by
  refine ⟨a, y, rfl, upd_same, fun dx ndx ne => ⟨rfl, dx, [(("field" : Str), y)], upd_same, ?_, ?_, ?_⟩⟩
  · rw [upd_ne ne, upd_same]
  · rw [upd_ne ne] at ndx
    exact ndx
  · rw [upd_ne ne] at ndx
    refine h _ dx (fun b o e => ?_) ndx upd_same
    have nb : b ≠ dx := ne_of_none e ndx
    have nba : b ≠ a := ne_of_none e na
    rw [upd_ne nb, del_ne nba, upd_ne nba, upd_ne nb, upd_ne nba]
    exact e
/-! ### Place.__init__ -/
/-- Place, as the written part tells it -/
structure ClsT (K : PySem.W.Frag) (C : Addr) : Prop where
  cl : Cls K C
  nh : NoAttr K C "held"
def spInit (C CN : Addr) : Sp := fun vs H Q E => ∃ (x dx : Addr) (v0 v1 v2 v3 v4 : V), vs = [.ref x, v0, v1, v2, v3, v4] ∧ H x = some (.ins C dx []) ∧ (Thg H v0 ∧ Thg H v1 ∧ Thg H v2 ∧ Thg H v3 ∧ Thg H v4) ∧
  (wrongF v0 v1 v2 v3 v4 = Str.ofString "" → ∀ H' t, But x H H' → H' x = some (.ins C dx [(("held" : Str), .ref t)]) → H' t = some (.tup [v0, v1, v2, v3, v4]) → Q .non H') ∧
  (wrongF v0 v1 v2 v3 v4 ≠ Str.ofString "" → ∀ H' d, Same H H' → H d = none → H' d = some (.xd [(("field" : Str), .str (wrongF v0 v1 v2 v3 v4))]) → E (.ref CN) (some d) H')
theorem lit_ne {s : String} (h : (Str.ofString s).length ≠ 0) : Str.ofString s ≠ Str.ofString "" := fun e => h (by rw [e]; decide +kernel)
theorem ok_init {C CN f fE fW fA fB fM fD : Addr} {fd fdE fdW fdA fdB fdM fdD : FuncData} {u1 u2 u3 u4 : Tok} {aM : Addr} {k : Nat} (F : FunD K "__init__" "Place.__init__" (defArgs st_init) (defBody st_init) (defScope st_init) [.str (Str.ofString "one"), .str (Str.ofString "word"), .non, .str (Str.ofString "")] [] f fd)
    (FE : Fun K "__init__" "NoPlace.__init__" st_err fE fdE) (TE : ErrT K mg "NoPlace" CN fE fdE) (T : ClsT K C)
    (D_is_text_within : Df K mg "is_text_within" st_is_text_within ["value", "most"] fW fdW) (D_is_name : Df K mg "is_name" st_is_name ["value"] fA fdA) (D_is_about : Df K mg "is_about" st_is_about ["value"] fB fdB)
    (D_is_among : Df K mg "is_among" st_is_among ["value", "texts"] fM fdM) (D_is_default : Df K mg "is_default" st_is_default ["value", "allowed"] fD fdD)
    (m_len : mg "len" = none) (m_str : mg "str" = none) (m_isinstance : mg "isinstance" = none) (m_all : mg "all" = none) (c_MOST_NAME_SIGNS : mg "MOST_NAME_SIGNS" = some (.int 10 u1)) (c_NAME_SIGNS : mg "NAME_SIGNS" = some (.str nameSet u2))
    (c_MOST_ABOUT_SIGNS : mg "MOST_ABOUT_SIGNS" = some (.int 200 u3)) (c_MOST_DEFAULT_SIGNS : mg "MOST_DEFAULT_SIGNS" = some (.int 60 u4)) (c_MANIES : mg "MANIES" = some (.ref aM)) (hM : ∀ H, SqT K H aM (manies.map V.str)) :
    FnOk P w K mg base (L2.CX P w) (k + 3) f fd ["self", "name", "many", "maker", "default", "about"] (spInit C CN) := by
  have GE : FnOk P w K mg base CX0 (k + 1) fE fdE ["self", "field"] (spErr CN) := ok_err FE TE
  have G_is_name : FnOk P w K mg base CX0 (k + 2) fA fdA ["value"] (spOf isNm) := ok_isName D_is_name.F D_is_text_within m_len m_str m_isinstance m_all c_MOST_NAME_SIGNS c_NAME_SIGNS
  have G_is_about : FnOk P w K mg base CX0 (k + 2) fB fdB ["value"] (spOf isAb) := ok_isAbout D_is_about.F D_is_text_within m_len m_str m_isinstance c_MOST_ABOUT_SIGNS
  have G_is_among : FnOk P w K mg base CX0 (k + 2) fM fdM ["value", "texts"] (spAmong K) := ok_isAmong D_is_among.F m_str m_isinstance
  have G_is_default : FnOk P w K mg base CX0 (k + 2) fD fdD ["value", "allowed"] spDefault := ok_isDefault D_is_default.F D_is_text_within m_len m_str m_isinstance c_MOST_DEFAULT_SIGNS
  refine F.ok sc_init (fun vs H Q E h => ?_) (fun cdv A outer s H vs Q E hr h => ?_)
  · obtain ⟨x, dx, v0, v1, v2, v3, v4, rfl, _⟩ := h
    rfl
  · obtain ⟨x, dx, v0, v1, v2, v3, v4, rfl, ex, ⟨t0, t1, t2, t3, t4⟩, qok, qbad⟩ := h
    refine ⟨_, pss_cons (ps_if (pt_not (pt_val (pe_call G_is_name hr (by rfl) D_is_name.g D_is_name.F.kp D_is_name.b .nil pass0 (pa_cons (pv 1) pa_nil)))) (pss_one (ps_raise rfl (takes_of rfl rfl rfl rfl) (pmk_oex TE.o TE.i TE.t GE hr TE.b .nil pass0 (by rfl) TE.g (pa_cons pe_str pa_nil)))) pss_nil)
      (pss_cons (ps_if (pt_not (pt_val (pe_call G_is_among hr (by rfl) D_is_among.g D_is_among.F.kp D_is_among.b .nil pass0 (pa_cons (pv 2) (pa_cons (pe_glob (v := .ref aM) rfl c_MANIES rfl) pa_nil))))) (pss_one (ps_raise rfl (takes_of rfl rfl rfl rfl) (pmk_oex TE.o TE.i TE.t GE hr TE.b .nil pass0 (by rfl) TE.g (pa_cons pe_str pa_nil)))) pss_nil)
      (pss_cons (ps_if (pt_not (pt_val (pe_call G_is_name hr (by rfl) D_is_name.g D_is_name.F.kp D_is_name.b .nil pass0 (pa_cons (pv 3) pa_nil)))) (pss_one (ps_raise rfl (takes_of rfl rfl rfl rfl) (pmk_oex TE.o TE.i TE.t GE hr TE.b .nil pass0 (by rfl) TE.g (pa_cons pe_str pa_nil)))) pss_nil)
      (pss_cons (ps_if (pt_not (pt_val (pe_call G_is_default hr (by rfl) D_is_default.g D_is_default.F.kp D_is_default.b .nil pass0 (pa_cons (pv 4) (pa_cons (pe_cmpR op_eq (pv 2) pe_str (nomark _)) pa_nil))))) (pss_one (ps_raise rfl (takes_of rfl rfl rfl rfl) (pmk_oex TE.o TE.i TE.t GE hr TE.b .nil pass0 (by rfl) TE.g (pa_cons pe_str pa_nil)))) pss_nil)
      (pss_cons (ps_if (pt_not (pt_val (pe_call G_is_about hr (by rfl) D_is_about.g D_is_about.F.kp D_is_about.b .nil pass0 (pa_cons (pv 5) pa_nil)))) (pss_one (ps_raise rfl (takes_of rfl rfl rfl rfl) (pmk_oex TE.o TE.i TE.t GE hr TE.b .nil pass0 (by rfl) TE.g (pa_cons pe_str pa_nil)))) pss_nil)
      (pss_one (ps_fld (pv 0) (pe_tup (pa_cons (pv 1) (pa_cons (pv 2) (pa_cons (pv 3) (pa_cons (pv 4) (pa_cons (pv 5) pa_nil)))))) rfl)))))), ?_⟩
    refine ⟨v0, rfl, v0, rfl, t0, fun H1 s1 => ⟨_, rfl, ?_⟩⟩
    cases b0 : isNm v0 with
    | false =>
      have e : wrongF v0 v1 v2 v3 v4 = Str.ofString "name" := by unfold wrongF; rw [if_pos b0]
      rw [e] at qbad
      refine ⟨by show 1 ≤ 1000; decide, fun a na => err_out (x := x) (fun H' d sm nd ed => qbad (lit_ne (by decide +kernel)) H' d (s1.trans sm) (s1.free nd) ed) a na⟩
    | true =>
      refine ⟨v1, rfl, v1, aM, manies, rfl, t1.same s1, hM _, _, rfl, ?_⟩
      cases b1 : among v1 manies with
      | false =>
        have e : wrongF v0 v1 v2 v3 v4 = Str.ofString "many" := by unfold wrongF; rw [if_neg (by rw [b0]; decide), if_pos b1]
        rw [e] at qbad
        refine ⟨by show 1 ≤ 1000; decide, fun a na => err_out (x := x) (fun H' d sm nd ed => qbad (lit_ne (by decide +kernel)) H' d (s1.trans sm) (s1.free nd) ed) a na⟩
      | true =>
        refine ⟨v2, rfl, v2, rfl, t2.same s1, fun H2 s2 => ⟨_, rfl, ?_⟩⟩
        have s12 := s1.trans s2
        cases b2 : isNm v2 with
        | false =>
          have e : wrongF v0 v1 v2 v3 v4 = Str.ofString "maker" := by unfold wrongF; rw [if_neg (by rw [b0]; decide), if_neg (by rw [b1]; decide), if_pos b2]
          rw [e] at qbad
          refine ⟨by show 1 ≤ 1000; decide, fun a na => err_out (x := x) (fun H' d sm nd ed => qbad (lit_ne (by decide +kernel)) H' d (s12.trans sm) (s12.free nd) ed) a na⟩
        | true =>
          cases v1 with
          | str z1 =>
            refine ⟨v3, rfl, .str z1, rfl, rfl, v3, _, rfl, t3.same s12, _, rfl, ?_⟩
            have em : decide (V.str z1 = V.str (Str.ofString "maybe")) = isMb (.str z1) := rfl
            rw [em]
            cases b3 : dflt v3 (isMb (.str z1)) with
            | false =>
              have e : wrongF v0 (.str z1) v2 v3 v4 = Str.ofString "default" := by unfold wrongF; rw [if_neg (by rw [b0]; decide), if_neg (by rw [b1]; decide), if_neg (by rw [b2]; decide), if_pos b3]
              rw [e] at qbad
              refine ⟨by show 1 ≤ 1000; decide, fun a na => err_out (x := x) (fun H' d sm nd ed => qbad (lit_ne (by decide +kernel)) H' d (s12.trans sm) (s12.free nd) ed) a na⟩
            | true =>
              refine ⟨v4, rfl, v4, rfl, t4.same s12, fun H4 s4 => ⟨_, rfl, ?_⟩⟩
              have s14 := s12.trans s4
              cases b4 : isAb v4 with
              | false =>
                have e : wrongF v0 (.str z1) v2 v3 v4 = Str.ofString "about" := by unfold wrongF; rw [if_neg (by rw [b0]; decide), if_neg (by rw [b1]; decide), if_neg (by rw [b2]; decide), if_neg (by rw [b3]; decide), if_pos b4]
                rw [e] at qbad
                refine ⟨by show 1 ≤ 1000; decide, fun a na => err_out (x := x) (fun H' d sm nd ed => qbad (lit_ne (by decide +kernel)) H' d (s14.trans sm) (s14.free nd) ed) a na⟩
              | true =>
                have e : wrongF v0 (.str z1) v2 v3 v4 = Str.ofString "" := by unfold wrongF; rw [if_neg (by rw [b0]; decide), if_neg (by rw [b1]; decide), if_neg (by rw [b2]; decide), if_neg (by rw [b3]; decide), if_neg (by rw [b4]; decide)]
                have ex4 := s14 _ _ ex
                refine ⟨_, rfl, _, rfl, _, rfl, _, rfl, _, rfl, by show 5 ≤ sizeLine; decide, fun t nt => ?_⟩
                have nxt : x ≠ t := ne_of_none ex4 nt
                refine ⟨.ref x, rfl, x, C, dx, [], rfl, ?_, T.cl, T.nh, by decide, ?_⟩
                · rw [upd_ne nxt]
                  exact ex4
                · refine qok e _ t (fun b o nb eb => ?_) upd_same ?_
                  · rw [upd_ne nb]
                    exact same_upd nt _ _ (s14 _ _ eb)
                  · rw [upd_ne nxt.symm, upd_same]
          | _ => cases b1
/-! ### the methods -/
theorem sc_get0 : FnScope ["self"] ["self"] (defScope (st_get 0)) := ⟨rfl, rfl, rfl, by decide +kernel, rfl, by decide +kernel, by decide +kernel⟩
theorem sc_get1 : FnScope ["self"] ["self"] (defScope (st_get 1)) := ⟨rfl, rfl, rfl, by decide +kernel, rfl, by decide +kernel, by decide +kernel⟩
theorem sc_get2 : FnScope ["self"] ["self"] (defScope (st_get 2)) := ⟨rfl, rfl, rfl, by decide +kernel, rfl, by decide +kernel, by decide +kernel⟩
theorem sc_get3 : FnScope ["self"] ["self"] (defScope (st_get 3)) := ⟨rfl, rfl, rfl, by decide +kernel, rfl, by decide +kernel, by decide +kernel⟩
theorem sc_get4 : FnScope ["self"] ["self"] (defScope (st_get 4)) := ⟨rfl, rfl, rfl, by decide +kernel, rfl, by decide +kernel, by decide +kernel⟩
def spGet (C : Addr) (j : Nat) : Sp := fun vs H Q _ => ∃ (x dx t : Addr) (xs : List V) (v : V), vs = [.ref x] ∧ H x = some (.ins C dx [(("held" : Str), .ref t)]) ∧ H t = some (.tup xs) ∧ xs[j]? = some v ∧ Q v H
theorem held_look {t : Addr} : List.lookup ("held" : Str) [(("held" : Str), V.ref t)] = some (.ref t) := by simp [List.lookup]
theorem ok_get0 {C f : Addr} {fd : FuncData} {k : Nat} (F : Fun K "name" "Place.name" (st_get 0) f fd) (T : ClsT K C) : FnOk P w K mg base CX0 (k + 1) f fd ["self"] (spGet C 0) := by
  refine F.ok sc_get0 (fun vs H Q E h => ?_) (fun cdv A outer s H vs Q E hr h => ?_)
  · obtain ⟨x, dx, t, xs, v, rfl, _⟩ := h
    rfl
  · obtain ⟨x, dx, t, xs, v, rfl, ex, et, ev, q⟩ := h
    refine ⟨_, pss_one (ps_ret (pe_ix ix_tup (pe_fld (pv 0) rfl) pe_int (fun _ _ => rfl))), ?_⟩
    exact ⟨.ref x, rfl, x, C, dx, _, .ref t, rfl, ex, T.cl, T.nh, held_look, t, xs, 0, v, rfl, rfl, SqT.of et, atI_nat (j := 0) ev, q⟩
theorem ok_get1 {C f : Addr} {fd : FuncData} {k : Nat} (F : Fun K "many" "Place.many" (st_get 1) f fd) (T : ClsT K C) : FnOk P w K mg base CX0 (k + 1) f fd ["self"] (spGet C 1) := by
  refine F.ok sc_get1 (fun vs H Q E h => ?_) (fun cdv A outer s H vs Q E hr h => ?_)
  · obtain ⟨x, dx, t, xs, v, rfl, _⟩ := h
    rfl
  · obtain ⟨x, dx, t, xs, v, rfl, ex, et, ev, q⟩ := h
    refine ⟨_, pss_one (ps_ret (pe_ix ix_tup (pe_fld (pv 0) rfl) pe_int (fun _ _ => rfl))), ?_⟩
    exact ⟨.ref x, rfl, x, C, dx, _, .ref t, rfl, ex, T.cl, T.nh, held_look, t, xs, 1, v, rfl, rfl, SqT.of et, atI_nat (j := 1) ev, q⟩
theorem ok_get2 {C f : Addr} {fd : FuncData} {k : Nat} (F : Fun K "maker" "Place.maker" (st_get 2) f fd) (T : ClsT K C) : FnOk P w K mg base CX0 (k + 1) f fd ["self"] (spGet C 2) := by
  refine F.ok sc_get2 (fun vs H Q E h => ?_) (fun cdv A outer s H vs Q E hr h => ?_)
  · obtain ⟨x, dx, t, xs, v, rfl, _⟩ := h
    rfl
  · obtain ⟨x, dx, t, xs, v, rfl, ex, et, ev, q⟩ := h
    refine ⟨_, pss_one (ps_ret (pe_ix ix_tup (pe_fld (pv 0) rfl) pe_int (fun _ _ => rfl))), ?_⟩
    exact ⟨.ref x, rfl, x, C, dx, _, .ref t, rfl, ex, T.cl, T.nh, held_look, t, xs, 2, v, rfl, rfl, SqT.of et, atI_nat (j := 2) ev, q⟩
theorem ok_get3 {C f : Addr} {fd : FuncData} {k : Nat} (F : Fun K "default" "Place.default" (st_get 3) f fd) (T : ClsT K C) : FnOk P w K mg base CX0 (k + 1) f fd ["self"] (spGet C 3) := by
  refine F.ok sc_get3 (fun vs H Q E h => ?_) (fun cdv A outer s H vs Q E hr h => ?_)
  · obtain ⟨x, dx, t, xs, v, rfl, _⟩ := h
    rfl
  · obtain ⟨x, dx, t, xs, v, rfl, ex, et, ev, q⟩ := h
    refine ⟨_, pss_one (ps_ret (pe_ix ix_tup (pe_fld (pv 0) rfl) pe_int (fun _ _ => rfl))), ?_⟩
    exact ⟨.ref x, rfl, x, C, dx, _, .ref t, rfl, ex, T.cl, T.nh, held_look, t, xs, 3, v, rfl, rfl, SqT.of et, atI_nat (j := 3) ev, q⟩
theorem ok_get4 {C f : Addr} {fd : FuncData} {k : Nat} (F : Fun K "about" "Place.about" (st_get 4) f fd) (T : ClsT K C) : FnOk P w K mg base CX0 (k + 1) f fd ["self"] (spGet C 4) := by
  refine F.ok sc_get4 (fun vs H Q E h => ?_) (fun cdv A outer s H vs Q E hr h => ?_)
  · obtain ⟨x, dx, t, xs, v, rfl, _⟩ := h
    rfl
  · obtain ⟨x, dx, t, xs, v, rfl, ex, et, ev, q⟩ := h
    refine ⟨_, pss_one (ps_ret (pe_ix ix_tup (pe_fld (pv 0) rfl) pe_int (fun _ _ => rfl))), ?_⟩
    exact ⟨.ref x, rfl, x, C, dx, _, .ref t, rfl, ex, T.cl, T.nh, held_look, t, xs, 4, v, rfl, rfl, SqT.of et, atI_nat (j := 4) ev, q⟩
end
end WB

set_option Elab.async false
set_option linter.all false
set_option maxRecDepth 100000
set_option maxHeartbeats 4000000
namespace WB
open PySem PySem.Spec PyProof.Rows L2 WG
open TL (tl)
abbrev st_good : Stmt := topS 28
theorem sc_good : FnScope ["_law_pot_here", "_law_taken", "_law_word"] ["_law_pot_here"] (defScope st_good) := ⟨rfl, rfl, rfl, by decide +kernel, rfl, by decide +kernel, by decide +kernel⟩
abbrev st_odd : Stmt := topS 29
theorem sc_odd : FnScope ["_law_pot_here", "_law_at", "_law_names", "_law_manies", "_law_defaults", "_law_abouts", "_law_some"] ["_law_pot_here", "_law_at"] (defScope st_odd) := ⟨rfl, rfl, rfl, by decide +kernel, rfl, by decide +kernel, by decide +kernel⟩
def AllT (H : Hp) (vs : List V) : Prop := ∀ v ∈ vs, Thg H v
theorem AllT.same {H H' : Hp} {vs : List V} (h : AllT H vs) (s : Same H H') : AllT H' vs := fun v hv => (h v hv).same s
theorem AllT.nil {H : Hp} : AllT H [] := fun v hv => by cases hv
theorem AllT.cons {H : Hp} {v : V} {vs : List V} (h : Thg H v) (k : AllT H vs) : AllT H (v :: vs) := fun x hx => by
  rcases List.mem_cons.mp hx with e | e
  · rw [e]
    exact h
  · exact k x e
theorem AllT.app {H : Hp} {vs ws : List V} (h : AllT H vs) (k : AllT H ws) : AllT H (vs ++ ws) := fun x hx => (List.mem_append.mp hx).elim (h x) (k x)
theorem thg_lit {H : Hp} (s : String) (h : (Str.ofString s).length ≤ 300) (k : ∀ c ∈ tl (Str.ofString s), c < 256) : Thg H (.str (Str.ofString s)) := .str ⟨h, k⟩
def litB : V → Bool
  | .non => true
  | .bl _ => true
  | .int i => decide (0 ≤ i) && decide (i ≤ 1000)
  | .str z => decide (z.length ≤ 300) && (tl z).all fun c => decide (c < 256)
  | _ => false
theorem thg_litB {H : Hp} : ∀ {v : V}, litB v = true → Thg H v
  | .non, _ => .non
  | .bl b, _ => .bl b
  | .int i, h => by
    have h' := Bool.and_eq_true_iff.mp h
    exact .int (of_decide_eq_true h'.1) (of_decide_eq_true h'.2)
  | .str z, h => by
    have h' := Bool.and_eq_true_iff.mp h
    exact .str ⟨of_decide_eq_true h'.1, fun c hc => of_decide_eq_true (List.all_eq_true.mp h'.2 c hc)⟩
  | .ref _, h => by cases h
  | .byt _, h => by cases h
  | .flt _, h => by cases h
  | .ty _, h => by cases h
theorem allT_lit {H : Hp} {vs : List V} (h : vs.all litB = true) : AllT H vs := fun v hv => thg_litB (List.all_eq_true.mp h v hv)
/-- things survive where only the pot turns: no thing is the pot -/
theorem Thg.but {H H' : Hp} {p : Addr} {v : V} (h : Thg H v) (hp : Pot H p) (b : But p H H') : Thg H' v := by
  cases h with
  | non => exact .non
  | bl b => exact .bl b
  | int h0 h1 => exact .int h0 h1
  | str h => exact .str h
  | odd e h =>
    refine .odd (b _ _ (fun z => ?_) e) h
    obtain ⟨x, y, ep, _⟩ := hp
    rw [z, ep] at e
    cases e
    have := Odd.ne h
    exact absurd this (by show ¬ 2 ≤ 1; decide)
theorem AllT.but {H H' : Hp} {p : Addr} {vs : List V} (h : AllT H vs) (hp : Pot H p) (b : But p H H') : AllT H' vs := fun v hv => (h v hv).but hp b
section
variable {P : Program} {w : World} {K : PySem.W.Frag} {mg : Str → Option Value} {base : Heap}
/-! ### _law_good -/
def spGood : Sp := fun vs H Q _ => ∃ p : Addr, vs = [.ref p] ∧ Pot H p ∧ ∀ H' l (v0 v1 v2 v3 v4 : V), But p H H' → Pot H' p → H l = none → l ≠ p → H' l = some (.lst [v0, v1, v2, v3, v4]) → AllT H' [v0, v1, v2, v3, v4] → Q (.ref l) H'
theorem ok_good {f fT fN fA fX fS : Addr} {fd fdT fdN fdA fdX fdS : FuncData} {k : Nat} (F : Fun K "_law_good" "_law_good" st_good f fd) (D_take : Df K mg "_law_take" sTake ["_law_pot_here", "_law_room"] fT fdT) (D_name : Df K mg "_law_name" sName ["_law_pot_here"] fN fdN)
    (D_about : Df K mg "_law_about" sAbout ["_law_pot_here"] fA fdA) (D_text : Df K mg "_law_text" sText ["_law_pot_here"] fX fdX) (D_signs : Df K mg "_law_signs" sSigns ["_law_pot_here", "_law_most"] fS fdS) (m_len : mg "len" = none) (m_range : mg "range" = none) :
    FnOk P w K mg base CX0 (k + 4) f fd ["_law_pot_here"] spGood := by
  have G_take : FnOk P w K mg base CX0 (k + 3) fT fdT ["_law_pot_here", "_law_room"] spTake := ok_take D_take.F
  have G_name : FnOk P w K mg base CX0 (k + 3) fN fdN ["_law_pot_here"] (spDrawn 20) := ok_name D_name.F D_take m_len m_range
  have G_about : FnOk P w K mg base CX0 (k + 3) fA fdA ["_law_pot_here"] (spDrawn 300) := ok_about D_about.F D_take D_signs m_len m_range
  have G_text : FnOk P w K mg base CX0 (k + 3) fX fdX ["_law_pot_here"] (spDrawn 60) := ok_text D_text.F D_take D_signs m_len m_range
  refine F.ok sc_good (fun vs H Q E h => ?_) (fun cdv A outer s H vs Q E hr h => ?_)
  · obtain ⟨p, rfl, _⟩ := h
    rfl
  · obtain ⟨p, rfl, hp, q⟩ := h
    refine ⟨_, pss_cons (ps_set (i := 1) sc_good.nd rfl (.inl rfl) (pe_ix ix_list (pe_lst (pa_cons pe_str (pa_cons pe_str (pa_cons pe_str (pa_cons pe_str pa_nil))))) (pe_call G_take hr (by rfl) D_take.g D_take.F.kp D_take.b .nil pass0 (pa_cons (pv 0) (pa_cons pe_int pa_nil))) (fun _ _ => rfl)))
      (pss_cons (ps_set (i := 2) sc_good.nd rfl (.inl rfl) pe_non)
      (pss_cons (ps_if (PW.pt (pw_and (pt_cmpR op_eq (pv 1) pe_str (nomark _)) (pw_and1 (pt_cmpR op_eq (pe_call G_take hr (by rfl) D_take.g D_take.F.kp D_take.b .nil pass0 (pa_cons (pv 0) (pa_cons pe_int pa_nil))) pe_int (nomark _))))) (pss_one (ps_set (i := 2) sc_good.nd rfl (.inl rfl) (pe_call G_text hr (by rfl) D_text.g D_text.F.kp D_text.b .nil pass0 (pa_cons (pv 0) pa_nil)))) pss_nil)
      (pss_one (ps_ret (pe_lst (pa_cons (pe_call G_name hr (by rfl) D_name.g D_name.F.kp D_name.b .nil pass0 (pa_cons (pv 0) pa_nil)) (pa_cons (pv 1) (pa_cons (pe_call G_name hr (by rfl) D_name.g D_name.F.kp D_name.b .nil pass0 (pa_cons (pv 0) pa_nil)) (pa_cons (pv 2) (pa_cons (pe_call G_about hr (by rfl) D_about.g D_about.F.kp D_about.b .nil pass0 (pa_cons (pv 0) pa_nil)) pa_nil)))))))))), ?_⟩
    refine ⟨by decide +kernel, fun l1 n1 => ?_⟩
    have p1 := hp.new (o := .lst (manies.map V.str)) n1
    have nl1 := hp.ne n1
    refine ⟨.ref p, rfl, p, 4, rfl, p1, by decide, by decide, fun H2 d2 b2 p2 d20 d21 => ?_⟩
    obtain ⟨z, hzm, hze⟩ := at_strs manies d2 d20 (by show d2 < 4; exact d21)
    have tz : Tx 300 z := (by decide +kernel : ∀ y ∈ manies, y.length ≤ 300 ∧ ∀ c ∈ tl y, c < 256) z hzm |> fun h => ⟨h.1, h.2⟩
    have bb2 : But p H H2 := (But.new n1).trans b2
    refine ⟨l1, _, d2, .str z, rfl, rfl, SqL.of (b2 _ _ nl1.symm upd_same), hze, ?_⟩
    have fin : ∀ (H3 : Hp) (wv : V), But p H H3 → Pot H3 p → (wv = .non ∨ ∃ y, wv = .str y ∧ Tx 300 y) →
        (tRet (tLst (tCons (tCall (spDrawn 20) [] E0 (tCons (tVar 0) tNil)) (tCons (tVar 1) (tCons (tCall (spDrawn 20) [] E0 (tCons (tVar 0) tNil)) (tCons (tVar 2) (tCons (tCall (spDrawn 300) [] E0 (tCons (tVar 0) tNil)) tNil))))))) { nx := fun _ H' => Q .non H', rt := Q } [some (.ref p), some (.str z), some wv] H3 := by
      intro H3 wv b3 p3 hw
      refine ⟨.ref p, rfl, p, rfl, p3, fun H4 y4 b4 p4 t4 => ⟨_, rfl, .ref p, rfl, p, rfl, p4, fun H5 y5 b5 p5 t5 => ⟨_, rfl, .ref p, rfl, p, rfl, p5, fun H6 y6 b6 p6 t6 => ⟨by show 5 ≤ sizeLine; decide, fun l nl => ?_⟩⟩⟩⟩
      have bb : But p H H6 := ((b3.trans b4).trans b5).trans b6
      have nlp : l ≠ p := (p6.ne nl).symm
      have fr : H l = none := by
        cases e : H l with
        | none => rfl
        | some o =>
          rw [bb l o nlp e] at nl
          cases nl
      refine q _ l _ _ _ _ _ (bb.trans (But.new nl)) (p6.new nl) fr nlp upd_same ?_
      refine .cons (.str (t4.mono (by decide))) (.cons (.str tz) (.cons (.str (t5.mono (by decide))) (.cons ?_ (.cons (.str t6) .nil))))
      rcases hw with rfl | ⟨y, rfl, ty⟩
      · exact .non
      · exact .str ty
    refine ⟨_, rfl, rfl, _, rfl, ite2 (fun e => ?_) (fun e => ?_)⟩
    · refine ⟨.ref p, rfl, p, 2, rfl, p2, by decide, by decide, fun H3 d3 b3 p3 d30 d31 => ⟨rfl, _, rfl, ite2 (fun e => ?_) (fun e => ?_)⟩⟩
      · refine ⟨.ref p, rfl, p, rfl, p3, fun H4 y b4 p4 ty => fin _ _ ((bb2.trans b3).trans b4) p4 (.inr ⟨y, rfl, ty.mono (by decide)⟩)⟩
      · exact fin _ _ (bb2.trans b3) p3 (.inl rfl)
    · exact fin _ _ bb2 p2 (.inl rfl)
/-! ### _law_odd -/
/-- what follows a new object, by what is known of the heap -/
theorem go {R : Hp → Prop} {H : Hp} {a : Addr} {o : HO} (n : H a = none) (h : ∀ H', Same H H' → H' a = some o → R H') : R (upd H a o) := h _ (same_upd n) upd_same
theorem same_upd2 {H : Hp} {a : Addr} {o0 o : HO} (n : H a = none) : Same H (upd (upd H a o0) a o) := fun b x e => by
  have nb := ne_of_none e n
  rw [upd_ne nb, upd_ne nb]
  exact e
theorem go2 {R : Hp → Prop} {H : Hp} {a : Addr} {o0 o : HO} (n : H a = none) (h : ∀ H', Same H H' → H' a = some o → R H') : R (upd (upd H a o0) a o) := h _ (same_upd2 n) upd_same
theorem goT {α : Type} {R : Hp → α → Prop} {Q : α} {H : Hp} {a : Addr} {o : HO} (n : H a = none) (h : ∀ H', Same H H' → H' a = some o → R H' Q) : R (upd H a o) Q := h _ (same_upd n) upd_same
def spOdd : Sp := fun vs H Q _ => ∃ (p : Addr) (i : Int), vs = [.ref p, .int i] ∧ Pot H p ∧ 0 ≤ i ∧ i < 5 ∧ ∀ H' (v : V), But p H H' → Pot H' p → Thg H' v → Q v H'
theorem ok_odd {f fT : Addr} {fd fdT : FuncData} {k : Nat} (F : Fun K "_law_odd" "_law_odd" st_odd f fd) (D_take : Df K mg "_law_take" sTake ["_law_pot_here", "_law_room"] fT fdT) (m_len : mg "len" = none) : FnOk P w K mg base CX0 (k + 2) f fd ["_law_pot_here", "_law_at"] spOdd := by
  have G_take : FnOk P w K mg base CX0 (k + 1) fT fdT ["_law_pot_here", "_law_room"] spTake := ok_take D_take.F
  refine F.ok sc_odd (fun vs H Q E h => ?_) (fun cdv A outer s H vs Q E hr h => ?_)
  · obtain ⟨p, i, rfl, _⟩ := h
    rfl
  · obtain ⟨p, i, rfl, hp, i0, i1, q⟩ := h
    refine ⟨_, pss_cons (ps_set (i := 2) sc_odd.nd rfl (.inl rfl) (pe_lst (pa_cons pe_str (pa_cons pe_str (pa_cons pe_str (pa_cons pe_str (pa_cons pe_str (pa_cons pe_str (pa_cons pe_str (pa_cons pe_str (pa_cons pe_str (pa_cons pe_str (pa_cons pe_str (pa_cons pe_str (pa_cons pe_str (pa_cons pe_str (pa_cons pe_non (pa_cons pe_int pa_nil))))))))))))))))))
      (pss_cons (ps_set (i := 2) sc_odd.nd rfl (.inl rfl) (pe_op op_cat (pv 2) (pe_lst (pa_cons pe_bl (pa_cons (pe_lst (pa_cons pe_str pa_nil)) (pa_cons (pe_tup (pa_cons pe_str pa_nil)) (pa_cons (pe_disp (pps_cons pe_str pe_int pps_nil) (by rfl) (by rfl) (fun z => by cases z) (by decide)) pa_nil)))))))
      (pss_cons (ps_set (i := 3) sc_odd.nd rfl (.inl rfl) (pe_lst (pa_cons pe_str (pa_cons pe_str (pa_cons pe_str (pa_cons pe_str (pa_cons pe_str (pa_cons pe_str (pa_cons pe_str (pa_cons pe_str (pa_cons pe_non (pa_cons pe_int (pa_cons pe_bl (pa_cons (pe_lst (pa_cons pe_str pa_nil)) (pa_cons (pe_tup (pa_cons pe_str pa_nil)) (pa_cons pe_dnewK pa_nil))))))))))))))))
      (pss_cons (ps_set (i := 4) sc_odd.nd rfl (.inl rfl) (pe_lst (pa_cons pe_str (pa_cons pe_str (pa_cons pe_str (pa_cons (pe_op op_mul_str pe_str pe_int) (pa_cons (pe_op op_mul_str pe_str pe_int) (pa_cons pe_non (pa_cons pe_int (pa_cons pe_bl (pa_cons pe_bl (pa_cons (pe_lst (pa_cons pe_str pa_nil)) (pa_cons (pe_tup (pa_cons pe_str pa_nil)) (pa_cons pe_dnewK pa_nil))))))))))))))
      (pss_cons (ps_set (i := 5) sc_odd.nd rfl (.inl rfl) (pe_lst (pa_cons pe_str (pa_cons pe_str (pa_cons pe_str (pa_cons pe_str (pa_cons pe_str (pa_cons pe_str (pa_cons pe_str (pa_cons (pe_op op_mul_str pe_str pe_int) (pa_cons (pe_op op_mul_str pe_str pe_int) (pa_cons pe_non (pa_cons pe_int (pa_cons pe_bl (pa_cons (pe_lst (pa_cons pe_str pa_nil)) (pa_cons (pe_tup (pa_cons pe_str pa_nil)) pa_nil))))))))))))))))
      (pss_cons (ps_set (i := 6) sc_odd.nd rfl (.inl rfl) (pe_ix ix_list (pe_lst (pa_cons (pv 2) (pa_cons (pv 3) (pa_cons (pv 2) (pa_cons (pv 4) (pa_cons (pv 5) pa_nil)))))) (pv 1) (fun _ _ => rfl)))
      (pss_one (ps_ret (pe_ix ix_list (pv 6) (pe_call G_take hr (by rfl) D_take.g D_take.F.kp D_take.b .nil pass0 (pa_cons (pv 0) (pa_cons (pe_callB call_len_seq (by rfl) m_len PySem.boot_len (pa_cons (pv 6) pa_nil)) pa_nil))) (fun _ _ => rfl))))))))), ?_⟩
    refine ⟨by show 16 ≤ sizeLine; decide, fun a1 n1 => go n1 fun H1 s1 e1 => ?_⟩
    refine ⟨.ref a1, rfl, by show 1 ≤ sizeLine; decide, fun b1 m1 => ?_⟩
    first | refine go m1 fun H2 s2 e2 => ?_ | refine goT m1 fun H2 s2 e2 => ?_
    refine ⟨by show 1 ≤ sizeLine; decide, fun b2 m2 => ?_⟩
    first | refine go m2 fun H3 s3 e3 => ?_ | refine goT m2 fun H3 s3 e3 => ?_
    intro b3 m3
    refine ⟨upd_same, [(Sum.inr (Str.ofString "a"), .int 1)], rfl, by decide, ?_⟩
    refine go2 m3 fun H4 s4 e4 => ?_
    refine ⟨by show 4 ≤ sizeLine; decide, fun b4 m4 => ?_⟩
    first | refine go m4 fun H5 s5 e5 => ?_ | refine goT m4 fun H5 s5 e5 => ?_
    have s25 : Same H1 H5 := ((s2.trans s3).trans s4).trans s5
    refine ⟨a1, b4, _, _, rfl, rfl, s25 _ _ e1, e5, by show 16 + 4 ≤ sizeLine; decide, fun a2 n2 => ?_⟩
    first | refine go n2 fun H6 s6 e6 => ?_ | refine goT n2 fun H6 s6 e6 => ?_
    have S6 : Same H H6 := (s1.trans s25).trans s6
    have T6 : ∀ {b : Addr} {o : HO}, H4 b = some o → H6 b = some o := fun {b o} e => s6 _ _ (s5 _ _ e)
    have A6 : AllT H6 ([.str (Str.ofString ""), .str (Str.ofString "-"), .str (Str.ofString "-a"), .str (Str.ofString "a-"), .str (Str.ofString "no-"), .str (Str.ofString "no-a"), .str (Str.ofString "A"), .str (Str.ofString "a b"), .str (Str.ofString "a_b"), .str (Str.ofString "abcdefghijk"), .str (Str.ofString "no"), .str (Str.ofString "n"), .str (Str.ofString "a--b"), .str (Str.ofString "non-a"), .non, .int 7] ++ [.bl true, .ref b1, .ref b2, .ref b3]) := by
      exact .app (allT_lit (by decide +kernel)) (.cons (.bl _) (.cons (.odd (T6 (s4 _ _ (s3 _ _ e2))) (.l1 ⟨by decide +kernel, by decide +kernel⟩)) (.cons (.odd (T6 (s4 _ _ e3)) (.t1 ⟨by decide +kernel, by decide +kernel⟩)) (.cons (.odd (T6 e4) (.d1 ⟨by decide +kernel, by decide +kernel⟩ (by decide) (by decide))) .nil))))
    -- manies
    refine ⟨by show 1 ≤ sizeLine; decide, fun c1 k1 => ?_⟩
    first | refine go k1 fun H7 s7 e7 => ?_ | refine goT k1 fun H7 s7 e7 => ?_
    refine ⟨by show 1 ≤ sizeLine; decide, fun c2 k2 => ?_⟩
    first | refine go k2 fun H8 s8 e8 => ?_ | refine goT k2 fun H8 s8 e8 => ?_
    intro c3 k3
    first | refine go k3 fun H9 s9 e9 => ?_ | refine goT k3 fun H9 s9 e9 => ?_
    refine ⟨by show 14 ≤ sizeLine; decide, fun a3 n3 => ?_⟩
    first | refine go n3 fun H10 s10 e10 => ?_ | refine goT n3 fun H10 s10 e10 => ?_
    have A10 : AllT H10 ([.str (Str.ofString "One"), .str (Str.ofString ""), .str (Str.ofString "ones"), .str (Str.ofString "one"), .str (Str.ofString "maybe"), .str (Str.ofString "some"), .str (Str.ofString "any"), .str (Str.ofString "flag"), .non, .int 1, .bl true] ++ [.ref c1, .ref c2, .ref c3]) := by
      exact .app (allT_lit (by decide +kernel)) (.cons (.odd (s10 _ _ (s9 _ _ (s8 _ _ e7))) (.l1 ⟨by decide +kernel, by decide +kernel⟩)) (.cons (.odd (s10 _ _ (s9 _ _ e8)) (.t1 ⟨by decide +kernel, by decide +kernel⟩)) (.cons (.odd (s10 _ _ e9) .d0) .nil)))
    -- defaults
    refine ⟨_, 60, rfl, rfl, by decide, by decide +kernel, fun y1 hy1 hc1 => ⟨_, 61, rfl, rfl, by decide, by decide +kernel, fun y2 hy2 hc2 => ⟨by show 1 ≤ sizeLine; decide, fun g1 j1 => ?_⟩⟩⟩
    first | refine go j1 fun H11 s11 e11 => ?_ | refine goT j1 fun H11 s11 e11 => ?_
    refine ⟨by show 1 ≤ sizeLine; decide, fun g2 j2 => ?_⟩
    first | refine go j2 fun H12 s12 e12 => ?_ | refine goT j2 fun H12 s12 e12 => ?_
    intro g3 j3
    first | refine go j3 fun H13 s13 e13 => ?_ | refine goT j3 fun H13 s13 e13 => ?_
    refine ⟨by show 12 ≤ sizeLine; decide, fun a4 n4 => ?_⟩
    first | refine go n4 fun H14 s14 e14 => ?_ | refine goT n4 fun H14 s14 e14 => ?_
    have ly : (Str.ofString "y").length = 1 := by decide +kernel
    have py : ∀ c ∈ tl (Str.ofString "y"), c < 256 := by decide +kernel
    rw [ly] at hy1 hy2
    have ty1 : Tx 300 y1 := ⟨by omega, fun c h => py c (hc1 c h)⟩
    have ty2 : Tx 300 y2 := ⟨by omega, fun c h => py c (hc2 c h)⟩
    have A14 : AllT H14 ([.str (Str.ofString ""), .str (Str.ofString "x"), .str (Str.ofString "-x")] ++ [.str y1, .str y2] ++ [.non, .int 7, .bl true, .bl false] ++ [.ref g1, .ref g2, .ref g3]) := by
      exact .app (.app (.app (allT_lit (by decide +kernel)) (.cons (.str ty1) (.cons (.str ty2) .nil))) (allT_lit (by decide +kernel))) (.cons (.odd (s14 _ _ (s13 _ _ (s12 _ _ e11))) (.l1 ⟨by decide +kernel, by decide +kernel⟩)) (.cons (.odd (s14 _ _ (s13 _ _ e12)) (.t1 ⟨by decide +kernel, by decide +kernel⟩)) (.cons (.odd (s14 _ _ e13) .d0) .nil)))
    -- abouts
    refine ⟨_, 200, rfl, rfl, by decide, by decide +kernel, fun y3 hy3 hc3 => ⟨_, 201, rfl, rfl, by decide, by decide +kernel, fun y4 hy4 hc4 => ⟨by show 1 ≤ sizeLine; decide, fun f1 i1' => ?_⟩⟩⟩
    first | refine go i1' fun H15 s15 e15 => ?_ | refine goT i1' fun H15 s15 e15 => ?_
    refine ⟨by show 1 ≤ sizeLine; decide, fun f2 i2 => ?_⟩
    first | refine go i2 fun H16 s16 e16 => ?_ | refine goT i2 fun H16 s16 e16 => ?_
    refine ⟨by show 14 ≤ sizeLine; decide, fun a5 n5 => ?_⟩
    first | refine go n5 fun H17 s17 e17 => ?_ | refine goT n5 fun H17 s17 e17 => ?_
    have lb : (Str.ofString "b").length = 1 := by decide +kernel
    have pb : ∀ c ∈ tl (Str.ofString "b"), c < 256 := by decide +kernel
    rw [lb] at hy3 hy4
    have ty3 : Tx 300 y3 := ⟨by omega, fun c h => pb c (hc3 c h)⟩
    have ty4 : Tx 300 y4 := ⟨by omega, fun c h => pb c (hc4 c h)⟩
    have A17 : AllT H17 ([.str (Str.ofString ""), .str (Str.ofString " "), .str (Str.ofString "a"), .str (Str.ofString "a b"), .str (Str.ofString " a"), .str (Str.ofString "a "), .str (Str.ofString "a  b")] ++ [.str y3, .str y4] ++ [.non, .int 7, .bl false] ++ [.ref f1, .ref f2]) := by
      exact .app (.app (.app (allT_lit (by decide +kernel)) (.cons (.str ty3) (.cons (.str ty4) .nil))) (allT_lit (by decide +kernel))) (.cons (.odd (s17 _ _ (s16 _ _ e15)) (.l1 ⟨by decide +kernel, by decide +kernel⟩)) (.cons (.odd (s17 _ _ e16) (.t1 ⟨by decide +kernel, by decide +kernel⟩)) .nil))
    -- the one that is asked
    have S10 : Same H6 H10 := ((s7.trans s8).trans s9).trans s10
    have S14 : Same H10 H14 := ((s11.trans s12).trans s13).trans s14
    have S17 : Same H14 H17 := (s15.trans s16).trans s17
    refine ⟨_, rfl, _, rfl, _, rfl, _, rfl, _, rfl, by show 5 ≤ sizeLine; decide, fun a6 n6 => ?_⟩
    first | refine goT n6 fun H18 s18 e18 => ?_ | refine go n6 fun H18 s18 e18 => ?_
    have B6 := A6.same ((S10.trans S14).trans (S17.trans s18))
    have B10 := A10.same (S14.trans (S17.trans s18))
    have B14 := A14.same (S17.trans s18)
    have B17 := A17.same s18
    have E6 := ((S10.trans S14).trans (S17.trans s18)) _ _ e6
    have E10 := (S14.trans (S17.trans s18)) _ _ e10
    have E14 := (S17.trans s18) _ _ e14
    have E17 := s18 _ _ e17
    have SS : Same H H18 := ((S6.trans S10).trans S14).trans (S17.trans s18)
    have fin : ∀ (aa : Addr) (L : List V), H18 aa = some (.lst L) → AllT H18 L → 0 < L.length → L.length ≤ 20 → aa ≠ p →
        (tRet (tOp (rIxL K) (tVar 6) (tCall spTake [] E0 (tCons (tVar 0) (tCons (tCB (fun xs H Q => ∃ p ys, xs = [.ref p] ∧ (SqL K H p ys ∨ SqT K H p ys) ∧ Q (.int ys.length) H) (tCons (tVar 6) tNil)) tNil))))) { nx := fun _ H' => Q .non H', rt := Q } [some (.ref p), some (.int i), some (.ref a2), some (.ref a3), some (.ref a4), some (.ref a5), some (.ref aa)] H18 := by
      intro aa L eL aL h0 h1 nap
      refine ⟨_, rfl, .ref p, rfl, _, rfl, aa, L, rfl, .inl (SqL.of eL), p, L.length, rfl, hp.same SS, by omega, by omega, fun H19 d b19 p19 d0 d1 => ?_⟩
      obtain ⟨v, hv, ev⟩ := at_any L d d0 d1
      exact ⟨aa, L, d, v, rfl, rfl, SqL.of (b19 _ _ nap eL), ev, q _ v ((But.of_same SS).trans b19) p19 ((aL v hv).but (hp.same SS) b19)⟩
    have N2 : a2 ≠ p := ((hp.same (s1.trans s25)).ne n2).symm
    have N3 : a3 ≠ p := ((hp.same (S6.trans ((s7.trans s8).trans s9))).ne n3).symm
    have N4 : a4 ≠ p := ((hp.same ((S6.trans S10).trans ((s11.trans s12).trans s13))).ne n4).symm
    have N5 : a5 ≠ p := ((hp.same (((S6.trans S10).trans S14).trans (s15.trans s16))).ne n5).symm
    have hi : i = 0 ∨ i = 1 ∨ i = 2 ∨ i = 3 ∨ i = 4 := by omega
    rcases hi with rfl | rfl | rfl | rfl | rfl
    · exact ⟨_, rfl, a6, _, 0, .ref a2, rfl, rfl, SqL.of e18, atI_nat (j := 0) rfl, fin a2 _ E6 B6 (by show 0 < 20; decide) (by show 20 ≤ 20; decide) N2⟩
    · exact ⟨_, rfl, a6, _, 1, .ref a3, rfl, rfl, SqL.of e18, atI_nat (j := 1) rfl, fin a3 _ E10 B10 (by show 0 < 14; decide) (by show 14 ≤ 20; decide) N3⟩
    · exact ⟨_, rfl, a6, _, 2, .ref a2, rfl, rfl, SqL.of e18, atI_nat (j := 2) rfl, fin a2 _ E6 B6 (by show 0 < 20; decide) (by show 20 ≤ 20; decide) N2⟩
    · exact ⟨_, rfl, a6, _, 3, .ref a4, rfl, rfl, SqL.of e18, atI_nat (j := 3) rfl, fin a4 _ E14 B14 (by show 0 < 12; decide) (by show 12 ≤ 20; decide) N4⟩
    · exact ⟨_, rfl, a6, _, 4, .ref a5, rfl, rfl, SqL.of e18, atI_nat (j := 4) rfl, fin a5 _ E17 B17 (by show 0 < 14; decide) (by show 14 ≤ 20; decide) N5⟩
end
end WB

set_option Elab.async false
set_option linter.all false
set_option maxRecDepth 100000
set_option maxHeartbeats 4000000
namespace WB
open PySem PySem.Spec PyProof.Rows L2 WG
open TL (tl)
abbrev st_wrong : Stmt := topS 30
theorem sc_wrong : FnScope ["_law_told", "_law_taken", "_law_word", "_law_looks", "_law_bad", "_law_field", "_law_good_here"] ["_law_told"] (defScope st_wrong) := ⟨rfl, rfl, rfl, by decide +kernel, rfl, by decide +kernel, by decide +kernel⟩
abbrev st_due : Stmt := topS 31
theorem sc_due : FnScope ["_law_told", "_law_way", "_law_due_here"] ["_law_told", "_law_way"] (defScope st_due) := ⟨rfl, rfl, rfl, by decide +kernel, rfl, by decide +kernel, by decide +kernel⟩
section
variable {P : Program} {w : World} {K : PySem.W.Frag} {mg : Str → Option Value} {base : Heap}
/-- an expression's value, once for all that follows -/
theorem ev_use {t : TE} {σ : L2.St} {H : Hp} {v : V} {R : VK} (e : ∀ R : VK, R v H → t σ H R) (c : R v H) : t σ H R := e R c
theorem goU {R : Hp → Prop} {H : Hp} {a : Addr} {o : HO} (h : ∀ H', But a H H' → H' a = some o → R H') : R (upd H a o) := h _ (But.upd _ _ _) upd_same
theorem But.seq {K : PySem.W.Frag} {H H' : Hp} {a p : Addr} {xs : List V} (b : But p H H') (n : a ≠ p) (h : SqL K H a xs) : SqL K H' a xs := by
  rcases h with (h | ⟨o, h⟩) | h
  · exact .inl (.inl (b _ _ n h))
  · exact .inl (.inr ⟨o, b _ _ n h⟩)
  · exact .inr h
theorem Thg.butl {H H' : Hp} {p : Addr} {v : V} {L : List V} (h : Thg H v) (hp : H p = some (.lst L)) (h2 : 2 ≤ L.length) (b : But p H H') : Thg H' v := by
  cases h with
  | non => exact .non
  | bl b => exact .bl b
  | int h0 h1 => exact .int h0 h1
  | str h => exact .str h
  | odd e h =>
    refine .odd (b _ _ (fun z => ?_) e) h
    rw [z, hp] at e
    cases e
    have := Odd.ne h
    omega
/-! ### _law_wrong -/
def firstBad (lk : List (Str × Bool)) : List Str := (lk.filter fun p => !p.2).map (·.1)
def spWrong : Sp := fun vs H Q _ => ∃ (a : Addr) (v0 v1 v2 v3 v4 : V), vs = [.ref a] ∧ H a = some (.lst [v0, v1, v2, v3, v4]) ∧ AllT H [v0, v1, v2, v3, v4] ∧ ∀ H', Same H H' → Q (.str (wrongF v0 v1 v2 v3 v4)) H'
def taken (v : V) : Str := match v with
  | .str z => z
  | _ => Str.ofString "none"
theorem among_taken (v : V) : inV (.str (taken v)) (manies.map V.str) = among v manies := by
  cases v with
  | str z => rfl
  | _ => exact (by decide +kernel : inV (.str (Str.ofString "none")) (manies.map V.str) = false)
theorem mb_taken (v : V) : decide (V.str (taken v) = V.str (Str.ofString "maybe")) = isMb v := by
  cases v with
  | str z => rfl
  | _ => exact (by decide +kernel : decide (V.str (Str.ofString "none") = V.str (Str.ofString "maybe")) = false)
def looksOf (v0 v1 v2 v3 v4 : V) : List (Str × Bool) := [(Str.ofString "name", isNm v0), (Str.ofString "many", among v1 manies), (Str.ofString "maker", isNm v2), (Str.ofString "default", dflt v3 (isMb v1)), (Str.ofString "about", isAb v4)]
theorem bad_first (v0 v1 v2 v3 v4 : V) : (firstBad (looksOf v0 v1 v2 v3 v4) = [] ∧ wrongF v0 v1 v2 v3 v4 = Str.ofString "") ∨ ∃ r, firstBad (looksOf v0 v1 v2 v3 v4) = wrongF v0 v1 v2 v3 v4 :: r := by
  unfold firstBad looksOf wrongF
  cases isNm v0 <;> cases among v1 manies <;> cases isNm v2 <;> cases dflt v3 (isMb v1) <;> cases isAb v4 <;> first | exact .inl ⟨rfl, rfl⟩ | exact .inr ⟨_, rfl⟩
theorem bad_plain (v0 v1 v2 v3 v4 : V) : ∀ y ∈ firstBad (looksOf v0 v1 v2 v3 v4), PyData.strOk y = true := by
  intro y hy
  obtain ⟨p, hp, rfl⟩ := List.mem_map.mp hy
  have h := (List.mem_filter.mp hp).1
  unfold looksOf at h
  have key : p.1 ∈ [Str.ofString "name", Str.ofString "many", Str.ofString "maker", Str.ofString "default", Str.ofString "about"] := by
    have := List.mem_map_of_mem (f := Prod.fst) h
    exact this
  exact (by decide +kernel : ∀ z ∈ [Str.ofString "name", Str.ofString "many", Str.ofString "maker", Str.ofString "default", Str.ofString "about"], PyData.strOk z = true) _ key
theorem ok_wrong {f fN fA : Addr} {fd fdN fdA : FuncData} {k : Nat} (F : Fun K "_law_wrong" "_law_wrong" st_wrong f fd) (D_w_is_name : Df K mg "_law_is_name" st_w_is_name ["_law_thing"] fN fdN) (D_w_is_about : Df K mg "_law_is_about" st_w_is_about ["_law_thing"] fA fdA)
    (m_len : mg "len" = none) (m_str : mg "str" = none) (m_isinstance : mg "isinstance" = none) : FnOk P w K mg base CX0 (k + 2) f fd ["_law_told"] spWrong := by
  have G_w_is_name : FnOk P w K mg base CX0 (k + 1) fN fdN ["_law_thing"] (spOf isNm) := ok_wName D_w_is_name.F m_len m_str m_isinstance
  have G_w_is_about : FnOk P w K mg base CX0 (k + 1) fA fdA ["_law_thing"] (spOf isAb) := ok_wAbout D_w_is_about.F m_len m_str m_isinstance
  refine F.ok sc_wrong (fun vs H Q E h => ?_) (fun cdv A outer s H vs Q E hr h => ?_)
  · obtain ⟨a, v0, v1, v2, v3, v4, rfl, _⟩ := h
    rfl
  · obtain ⟨a, v0, v1, v2, v3, v4, rfl, hA, hT, q⟩ := h
    have hS : SqL K H a [v0, v1, v2, v3, v4] := SqL.of hA
    have t0 : Thg H v0 := hT v0 (by simp)
    have t1 : Thg H v1 := hT v1 (by simp)
    have t2 : Thg H v2 := hT v2 (by simp)
    have t3 : Thg H v3 := hT v3 (by simp)
    have t4 : Thg H v4 := hT v4 (by simp)
    refine ⟨_, pss_cons (ps_set (i := 1) sc_wrong.nd rfl (.inl rfl) (pe_ifExp (pt_val (pe_callB call_isi (by rfl) m_isinstance (by decide +kernel) (pa_cons (pe_ix ix_list (pv 0) pe_int (fun _ _ => rfl)) (pa_cons (pe_bltn (v := .ty "str") (by rfl) m_str (by decide +kernel) rfl) pa_nil)))) (pe_ix ix_list (pv 0) pe_int (fun _ _ => rfl)) pe_str))
      (pss_cons (ps_set (i := 2) sc_wrong.nd rfl (.inl rfl) (pe_ix ix_list (pv 0) pe_int (fun _ _ => rfl)))
      (pss_cons (ps_set (i := 3) sc_wrong.nd rfl (.inl rfl) (pe_lst (pa_cons (pe_tup (pa_cons pe_str (pa_cons (pe_call G_w_is_name hr (by rfl) D_w_is_name.g D_w_is_name.F.kp D_w_is_name.b .nil pass0 (pa_cons (pe_ix ix_list (pv 0) pe_int (fun _ _ => rfl)) pa_nil)) pa_nil))) (pa_cons (pe_tup (pa_cons pe_str (pa_cons (pe_cmpR op_in_seq (pv 1) (pe_tup (pa_cons pe_str (pa_cons pe_str (pa_cons pe_str (pa_cons pe_str pa_nil))))) (by rfl)) pa_nil))) pa_nil))))
      (pss_cons (ps_expr (pe_bm PySem.F.plainAttrs_list PySem.F.slot_list_append PySem.F.type_list_append mt_append (pv 3) (pa_cons (pe_tup (pa_cons pe_str (pa_cons (pe_call G_w_is_name hr (by rfl) D_w_is_name.g D_w_is_name.F.kp D_w_is_name.b .nil pass0 (pa_cons (pe_ix ix_list (pv 0) pe_int (fun _ _ => rfl)) pa_nil)) pa_nil))) pa_nil)))
      (pss_cons (ps_expr (pe_bm PySem.F.plainAttrs_list PySem.F.slot_list_append PySem.F.type_list_append mt_append (pv 3) (pa_cons (pe_tup (pa_cons pe_str (pa_cons (pe_or (pe_cmpR op_isN (pv 2) pe_non (nomark _)) (pe_one (pe_and (pe_cmpR op_eq (pv 1) pe_str (nomark _)) (pe_and (pe_callB call_isi (by rfl) m_isinstance (by decide +kernel) (pa_cons (pv 2) (pa_cons (pe_bltn (v := .ty "str") (by rfl) m_str (by decide +kernel) rfl) pa_nil))) (pe_one (pe_cmpR op_lt (pe_callB call_len_str (by rfl) m_len PySem.boot_len (pa_cons (pv 2) pa_nil)) pe_int (nomark _))))))) pa_nil))) pa_nil)))
      (pss_cons (ps_expr (pe_bm PySem.F.plainAttrs_list PySem.F.slot_list_append PySem.F.type_list_append mt_append (pv 3) (pa_cons (pe_tup (pa_cons pe_str (pa_cons (pe_call G_w_is_about hr (by rfl) D_w_is_about.g D_w_is_about.F.kp D_w_is_about.b .nil pass0 (pa_cons (pe_ix ix_list (pv 0) pe_int (fun _ _ => rfl)) pa_nil)) pa_nil))) pa_nil)))
      (pss_cons (ps_setLc (i := 4) (own := [("_law_field", 5), ("_law_good_here", 6)]) (g := gTup K 2 (gCons (gName 5) (gCons (gName 6) gNil)))  rfl sc_wrong.nd rfl rfl (sw_true rfl rfl rfl (by decide +kernel)) (pi_list (pv 3)) (blkOk_by (N := ["_law_told", "_law_taken", "_law_word", "_law_looks", "_law_bad", "_law_field", "_law_good_here"]) (sc := defScope st_wrong) (by decide +kernel)) (fun _ _ _ _ _ => (pg_tup rfl (pgs_cons (pg_name (i := 5) sc_wrong.nd rfl (Or.inl rfl)) (pgs_cons (pg_name (i := 6) sc_wrong.nd rfl (Or.inl rfl)) pgs_nil)))) (fun _ _ _ _ _ => pts_one (pt_not (pt_val (pv 6)))) (fun _ _ _ _ _ => (pv 5)))
      (pss_one (ps_ret (pe_ifExp (pt_cmpR (op_neD hr.units) (pv 4) (pe_lst pa_nil) (nomark _)) (pe_ix ix_list (pv 4) pe_int (fun _ _ => rfl)) pe_str))))))))), ?_⟩
    obtain ⟨ty1, ht1, hk1⟩ := t1.isi (K := K)
    obtain ⟨ty3, ht3, hk3⟩ := t3.isi (K := K)
    refine ⟨.ref a, rfl, a, _, 1, v1, rfl, rfl, hS, atI_nat (j := 1) rfl, v1, _, ty1, _, isS v1, rfl, ClsV.ty "str", ht1, hk1, _, rfl, ?_⟩
    have join : ∀ (σ : L2.St) (R : VK), σ[0]? = some (some (.ref a)) → R (.str (taken v1)) H → (if isS v1 = true then (tOp (rIxL K) (tVar 0) (tC (.int 1))) σ H R else (tC (.str (Str.ofString "none"))) σ H R) := by
      intro σ R h0 h
      cases v1 with
      | str z => exact ⟨_, h0, a, _, 1, .str z, rfl, rfl, hS, atI_nat (j := 1) rfl, h⟩
      | _ => exact h
    refine join _ _ rfl ?_
    refine ⟨.ref a, rfl, a, _, 3, v3, rfl, rfl, hS, atI_nat (j := 3) rfl, ?_⟩
    -- name, many
    refine ⟨.ref a, rfl, a, _, 0, v0, rfl, rfl, hS, atI_nat (j := 0) rfl, v0, rfl, t0, fun H1 s1 => ⟨by show 2 ≤ sizeLine; decide, fun b0 m0 => ?_⟩⟩
    first | refine go m0 fun H2 s2 e2 => ?_ | refine goT m0 fun H2 s2 e2 => ?_
    refine ⟨_, rfl, by show 4 ≤ sizeLine; decide, fun x1 nx1 => ?_⟩
    first | refine go nx1 fun H3 s3 e3 => ?_ | refine goT nx1 fun H3 s3 e3 => ?_
    refine ⟨x1, manies.map V.str, rfl, .inr (SqT.of e3), rfl, strs_flat _, by show 2 ≤ sizeLine; decide, fun b1 m1 => ?_⟩
    first | refine go m1 fun H4 s4 e4 => ?_ | refine goT m1 fun H4 s4 e4 => ?_
    refine ⟨by show 2 ≤ sizeLine; decide, fun l nl => ?_⟩
    first | refine go nl fun H5 s5 e5 => ?_ | refine goT nl fun H5 s5 e5 => ?_
    have S5 : Same H H5 := (((s1.trans s2).trans s3).trans s4).trans s5
    -- maker
    refine ⟨.ref l, rfl, .inl ⟨rfl, _, SqL.of e5⟩, .ref a, rfl, a, _, 2, v2, rfl, rfl, S5.seq hS, atI_nat (j := 2) rfl, v2, rfl, t2.same S5, fun H6 s6 => ⟨by show 2 ≤ sizeLine; decide, fun b2 m2 => ?_⟩⟩
    first | refine go m2 fun H7 s7 e7 => ?_ | refine goT m2 fun H7 s7 e7 => ?_
    have e5a : H7 l = some (.lst [.ref b0, .ref b1]) := s7 _ _ (s6 _ _ e5)
    refine ⟨l, _, _, rfl, rfl, e5a, by show 2 < sizeLine; decide, ?_⟩
    refine goU fun H8 u8 e8 => ?_
    have nb : ∀ {b : Addr} {o : HO}, H7 b = some o → (∀ L, o ≠ .lst L) → b ≠ l := fun {b o} e no z => by
      rw [z, e5a] at e
      cases e
      exact no _ rfl
    have nal : a ≠ l := ne_of_none ((((s1.trans s2).trans s3).trans s4) _ _ hA) nl
    have E0 : H8 b0 = some (.tup [.str (Str.ofString "name"), .bl (isNm v0)]) := u8 _ _ (nb (s7 _ _ (s6 _ _ (s5 _ _ (s4 _ _ (s3 _ _ e2))))) (fun L z => by cases z)) (s7 _ _ (s6 _ _ (s5 _ _ (s4 _ _ (s3 _ _ e2)))))
    have E1 : H8 b1 = some (.tup [.str (Str.ofString "many"), .bl (among v1 manies)]) := by
      rw [← among_taken]
      exact u8 _ _ (nb (s7 _ _ (s6 _ _ (s5 _ _ e4))) (fun L z => by cases z)) (s7 _ _ (s6 _ _ (s5 _ _ e4)))
    have E2 : H8 b2 = some (.tup [.str (Str.ofString "maker"), .bl (isNm v2)]) := u8 _ _ (nb e7 (fun L z => by cases z)) e7
    have S7 : Same H H7 := (S5.trans s6).trans s7
    have T3 : Thg H8 v3 := (t3.same S7).butl e5a (by show 2 ≤ 2; decide) u8
    have T4 : Thg H8 v4 := (t4.same S7).butl e5a (by show 2 ≤ 2; decide) u8
    -- default
    refine ⟨.ref l, rfl, .inl ⟨rfl, _, SqL.of e8⟩, ?_⟩
    refine ev_use (t := tOrV _ _) (v := .bl (dflt v3 (isMb v1))) (fun R c => ?_) ?_
    · refine ⟨v3, rfl, rfl, _, rfl, ite2 (fun e => ?_) (fun e => ?_)⟩
      · unfold dflt at c
        rw [e] at c
        exact c
      · unfold dflt at c
        rw [Bool.eq_false_iff.mpr e, Bool.false_or, ← mb_taken] at c
        refine ⟨_, rfl, rfl, _, rfl, ite2 (fun e => ?_) (fun e => ?_)⟩
        · rw [e, Bool.true_and] at c
          obtain ⟨ty8, ht8, hk8⟩ := T3.isi (K := K)
          refine ⟨v3, rfl, v3, _, ty8, _, isS v3, rfl, ClsV.ty "str", ht8, hk8, _, rfl, ?_⟩
          cases v3 with
          | str z =>
            refine ⟨_, rfl, z, rfl, Nat.le_trans T3.tx.le (by decide), _, _, rfl, rfl, ?_⟩
            have ew : decide ((z.length : Int) < 61) = within (.str z) 60 := decide_eq_decide.mpr ⟨fun h => by omega, fun h => by omega⟩
            show R (.bl (decide ((z.length : Int) < 61))) H8
            rw [ew]
            exact c
          | _ => exact c
        · rw [Bool.eq_false_iff.mpr e] at c
          exact c
    refine ⟨by show 2 ≤ sizeLine; decide, fun b3 m3 => ?_⟩
    first | refine go m3 fun H9 s9 e9 => ?_ | refine goT m3 fun H9 s9 e9 => ?_
    refine ⟨l, _, _, rfl, rfl, s9 _ _ e8, by show 3 < sizeLine; decide, ?_⟩
    refine goU fun H10 u10 e10 => ?_
    have nb9 : ∀ {b : Addr} {xs : List V}, H9 b = some (.tup xs) → b ≠ l := fun {b xs} e z => by
      rw [z, s9 _ _ e8] at e
      cases e
    have nab : ∀ {b : Addr} {xs : List V}, H9 b = some (.tup xs) → H10 b = some (.tup xs) := fun {b xs} e => u10 _ _ (nb9 e) e
    have A8 : H8 a = some (.lst [v0, v1, v2, v3, v4]) := u8 _ _ nal (S7 _ _ hA)
    have A10 : H10 a = some (.lst [v0, v1, v2, v3, v4]) := u10 _ _ nal (s9 _ _ A8)
    have T4' : Thg H10 v4 := (T4.same s9).butl (s9 _ _ e8) (by show 2 ≤ 3; decide) u10
    -- about
    refine ⟨.ref l, rfl, .inl ⟨rfl, _, SqL.of e10⟩, .ref a, rfl, a, _, 4, v4, rfl, rfl, SqL.of A10, atI_nat (j := 4) rfl, v4, rfl, T4', fun H11 s11 => ⟨by show 2 ≤ sizeLine; decide, fun b4 m4 => ?_⟩⟩
    first | refine go m4 fun H12 s12 e12 => ?_ | refine goT m4 fun H12 s12 e12 => ?_
    have s10 := s11.trans s12
    refine ⟨l, _, _, rfl, rfl, s10 _ _ e10, by show 4 < sizeLine; decide, ?_⟩
    refine goU fun H13 u13 e13 => ?_
    have nb13 : ∀ {b : Addr} {xs : List V}, H12 b = some (.tup xs) → H13 b = some (.tup xs) := fun {b xs} e => u13 _ _ (fun z => by
      rw [z, s10 _ _ e10] at e
      cases e) e
    have F0 := nb13 (s10 _ _ (nab (s9 _ _ E0)))
    have F1 := nb13 (s10 _ _ (nab (s9 _ _ E1)))
    have F2 := nb13 (s10 _ _ (nab (s9 _ _ E2)))
    have F3 : H13 b3 = some (.tup [.str (Str.ofString "default"), .bl (dflt v3 (isMb v1))]) := nb13 (s10 _ _ (nab e9))
    have F4 : H13 b4 = some (.tup [.str (Str.ofString "about"), .bl (isAb v4)]) := nb13 e12
    have K13 : Same H H13 := by
      intro b o e
      have hb : b ≠ l := ne_of_none ((((s1.trans s2).trans s3).trans s4) _ _ e) nl
      exact u13 _ _ hb (s10 _ _ (u10 _ _ hb (s9 _ _ (u8 _ _ hb (S7 _ _ e)))))
    -- the comprehension
    refine ⟨.ref l, rfl, l, rfl, ⟨_, SqL.of e13⟩, fun D nD => ?_⟩
    have at_ : ∀ (i : Nat) (x : V), [V.ref b0, .ref b1, .ref b2, .ref b3, .ref b4][i]? = some x → ∃ (t : Addr) (p : Str × Bool), (looksOf v0 v1 v2 v3 v4)[i]? = some p ∧ x = .ref t ∧ H13 t = some (.tup [.str p.1, .bl p.2]) := by
      intro i x hx
      match i, hx with
      | 0, hx => exact ⟨b0, _, rfl, (Option.some.inj hx).symm, F0⟩
      | 1, hx => exact ⟨b1, _, rfl, (Option.some.inj hx).symm, F1⟩
      | 2, hx => exact ⟨b2, _, rfl, (Option.some.inj hx).symm, F2⟩
      | 3, hx => exact ⟨b3, _, rfl, (Option.some.inj hx).symm, F3⟩
      | 4, hx => exact ⟨b4, _, rfl, (Option.some.inj hx).symm, F4⟩
      | i + 5, hx => cases hx
    refine lc_list (K := K) (a := l) (xs := [V.ref b0, .ref b1, .ref b2, .ref b3, .ref b4]) (fun i Hc => Same H13 Hc ∧ Hc D = some (.lst ((firstBad ((looksOf v0 v1 v2 v3 v4).take i)).map V.str))) ⟨same_upd nD, upd_same⟩ (fun i Hc _ ⟨sc, _⟩ => SqL.of (sc _ _ e13)) (fun i x Hc hx ⟨sc, eD⟩ => ?_) (fun Hc ⟨sc, eD⟩ => ?_)
    · obtain ⟨t, ⟨pn, pb⟩, hp, rfl, et⟩ := at_ i x hx
      refine ⟨t, _, rfl, SqT.of (sc _ _ et), rfl, _, _, rfl, _, _, rfl, rfl, rfl, ?_⟩
      have etk : (looksOf v0 v1 v2 v3 v4).take (i + 1) = (looksOf v0 v1 v2 v3 v4).take i ++ [(pn, pb)] := by
        rw [List.take_add_one, hp]
        rfl
      refine ⟨_, rfl, _, rfl, ?_⟩
      cases pb with
      | true =>
        refine ⟨sc, ?_⟩
        rw [etk]
        unfold firstBad at eD ⊢
        rw [List.filter_append, List.filter_cons_of_neg (fun h => by cases h), List.filter_nil, List.append_nil]
        exact eD
      | false =>
        refine ⟨_, rfl, _, eD, ?_, ?_, ?_⟩
        · rw [List.length_map]
          unfold firstBad
          rw [List.length_map]
          refine Nat.lt_of_le_of_lt (List.length_filter_le _ _) ?_
          rw [List.length_take]
          exact small1000 (Nat.le_trans (Nat.min_le_right _ _) (by show 5 ≤ 1000; decide))
        · intro b o e
          rw [upd_ne (ne_of_none e nD)]
          exact sc b o e
        · rw [upd_same, etk]
          unfold firstBad
          rw [List.filter_append, List.filter_cons_of_pos (by rfl), List.filter_nil, List.map_append, List.map_append]
          rfl
    · have eF : (looksOf v0 v1 v2 v3 v4).take [V.ref b0, V.ref b1, V.ref b2, V.ref b3, V.ref b4].length = looksOf v0 v1 v2 v3 v4 := rfl
      rw [eF] at eD
      refine ⟨.ref D, rfl, Nat.zero_le _, fun p np => ?_⟩
      first | refine goT np fun H15 s15 e15 => ?_ | refine go np fun H15 s15 e15 => ?_
      refine ⟨_, _, .lst (SqL.of (s15 _ _ eD)) (dp_strs _), .lst (SqL.of e15) .nil, shaped_strs _ (bad_plain _ _ _ _ _), by decide +kernel, _, rfl, ?_⟩
      rw [eqv_nil, List.isEmpty_map]
      have KK : Same H H15 := (K13.trans sc).trans s15
      rcases bad_first v0 v1 v2 v3 v4 with ⟨h1, h2⟩ | ⟨r, h1⟩
      · have q' := q _ KK
        rw [h2] at q'
        rw [h1]
        exact q'
      · rw [h1]
        refine ⟨.ref D, rfl, D, _, 0, .str (wrongF v0 v1 v2 v3 v4), rfl, rfl, SqL.of (s15 _ _ eD), ?_, q _ KK⟩
        rw [h1]
        exact atI_nat (j := 0) rfl
/-! ### _law_due -/
def dueV (way : Int) (v0 v1 v2 v3 v4 : V) : List V := if way = 2 then [v0, .str (Str.ofString "one"), .str (Str.ofString "word"), .non, .str (Str.ofString "")] else if way = 3 then [v0, v1, .str (Str.ofString "word"), v3, .str (Str.ofString "")] else [v0, v1, v2, v3, v4]
def spDue : Sp := fun vs H Q _ => ∃ (a : Addr) (way : Int) (v0 v1 v2 v3 v4 : V), vs = [.ref a, .int way] ∧ H a = some (.lst [v0, v1, v2, v3, v4]) ∧ ∀ H' l, Same H H' → H l = none → H' l = some (.lst (dueV way v0 v1 v2 v3 v4)) → Q (.ref l) H'
theorem ok_due {f : Addr} {fd : FuncData} {k : Nat} (F : Fun K "_law_due" "_law_due" st_due f fd) (m_list : mg "list" = none) : FnOk P w K mg base CX0 (k + 1) f fd ["_law_told", "_law_way"] spDue := by
  refine F.ok sc_due (fun vs H Q E h => ?_) (fun cdv A outer s H vs Q E hr h => ?_)
  · obtain ⟨a, way, v0, v1, v2, v3, v4, rfl, _⟩ := h
    rfl
  · obtain ⟨a, way, v0, v1, v2, v3, v4, rfl, hA, q⟩ := h
    refine ⟨_, pss_cons (ps_set (i := 2) sc_due.nd rfl (.inl rfl) (pe_callTy call_list_of (by rfl) m_list (by decide +kernel) (pa_cons (pv 0) pa_nil)))
      (pss_cons (ps_if (pt_cmpR op_eq (pv 1) pe_int (nomark _)) (pss_one (ps_set (i := 2) sc_due.nd rfl (.inl rfl) (pe_lst (pa_cons (pe_ix ix_list (pv 0) pe_int (fun _ _ => rfl)) (pa_cons pe_str (pa_cons pe_str (pa_cons pe_non (pa_cons pe_str pa_nil)))))))) pss_nil)
      (pss_cons (ps_if (pt_cmpR op_eq (pv 1) pe_int (nomark _)) (pss_one (ps_set (i := 2) sc_due.nd rfl (.inl rfl) (pe_lst (pa_cons (pe_ix ix_list (pv 0) pe_int (fun _ _ => rfl)) (pa_cons (pe_ix ix_list (pv 0) pe_int (fun _ _ => rfl)) (pa_cons pe_str (pa_cons (pe_ix ix_list (pv 0) pe_int (fun _ _ => rfl)) (pa_cons pe_str pa_nil)))))))) pss_nil)
      (pss_one (ps_ret (pv 2))))), ?_⟩
    refine ⟨.ref a, rfl, a, _, rfl, .inl (SqL.of hA), fun l nl => ?_⟩
    first | refine go nl fun H1 s1 e1 => ?_ | refine goT nl fun H1 s1 e1 => ?_
    have A1 : SqL K H1 a [v0, v1, v2, v3, v4] := SqL.of (s1 _ _ hA)
    refine ⟨_, rfl, rfl, _, rfl, ite2 (fun e => ?_) (fun e => ?_)⟩
    · have e2 : way = 2 := V.int.inj (of_decide_eq_true e)
      subst e2
      refine ⟨.ref a, rfl, a, _, 0, v0, rfl, rfl, A1, atI_nat (j := 0) rfl, by show 5 ≤ sizeLine; decide, fun l2 nl2 => ?_⟩
      first | refine go nl2 fun H2 s2 e2 => ?_ | refine goT nl2 fun H2 s2 e2 => ?_
      refine ⟨_, rfl, rfl, _, rfl, ite2 (fun e => ?_) (fun e => ?_)⟩
      · exact absurd (V.int.inj (of_decide_eq_true e)) (by decide)
      · exact ⟨_, rfl, q _ _ (s1.trans s2) (s1.free nl2) e2⟩
    · have n2 : way ≠ 2 := fun c => e (decide_eq_true (by rw [c]))
      refine ⟨_, rfl, rfl, _, rfl, ite2 (fun e => ?_) (fun e => ?_)⟩
      · have e3 : way = 3 := V.int.inj (of_decide_eq_true e)
        subst e3
        refine ⟨.ref a, rfl, a, _, 0, v0, rfl, rfl, A1, atI_nat (j := 0) rfl, .ref a, rfl, a, _, 1, v1, rfl, rfl, A1, atI_nat (j := 1) rfl, .ref a, rfl, a, _, 3, v3, rfl, rfl, A1, atI_nat (j := 3) rfl, by show 5 ≤ sizeLine; decide, fun l2 nl2 => ?_⟩
        first | refine go nl2 fun H2 s2 e2 => ?_ | refine goT nl2 fun H2 s2 e2 => ?_
        exact ⟨_, rfl, q _ _ (s1.trans s2) (s1.free nl2) e2⟩
      · have n3 : way ≠ 3 := fun c => e (decide_eq_true (by rw [c]))
        refine ⟨_, rfl, q _ _ s1 nl ?_⟩
        unfold dueV
        rw [if_neg n2, if_neg n3]
        exact e1
end
end WB

set_option Elab.async false
set_option linter.all false
set_option maxRecDepth 100000
set_option maxHeartbeats 4000000
namespace WB
open PySem PySem.Spec PyProof.Rows L2 WG
open TL (tl)
/-! ### plain texts, shown -/
def Plain (y : Str) : Prop := ∀ c ∈ tl y, c < 256
theorem Plain.app {x y : Str} (h : Plain x) (k : Plain y) : Plain (x ++ y) := fun c hc => by
  rw [TL.tl_append] at hc
  exact (List.mem_append.mp hc).elim (h c) (k c)
theorem reprChar_plain : ∀ c : Nat, c < 256 → ∀ q : Nat, q = 34 ∨ q = 39 → ∀ d ∈ Builtin.Str.reprChar q c, d < 256 := by
  have h : ∀ c : Nat, c < 256 → (∀ d ∈ Builtin.Str.reprChar 34 c, d < 256) ∧ ∀ d ∈ Builtin.Str.reprChar 39 c, d < 256 := by decide +kernel
  intro c hc q hq d hd
  rcases hq with rfl | rfl
  · exact (h c hc).1 d hd
  · exact (h c hc).2 d hd
theorem quote_is (x : Str) : reprQuote x = 34 ∨ reprQuote x = 39 := by
  unfold reprQuote
  split
  · exact .inl rfl
  · exact .inr rfl
theorem repr_fold (q : Nat) (hq : q = 34 ∨ q = 39) : ∀ (l : List Nat) (acc : Array Nat), (∀ c ∈ l, c < 256) → (∀ c ∈ acc.toList, c < 256) → ∀ c ∈ (l.foldl (fun out c => out ++ (Builtin.Str.reprChar q c).toArray) acc).toList, c < 256
  | [], acc, _, ha => ha
  | x :: l, acc, hl, ha => by
    refine repr_fold q hq l _ (fun c hc => hl c (List.mem_cons_of_mem _ hc)) fun c hc => ?_
    rw [Array.toList_append] at hc
    rcases List.mem_append.mp hc with hc | hc
    · exact ha c hc
    · exact reprChar_plain x (hl x List.mem_cons_self) q hq c hc
theorem repr_plain {x : Str} (h : Plain x) : Plain (reprText x) := by
  intro c hc
  have hq := quote_is x
  have hq2 : reprQuote x < 256 := by rcases hq with e | e <;> rw [e] <;> decide
  have hc' : c ∈ ((x.cps.foldl (fun out c => out ++ (Builtin.Str.reprChar (reprQuote x) c).toArray) #[reprQuote x]).push (reprQuote x)).toList := hc
  rw [Array.toList_push] at hc'
  rcases List.mem_append.mp hc' with hc | hc
  · rw [← Array.foldl_toList] at hc
    refine repr_fold (reprQuote x) hq x.cps.toList #[reprQuote x] h (fun d hd => ?_) c hc
    have e : d ∈ [reprQuote x] := hd
    rw [List.mem_singleton.mp e]
    exact hq2
  · rw [List.mem_singleton.mp hc]
    exact hq2
theorem plain_lit {s : String} (h : ∀ c ∈ tl (Str.ofString s), c < 256) : Plain (Str.ofString s) := h
theorem textFrom_plain : ∀ (ts : List Str) (k : Nat) (acc : Str), (∀ t ∈ ts, Plain t) → Plain acc → Plain (textFrom k acc ts)
  | [], k, acc, _, ha => ha
  | t :: ts, k, acc, h, ha => by
    refine textFrom_plain ts (k + 1) _ (fun x hx => h x (List.mem_cons_of_mem _ hx)) ((ha.app ?_).app (h t List.mem_cons_self))
    by_cases hk : k > 0
    · rw [if_pos hk]
      exact plain_lit (by decide +kernel)
    · rw [if_neg hk]
      exact plain_lit (by decide +kernel)
theorem listText_plain {ts : List Str} (h : ∀ t ∈ ts, Plain t) : Plain (listText ts) := (textFrom_plain ts 0 _ h (plain_lit (by decide +kernel))).app (plain_lit (by decide +kernel))
/-! ### the data of things -/
theorem int_plain : ∀ n : Nat, n ≤ 1000 → Plain (PyData.shown (.int (n : Int))) := by
  have h : ∀ n : Nat, n ≤ 1000 → ∀ c ∈ tl ((toString (n : Int) : String) : Str), c < 256 := by decide +kernel
  intro n hn
  simp only [PyData.shown]
  exact h n hn
theorem int_text : ∀ n : Nat, n ≤ 1000 → (PyData.shown (.int (n : Int))).length ≤ 20 := by
  have h : ∀ n : Nat, n ≤ 1000 → ((toString (n : Int) : String) : Str).length ≤ 20 := by decide +kernel
  intro n hn
  simp only [PyData.shown]
  exact h n hn
theorem log_small : ∀ n : Nat, n ≤ 1000 → (n : Int).natAbs.log2 < 1920 := by
  intro n hn
  have e : (n : Int).natAbs = n := Int.natAbs_natCast n
  rw [e]
  exact Nat.lt_of_le_of_lt (Nat.log2_le_self n) (by omega)
structure Dat (K : PySem.W.Frag) (H : Hp) (v : V) (d : PyData) : Prop where
  itm : Itm K H v d
  sh : d.showable = true
  dep : d.depth ≤ 2
  len : d.shown.length ≤ 4000
  pl : Plain d.shown
theorem join1 (sep x : Str) : Str.join sep [x] = x := rfl
theorem Thg.dat {K : PySem.W.Frag} {H : Hp} {v : V} (h : Thg H v) : ∃ d, Dat K H v d := by
  cases h with
  | non => exact ⟨.none, ⟨.dp .non (by simp [PyData.hasDict]), by simp [PyData.showable], by simp [PyData.depth], by simp only [PyData.shown]; decide +kernel, by simp only [PyData.shown]; exact plain_lit (by decide +kernel)⟩⟩
  | bl b => exact ⟨.bool b, ⟨.dp (.bl b) (by simp [PyData.hasDict]), by simp [PyData.showable], by simp [PyData.depth], by simp only [PyData.shown]; cases b <;> decide +kernel, by simp only [PyData.shown]; cases b <;> exact plain_lit (by decide +kernel)⟩⟩
  | @int i h0 h1 =>
    obtain ⟨n, rfl⟩ := Int.eq_ofNat_of_zero_le h0
    exact ⟨.int n, ⟨.dp (.int _) (by simp [PyData.hasDict]), by simp only [PyData.showable]; exact decide_eq_true (log_small n (by omega)), by simp [PyData.depth], Nat.le_trans (int_text n (by omega)) (by decide), int_plain n (by omega)⟩⟩
  | @str z h => exact ⟨.str z, ⟨.dp (.str z) (by simp [PyData.hasDict]), by simp [PyData.showable], by simp [PyData.depth], by simp only [PyData.shown]; exact Nat.le_trans (repr_tx h) (by decide), by simp only [PyData.shown]; exact repr_plain h.pl⟩⟩
  | odd e h =>
    cases h with
    | l0 => exact ⟨.list [], ⟨.dp (.lst (SqL.of e) .nil) (by simp [PyData.hasDict, PyData.hasDictAll]), by simp [PyData.showable, PyData.showableAll], by simp [PyData.depth, PyData.depthAll], by simp only [PyData.shown, PyData.shownAll]; decide +kernel, by simp only [PyData.shown, PyData.shownAll]; unfold Plain; decide +kernel⟩⟩
    | @l1 z h =>
      refine ⟨.list [.str z], ⟨.dp (.lst (SqL.of e) (.cons (.str z) .nil)) (by simp [PyData.hasDict, PyData.hasDictAll]), by simp [PyData.showable, PyData.showableAll], by simp [PyData.depth, PyData.depthAll], ?_, by simp only [PyData.shown, PyData.shownAll]; exact listText_plain fun t ht => by rw [List.mem_singleton.mp ht]; exact repr_plain h.pl⟩⟩
      simp only [PyData.shown, PyData.shownAll]
      have h1 := repr_tx h
      have h2 := textFrom_len_le [reprText z] 0 "["
      show (textFrom 0 "[" [reprText z] ++ "]").length ≤ 4000
      rw [Str.length_append]
      have e1 : (("[" : String) : Str).length = 1 := by decide +kernel
      have e2 : (("]" : String) : Str).length = 1 := by decide +kernel
      rw [List.map_cons, List.map_nil, List.sum_cons, List.sum_nil, e1] at h2
      have : [reprText z].length = 1 := rfl
      omega
    | t0 => exact ⟨.tuple [], ⟨.dp (.tup (SqT.of e) .nil) (by simp [PyData.hasDict, PyData.hasDictAll]), by simp [PyData.showable, PyData.showableAll], by simp [PyData.depth, PyData.depthAll], by simp only [PyData.shown, PyData.shownAll]; decide +kernel, by simp only [PyData.shown, PyData.shownAll]; unfold Plain; decide +kernel⟩⟩
    | @t1 z h =>
      refine ⟨.tuple [.str z], ⟨.dp (.tup (SqT.of e) (.cons (.str z) .nil)) (by simp [PyData.hasDict, PyData.hasDictAll]), by simp [PyData.showable, PyData.showableAll], by simp [PyData.depth, PyData.depthAll], ?_, by simp only [PyData.shown, PyData.shownAll]; exact ((plain_lit (by decide +kernel)).app (repr_plain h.pl)).app (by show Plain (Str.ofString ",)"); exact plain_lit (by decide +kernel))⟩⟩
      simp only [PyData.shown, PyData.shownAll]
      have h1 := repr_tx h
      unfold tupleText
      rw [Str.length_append, Str.length_append, join1]
      have e1 : (("(" : String) : Str).length = 1 := by decide +kernel
      have e2 : ((if ([reprText z].length == 1) = true then ",)" else ")" : String) : Str).length ≤ 2 := by
        show ((",)" : String) : Str).length ≤ 2
        decide +kernel
      omega
    | d0 => exact ⟨.dict [], ⟨.d0 e, by simp [PyData.showable, PyData.showableKv], by simp [PyData.depth, PyData.depthKv], by simp only [PyData.shown, PyData.shownKv]; decide +kernel, by simp only [PyData.shown, PyData.shownKv]; unfold Plain; decide +kernel⟩⟩
    | @d1 x i h h0 h1 =>
      obtain ⟨n, rfl⟩ := Int.eq_ofNat_of_zero_le h0
      refine ⟨.dict [(.str x, .int n)], ⟨.d1 e, ?_, by simp [PyData.depth, PyData.depthKv], ?_, ?_⟩⟩
      · simp only [PyData.showable, PyData.showableKv, Bool.true_and, Bool.and_true]
        exact decide_eq_true (log_small n (by omega))
      · have h2 := int_text n (by omega)
        simp only [PyData.shown, PyData.shownKv] at h2 ⊢
        have h3 := repr_tx h
        unfold dictText
        rw [Str.length_append, Str.length_append, join1, Str.length_append, Str.length_append]
        have e1 : (("{" : String) : Str).length = 1 := by decide +kernel
        have e2 : (("}" : String) : Str).length = 1 := by decide +kernel
        have e3 : ((": " : String) : Str).length = 2 := by decide +kernel
        omega
      · have h2 := int_plain n (by omega)
        simp only [PyData.shown, PyData.shownKv] at h2 ⊢
        exact ((plain_lit (by decide +kernel)).app (((repr_plain h.pl).app (plain_lit (by decide +kernel))).app h2)).app (plain_lit (by decide +kernel))
theorem same_seqT {K : PySem.W.Frag} {H H' : Hp} {a : Addr} {xs : List V} (e : Same H H') (h : SqT K H a xs) : SqT K H' a xs := by
  rcases h with (h | ⟨o, h⟩) | h
  · exact .inl (.inl (e _ _ h))
  · exact .inl (.inr ⟨o, e _ _ h⟩)
  · exact .inr h
mutual
theorem dp_same {K : PySem.W.Frag} {H H' : Hp} (s : Same H H') : ∀ (d : PyData) (v : V), Dp K H v d → Dp K H' v d
  | .none, _, h => by cases h; exact .non
  | .bool b, _, h => by cases h; exact .bl b
  | .int i, _, h => by cases h; exact .int i
  | .str x, _, h => by cases h; exact .str x
  | .list ds, _, h => by
    cases h with
    | lst hs ha => exact .lst (s.seq hs) (dpAll_same s ds _ ha)
  | .tuple ds, _, h => by
    cases h with
    | tup hs ha => exact .tup (same_seqT s hs) (dpAll_same s ds _ ha)
  | .dict _, _, h => by cases h
theorem dpAll_same {K : PySem.W.Frag} {H H' : Hp} (s : Same H H') : ∀ (ds : List PyData) (vs : List V), DpAll K H vs ds → DpAll K H' vs ds
  | [], _, h => by cases h; exact .nil
  | d :: ds, _, h => by
    cases h with
    | cons h1 h2 => exact .cons (dp_same s d _ h1) (dpAll_same s ds _ h2)
end
theorem Dat.same {K : PySem.W.Frag} {H H' : Hp} {v : V} {d : PyData} (h : Dat K H v d) (s : Same H H') : Dat K H' v d := by
  obtain ⟨i, h1, h2, h3, h4⟩ := h
  refine ⟨?_, h1, h2, h3, h4⟩
  cases i with
  | dp h nd => exact .dp (dp_same s _ _ h) nd
  | d0 h => exact .d0 (s _ _ h)
  | d1 h => exact .d1 (s _ _ h)
inductive DatAll (K : PySem.W.Frag) (H : Hp) : List V → List PyData → Prop
  | nil : DatAll K H [] []
  | cons {v : V} {vs : List V} {d : PyData} {ds : List PyData} : Dat K H v d → DatAll K H vs ds → DatAll K H (v :: vs) (d :: ds)
theorem DatAll.same {K : PySem.W.Frag} {H H' : Hp} (s : Same H H') : ∀ {vs : List V} {ds : List PyData}, DatAll K H vs ds → DatAll K H' vs ds
  | _, _, .nil => .nil
  | _, _, .cons h k => .cons (h.same s) (k.same s)
theorem DatAll.itm {K : PySem.W.Frag} {H : Hp} : ∀ {vs : List V} {ds : List PyData}, DatAll K H vs ds → ItmAll K H vs ds
  | _, _, .nil => .nil
  | _, _, .cons h k => .cons h.itm k.itm
theorem DatAll.sh {K : PySem.W.Frag} {H : Hp} : ∀ {vs : List V} {ds : List PyData}, DatAll K H vs ds → PyData.showableAll ds = true ∧ PyData.depthAll ds ≤ 2 ∧ ((PyData.shownAll ds).map (·.length)).sum ≤ ds.length * 4000 ∧ (PyData.shownAll ds).length = ds.length ∧ ds.length = vs.length
  | _, _, .nil => ⟨by simp [PyData.showableAll], by simp [PyData.depthAll], by simp [PyData.shownAll], by simp [PyData.shownAll], rfl⟩
  | _, _, .cons (d := d) (ds := ds) h k => by
    obtain ⟨h1, h2, h3, h4, h5⟩ := k.sh
    refine ⟨by simp [PyData.showableAll, h.sh, h1], ?_, ?_, by simp [PyData.shownAll, h4], by simp [h5]⟩
    · have := h.dep
      simp only [PyData.depthAll]
      omega
    · have := h.len
      simp only [PyData.shownAll, List.map_cons, List.sum_cons, List.length_cons, Nat.succ_mul]
      omega
theorem AllT.dat {K : PySem.W.Frag} {H : Hp} : ∀ {vs : List V}, AllT H vs → ∃ ds, DatAll K H vs ds
  | [], _ => ⟨[], .nil⟩
  | v :: vs, h => by
    obtain ⟨d, hd⟩ := (h v List.mem_cons_self).dat (K := K)
    obtain ⟨ds, hds⟩ := AllT.dat (K := K) (vs := vs) fun x hx => h x (List.mem_cons_of_mem _ hx)
    exact ⟨d :: ds, .cons hd hds⟩
def textOf (ds : List PyData) : Str := listText (PyData.shownAll ds)
theorem DatAll.len {K : PySem.W.Frag} {H : Hp} {vs : List V} {ds : List PyData} (h : DatAll K H vs ds) (hv : vs.length ≤ 20) : (textOf ds).length ≤ 100000 := by
  obtain ⟨h1, h2, h3, h4, h5⟩ := h.sh
  have h6 := textFrom_len_le (PyData.shownAll ds) 0 "["
  show (textFrom 0 "[" (PyData.shownAll ds) ++ "]").length ≤ 100000
  rw [Str.length_append]
  have e1 : (("[" : String) : Str).length = 1 := by decide +kernel
  have e2 : (("]" : String) : Str).length = 1 := by decide +kernel
  rw [e1] at h6
  have h7 : ds.length * 4000 ≤ 20 * 4000 := Nat.mul_le_mul_right _ (by omega)
  omega
theorem DatAll.pl {K : PySem.W.Frag} {H : Hp} : ∀ {vs : List V} {ds : List PyData}, DatAll K H vs ds → ∀ t ∈ PyData.shownAll ds, Plain t
  | _, _, .nil => fun t ht => by simp [PyData.shownAll] at ht
  | _, _, .cons (d := d) (ds := ds) h k => fun t ht => by
    simp only [PyData.shownAll] at ht
    rcases List.mem_cons.mp ht with e | e
    · rw [e]
      exact h.pl
    · exact k.pl t e
theorem DatAll.ok {K : PySem.W.Frag} {H : Hp} {vs : List V} {ds : List PyData} (h : DatAll K H vs ds) : PyData.strOk (textOf ds) = true := strOk_of (listText_plain h.pl)
theorem DatAll.fits {K : PySem.W.Frag} {H : Hp} {vs : List V} {ds : List PyData} (h : DatAll K H vs ds) (h0 : vs ≠ []) (hv : vs.length ≤ 20) : PyData.showableAll ds = true ∧ PyData.depthAll ds ≤ 8 ∧ (listText (PyData.shownAll ds)).length ≤ sizeLine := by
  obtain ⟨h1, h2, _⟩ := h.sh
  have hl := h.len hv
  have : sizeLine = 16777216 := sizeLine_eq
  exact ⟨h1, by omega, by show (textOf ds).length ≤ sizeLine; omega⟩
/-- repr of a told list -/
theorem rRepr_of {K : PySem.W.Frag} {H : Hp} {a : Addr} {vs : List V} {ds : List PyData} {Q : VK} (hS : SqL K H a vs) (hd : DatAll K H vs ds) (h0 : vs ≠ []) (hv : vs.length ≤ 20) (q : Q (.str (textOf ds)) H) : rRepr K [.ref a] H Q := by
  obtain ⟨h1, h2, _⟩ := hd.sh
  have hl := hd.len hv
  have : sizeLine = 16777216 := sizeLine_eq
  exact ⟨a, vs, ds, rfl, hS, h0, hd.itm, h1, by omega, by show (textOf ds).length ≤ sizeLine; omega, q⟩
end WB

set_option Elab.async false
set_option linter.all false
set_option maxRecDepth 100000
set_option maxHeartbeats 4000000
namespace WB
open PySem PySem.Spec PyProof.Rows L2 WG
open TL (tl)
abbrev st_made : Stmt := topS 32
theorem sc_made : FnScope ["_law_told", "_law_way"] ["_law_told", "_law_way"] (defScope st_made) := ⟨rfl, rfl, rfl, by decide +kernel, rfl, by decide +kernel, by decide +kernel⟩
abbrev st_met : Stmt := topS 33
theorem sc_met : FnScope ["_law_told", "_law_way", "_law_place", "_law_field", "e"] ["_law_told", "_law_way"] (defScope st_met) := ⟨rfl, rfl, rfl, by decide +kernel, rfl, by decide +kernel, by decide +kernel⟩
def wrongL : List V → Str
  | [a, b, c, d, e] => wrongF a b c d e
  | _ => Str.ofString ""
section
variable {P : Program} {w : World} {K : PySem.W.Frag} {mg : Str → Option Value} {base : Heap}
/-! ### _law_made -/
def spMade (C CN : Addr) : Sp := fun vs H Q E => ∃ (a : Addr) (way : Int) (v0 v1 v2 v3 v4 : V), vs = [.ref a, .int way] ∧ H a = some (.lst [v0, v1, v2, v3, v4]) ∧ AllT H [v0, v1, v2, v3, v4] ∧
  (wrongL (dueV way v0 v1 v2 v3 v4) = Str.ofString "" → ∀ H' x dx t, Same H H' → H' x = some (.ins C dx [(("held" : Str), .ref t)]) → H' t = some (.tup (dueV way v0 v1 v2 v3 v4)) → Q (.ref x) H') ∧
  (wrongL (dueV way v0 v1 v2 v3 v4) ≠ Str.ofString "" → ∀ H' d, Same H H' → H d = none → H' d = some (.xd [(("field" : Str), .str (wrongL (dueV way v0 v1 v2 v3 v4)))]) → E (.ref CN) (some d) H')
/-- a new place of five things -/
theorem init_use {C CN : Addr} {H : Hp} {Q : VK} {E : XK} {u0 u1 u2 u3 u4 : V} (hT : AllT H [u0, u1, u2, u3, u4])
    (hq : wrongL [u0, u1, u2, u3, u4] = Str.ofString "" → ∀ H' x dx t, Same H H' → H' x = some (.ins C dx [(("held" : Str), .ref t)]) → H' t = some (.tup [u0, u1, u2, u3, u4]) → Q (.ref x) H')
    (he : wrongL [u0, u1, u2, u3, u4] ≠ Str.ofString "" → ∀ H' d, Same H H' → H d = none → H' d = some (.xd [(("field" : Str), .str (wrongL [u0, u1, u2, u3, u4]))]) → E (.ref CN) (some d) H')
    (x dx : Addr) (nx : H x = none) (ndx : H dx = none) (ne : dx ≠ x) : spInit C CN [.ref x, u0, u1, u2, u3, u4] (upd (upd H dx (.own x)) x (.ins C dx [])) (fun v H2 => v = .non ∧ Q (.ref x) H2) E := by
  have sm : Same H (upd (upd H dx (.own x)) x (.ins C dx [])) := fun b o e => by
    rw [upd_ne (ne_of_none e nx), upd_ne (ne_of_none e ndx)]
    exact e
  have t := hT.same sm
  refine ⟨x, dx, u0, u1, u2, u3, u4, rfl, upd_same, ⟨t _ (by simp), t _ (by simp), t _ (by simp), t _ (by simp), t _ (by simp)⟩, fun hw H' t b ex et => ⟨rfl, hq hw H' x dx t (fun c o e => b c o (ne_of_none e nx) (sm c o e)) ex et⟩, fun hw H' d s nd ed => he hw H' d (sm.trans s) (sm.free nd) ed⟩
theorem ok_made {C CN f fI : Addr} {fd fdI : FuncData} {k : Nat} {ds1 : List Value} {g3 g5 : List Value → List Value → List Value} {gV3 gV5 : List V → List V → List V} (F : Fun K "_law_made" "_law_made" st_made f fd) (M : Mk K C fI) (gC : mg "Place" = some (.ref C))
    (GI : FnOk P w K mg base (L2.CX P w) (k + 3) fI fdI ["self", "name", "many", "maker", "default", "about"] (spInit C CN))
    (b6 : Binds K fdI ["self", "name", "many", "maker", "default", "about"] []) (b1 : Binds K fdI ["self", "name", "many", "maker", "default", "about"] ds1) (hv1 : Vals [.str (Str.ofString "one"), .str (Str.ofString "word"), .non, .str (Str.ofString "")] ds1)
    (kb3 : KBn K fdI ["self", "name", "many", "maker", "default", "about"] 1 ["default", "many", "name"] g3 gV3) (kb5 : KBn K fdI ["self", "name", "many", "maker", "default", "about"] 1 ["about", "default", "maker", "many", "name"] g5 gV5)
    (hg3 : ∀ x d m n : V, gV3 [x] [d, m, n] = [x, n, m, .str (Str.ofString "word"), d, .str (Str.ofString "")]) (hg5 : ∀ x a d k m n : V, gV5 [x] [a, d, k, m, n] = [x, n, m, k, d, a]) :
    FnOk P w K mg base (L2.CX P w) (k + 5) f fd ["_law_told", "_law_way"] (spMade C CN) := by
  refine F.okX sc_made (fun vs H Q E h => ?_) (fun cdv A outer s H vs Q E hr h => ?_)
  · obtain ⟨a, way, v0, v1, v2, v3, v4, rfl, _⟩ := h
    rfl
  · obtain ⟨a, way, v0, v1, v2, v3, v4, rfl, hA, hT, hq, he⟩ := h
    have hS : SqL K H a [v0, v1, v2, v3, v4] := SqL.of hA
    have t0 : Thg H v0 := hT v0 (by simp)
    have t1 : Thg H v1 := hT v1 (by simp)
    have t3 : Thg H v3 := hT v3 (by simp)
    refine ⟨_, pss_cons (ps_if (pt_cmpR op_eq (pv 1) pe_int (nomark _)) (pss_one (ps_ret (pe_make M GI hr (by rfl) gC b6 .nil (passes_call (takes_of rfl rfl rfl rfl) (fun _ _ _ _ h => h)) (pa_cons (pe_ix ix_list (pv 0) pe_int (fun _ _ => rfl)) (pa_cons (pe_ix ix_list (pv 0) pe_int (fun _ _ => rfl)) (pa_cons (pe_ix ix_list (pv 0) pe_int (fun _ _ => rfl)) (pa_cons (pe_ix ix_list (pv 0) pe_int (fun _ _ => rfl)) (pa_cons (pe_ix ix_list (pv 0) pe_int (fun _ _ => rfl)) pa_nil)))))))) pss_nil)
      (pss_cons (ps_if (pt_cmpR op_eq (pv 1) pe_int (nomark _)) (pss_one (ps_ret (pe_make M GI hr (by rfl) gC b1 hv1 (passes_call (takes_of rfl rfl rfl rfl) (fun _ _ _ _ h => h)) (pa_cons (pe_ix ix_list (pv 0) pe_int (fun _ _ => rfl)) pa_nil)))) pss_nil)
      (pss_cons (ps_if (pt_cmpR op_eq (pv 1) pe_int (nomark _)) (pss_one (ps_ret (pe_makeK0 M GI hr (by rfl) gC kb3 (passes_call (takes_of rfl rfl rfl rfl) (fun _ _ _ _ h => h)) (pk_cons (pe_ix ix_list (pv 0) pe_int (fun _ _ => rfl)) (pk_cons (pe_ix ix_list (pv 0) pe_int (fun _ _ => rfl)) (pk_cons (pe_ix ix_list (pv 0) pe_int (fun _ _ => rfl)) pk_nil)))))) pss_nil)
      (pss_one (ps_ret (pe_makeK0 M GI hr (by rfl) gC kb5 (passes_call (takes_of rfl rfl rfl rfl) (fun _ _ _ _ h => h)) (pk_cons (pe_ix ix_list (pv 0) pe_int (fun _ _ => rfl)) (pk_cons (pe_ix ix_list (pv 0) pe_int (fun _ _ => rfl)) (pk_cons (pe_ix ix_list (pv 0) pe_int (fun _ _ => rfl)) (pk_cons (pe_ix ix_list (pv 0) pe_int (fun _ _ => rfl)) (pk_cons (pe_ix ix_list (pv 0) pe_int (fun _ _ => rfl)) pk_nil)))))))))), ?_⟩
    refine ⟨_, rfl, rfl, _, rfl, ite2 (fun e => ?_) (fun e => ?_)⟩
    · have e0 : way = 0 := V.int.inj (of_decide_eq_true e)
      subst e0
      refine ⟨.ref a, rfl, a, _, 0, v0, rfl, rfl, hS, atI_nat (j := 0) rfl, .ref a, rfl, a, _, 1, v1, rfl, rfl, hS, atI_nat (j := 1) rfl, .ref a, rfl, a, _, 2, v2, rfl, rfl, hS, atI_nat (j := 2) rfl, .ref a, rfl, a, _, 3, v3, rfl, rfl, hS, atI_nat (j := 3) rfl, .ref a, rfl, a, _, 4, v4, rfl, rfl, hS, atI_nat (j := 4) rfl, ?_⟩
      exact fun x dx nx ndx ne => init_use hT hq he x dx nx ndx ne
    · have n0 : way ≠ 0 := fun c => e (decide_eq_true (by rw [c]))
      refine ⟨_, rfl, rfl, _, rfl, ite2 (fun e => ?_) (fun e => ?_)⟩
      · have e2 : way = 2 := V.int.inj (of_decide_eq_true e)
        subst e2
        refine ⟨.ref a, rfl, a, _, 0, v0, rfl, rfl, hS, atI_nat (j := 0) rfl, ?_⟩
        exact fun x dx nx ndx ne => init_use (.cons t0 (allT_lit (by decide +kernel))) hq he x dx nx ndx ne
      · have n2 : way ≠ 2 := fun c => e (decide_eq_true (by rw [c]))
        refine ⟨_, rfl, rfl, _, rfl, ite2 (fun e => ?_) (fun e => ?_)⟩
        · have e3 : way = 3 := V.int.inj (of_decide_eq_true e)
          subst e3
          refine ⟨.ref a, rfl, a, _, 3, v3, rfl, rfl, hS, atI_nat (j := 3) rfl, .ref a, rfl, a, _, 1, v1, rfl, rfl, hS, atI_nat (j := 1) rfl, .ref a, rfl, a, _, 0, v0, rfl, rfl, hS, atI_nat (j := 0) rfl, rfl, rfl, ?_⟩
          intro x dx nx ndx ne
          rw [hg3]
          exact init_use (.cons t0 (.cons t1 (.cons (thg_litB (by decide +kernel)) (.cons t3 (allT_lit (by decide +kernel)))))) hq he x dx nx ndx ne
        · have n3 : way ≠ 3 := fun c => e (decide_eq_true (by rw [c]))
          have ed : dueV way v0 v1 v2 v3 v4 = [v0, v1, v2, v3, v4] := by
            unfold dueV
            rw [if_neg n2, if_neg n3]
          rw [ed] at hq he
          refine ⟨.ref a, rfl, a, _, 4, v4, rfl, rfl, hS, atI_nat (j := 4) rfl, .ref a, rfl, a, _, 3, v3, rfl, rfl, hS, atI_nat (j := 3) rfl, .ref a, rfl, a, _, 2, v2, rfl, rfl, hS, atI_nat (j := 2) rfl, .ref a, rfl, a, _, 1, v1, rfl, rfl, hS, atI_nat (j := 1) rfl, .ref a, rfl, a, _, 0, v0, rfl, rfl, hS, atI_nat (j := 0) rfl, rfl, rfl, ?_⟩
          intro x dx nx ndx ne
          rw [hg5]
          exact init_use hT hq he x dx nx ndx ne
/-! ### _law_met -/
theorem field_look {v : V} : List.lookup ("field" : Str) [(("field" : Str), v)] = some v := by simp [List.lookup]
def tSuite (K : PySem.W.Frag) (CN BE : Addr) : Addr → Value → Option Addr → TS := fun a cls d => tAsg (tIf (tB (tCB (rIsD K a cls d) (tCons (tVar 4) (tCons (tC (.ref BE)) tNil)))) (tXf a cls d CN "field" (tVar 4)) (tC (.str (Str.ofString "none")))) (gName 3)
def spMet (K : PySem.W.Frag) : Sp := fun vs H Q _ => ∃ (a : Addr) (way : Int) (v0 v1 v2 v3 v4 : V) (ds : List PyData), vs = [.ref a, .int way] ∧ H a = some (.lst [v0, v1, v2, v3, v4]) ∧ AllT H [v0, v1, v2, v3, v4] ∧ DatAll K H (dueV way v0 v1 v2 v3 v4) ds ∧
  ∀ H' p, Same H H' → H' p = some (.lst (if wrongL (dueV way v0 v1 v2 v3 v4) = Str.ofString "" then [.str (Str.ofString "made"), .str (textOf ds)] else [.str (Str.ofString "refused"), .str (wrongL (dueV way v0 v1 v2 v3 v4))])) → Q (.ref p) H'
theorem ok_met {C CN BE f fM fE : Addr} {fd fdM fdE : FuncData} {f0 f1 f2 f3 f4 : Addr} {fd0 fd1 fd2 fd3 fd4 : FuncData} {k : Nat} (F : Fun K "_law_met" "_law_met" st_met f fd) (D_made : Df K mg "_law_made" st_made ["_law_told", "_law_way"] fM fdM)
    (G_made : FnOk P w K mg base (L2.CX P w) (k + 5) fM fdM ["_law_told", "_law_way"] (spMade C CN)) (TE : ErrT K mg "NoPlace" CN fE fdE) (TX : XfC K CN) (TC : ExcC K CN) (exm : PySem.W.exmOne K (.ref CN) (.ref CN) = some true) (kit : PySem.W.kitOne K (.ref CN) (.ref BE) = some true) (gB : mg "BenchError" = some (.ref BE)) (T : ClsT K C)
    (F0 : Fun K "name" "Place.name" (st_get 0) f0 fd0) (m0 : Meth K C "name" f0) (bm0 : Binds K fd0 ["self"] []) (F1 : Fun K "many" "Place.many" (st_get 1) f1 fd1) (m1 : Meth K C "many" f1) (bm1 : Binds K fd1 ["self"] [])
    (F2 : Fun K "maker" "Place.maker" (st_get 2) f2 fd2) (m2 : Meth K C "maker" f2) (bm2 : Binds K fd2 ["self"] []) (F3 : Fun K "default" "Place.default" (st_get 3) f3 fd3) (m3 : Meth K C "default" f3) (bm3 : Binds K fd3 ["self"] [])
    (F4 : Fun K "about" "Place.about" (st_get 4) f4 fd4) (m4 : Meth K C "about" f4) (bm4 : Binds K fd4 ["self"] []) (m_isinstance : mg "isinstance" = none) (m_repr : mg "repr" = none) :
    GOk P w K mg base CX0 (k + 6) f fd ["_law_told", "_law_way"] (spMet K) := by
  have G0 : FnOk P w K mg base CX0 (k + 5) f0 fd0 ["self"] (spGet C 0) := ok_get0 F0 T
  have G1 : FnOk P w K mg base CX0 (k + 5) f1 fd1 ["self"] (spGet C 1) := ok_get1 F1 T
  have G2 : FnOk P w K mg base CX0 (k + 5) f2 fd2 ["self"] (spGet C 2) := ok_get2 F2 T
  have G3 : FnOk P w K mg base CX0 (k + 5) f3 fd3 ["self"] (spGet C 3) := ok_get3 F3 T
  have G4 : FnOk P w K mg base CX0 (k + 5) f4 fd4 ["self"] (spGet C 4) := ok_get4 F4 T
  refine gfun_ok F sc_met (fun vs H Q E h => ?_) (fun cdv A outer s H vs Q E hgd hr h => ?_)
  · obtain ⟨a, way, v0, v1, v2, v3, v4, ds, rfl, _⟩ := h
    rfl
  · obtain ⟨a, way, v0, v1, v2, v3, v4, ds, rfl, hA, hT, hD, q⟩ := h
    have hun : A.units + 3 + 16 < cLine := by have := hr.un; show A.units + 3 + 16 < cLine; have z : (A.deeper (envOfC "_law_met" (defScope st_met) s.heap.objs.size f cdv)).units = A.units + 3 := rfl; omega
    refine ⟨_, PSs.nox (pss_cons (ps_set (i := 2) sc_met.nd rfl (.inl rfl) pe_non)
      (pss_cons (ps_set (i := 3) sc_met.nd rfl (.inl rfl) pe_str)
      (pss_cons (ps_try_as (i := 4) (tb := fun W => tAsg (tCallS (spMade C CN) (WE W) (tCons (tVar 0) (tCons (tVar 1) tNil))) (gName 2)) (ts := tSuite K CN BE) (Wout := fun _ _ _ _ => False) rfl rfl sc_met.nd rfl rfl ⟨rfl, by decide, Or.inl TE.g⟩ takes0
          (fun W pn xe tk _ => pss_one (ps_set (i := 2) sc_met.nd rfl (Or.inl rfl) (by exact (pe_callS G_made hr (by rfl) D_made.g D_made.F.kp D_made.b (fun σ => passAt tk σ) (by exact (pa_cons (pv 0) (pa_cons (pv 1) pa_nil)))))))
          (fun a oe cls d pn hz hf => pss_one (ps_set (i := 3) sc_met.nd rfl (Or.inl rfl) (by exact (pe_ifExp (pt_val (pe_callB (call_isD hz hf) (by rfl) m_isinstance (by decide +kernel) (pa_cons (pv 4) (pa_cons (pe_glob (v := .ref BE) rfl gB rfl) pa_nil)))) (pe_xf TX TE.nf hz hf (pv 4)) pe_str)))))
      (pss_cons (ps_if (pt_cmpR op_isN (pv 2) pe_non (nomark _)) (pss_one (ps_ret (pe_lst (pa_cons pe_str (pa_cons (pv 3) pa_nil))))) pss_nil)
      (pss_one (ps_ret (pe_lst (pa_cons pe_str (pa_cons (pe_callB (call_repr_l hgd hun) (by rfl) m_repr (by decide +kernel) (pa_cons (pe_lst (pa_cons (pe_meth0 (pv 2) T.cl m0 G0 hr bm0 .nil pass0) (pa_cons (pe_meth0 (pv 2) T.cl m1 G1 hr bm1 .nil pass0) (pa_cons (pe_meth0 (pv 2) T.cl m2 G2 hr bm2 .nil pass0) (pa_cons (pe_meth0 (pv 2) T.cl m3 G3 hr bm3 .nil pass0) (pa_cons (pe_meth0 (pv 2) T.cl m4 G4 hr bm4 .nil pass0) pa_nil)))))) pa_nil)) pa_nil))))))))), ?_⟩
    have d5 : ∃ u0 u1 u2 u3 u4, dueV way v0 v1 v2 v3 v4 = [u0, u1, u2, u3, u4] := by
      unfold dueV
      split
      · exact ⟨_, _, _, _, _, rfl⟩
      · split
        · exact ⟨_, _, _, _, _, rfl⟩
        · exact ⟨_, _, _, _, _, rfl⟩
    refine ⟨.ref a, rfl, .int way, rfl, a, way, v0, v1, v2, v3, v4, rfl, hA, hT, fun hw H1 x dx t sm ex et => ?_, fun hw H1 d sm nd ed => ⟨true, exm, fun _ a0 na0 => ?_, fun z => Bool.noConfusion z⟩⟩
    · refine ⟨.ref x, rfl, rfl, _, rfl, ?_⟩
      rw [if_pos hw] at q
      obtain ⟨u0, u1, u2, u3, u4, eu⟩ := d5
      rw [eu] at et hD
      have lk : ∀ m : Str, m ≠ "held" → List.lookup m [(("held" : Str), V.ref t)] = none := fun m hm => by
        have e : (m == ("held" : Str)) = false := by simpa using hm
        simp [List.lookup, e]
      refine ⟨_, rfl, x, dx, _, rfl, ex, lk _ (by decide +kernel), x, dx, t, _, u0, rfl, ex, et, rfl, ?_⟩
      refine ⟨_, rfl, x, dx, _, rfl, ex, lk _ (by decide +kernel), x, dx, t, _, u1, rfl, ex, et, rfl, ?_⟩
      refine ⟨_, rfl, x, dx, _, rfl, ex, lk _ (by decide +kernel), x, dx, t, _, u2, rfl, ex, et, rfl, ?_⟩
      refine ⟨_, rfl, x, dx, _, rfl, ex, lk _ (by decide +kernel), x, dx, t, _, u3, rfl, ex, et, rfl, ?_⟩
      refine ⟨_, rfl, x, dx, _, rfl, ex, lk _ (by decide +kernel), x, dx, t, _, u4, rfl, ex, et, rfl, by show 5 ≤ sizeLine; decide, fun p np => ?_⟩
      first | refine goT np fun H2 s2 e2 => ?_ | refine go np fun H2 s2 e2 => ?_
      obtain ⟨x1, x2, x3⟩ := (hD.same (sm.trans s2)).fits (by simp) (by show 5 ≤ 20; decide)
      refine ⟨p, _, ds, rfl, SqL.of e2, by simp, (hD.same (sm.trans s2)).itm, x1, x2, x3, ?_⟩
      refine ⟨by show 2 ≤ sizeLine; decide, fun p3 np3 => ?_⟩
      exact q _ _ ((sm.trans s2).trans (same_upd np3)) upd_same
    · rw [if_neg hw] at q
      refine ⟨.ref a0, rfl, CN, d, _, .ref BE, .ref BE, true, rfl, rfl, ed, TC, rfl, fun u hu => hu, kit, _, rfl, ?_⟩
      refine ⟨.ref a0, rfl, rfl, rfl, d, _, .str (wrongL (dueV way v0 v1 v2 v3 v4)), rfl, ed, field_look, ?_⟩
      refine ⟨.non, rfl, rfl, _, rfl, ?_⟩
      refine ⟨_, rfl, by show 2 ≤ sizeLine; decide, fun p np => ?_⟩
      exact q _ _ (sm.trans (same_upd np)) upd_same
end
end WB

set_option Elab.async false
set_option linter.all false
set_option maxRecDepth 100000
set_option maxHeartbeats 4000000
namespace WB
open PySem PySem.Spec PyProof.Rows L2 WG
open TL (tl)
abbrev st_law : Stmt := topS 34
theorem sc_law : FnScope ["_law_script", "_law_k", "_law_pot_here", "_law_told", "_law_turn", "_law_at", "_law_way", "_law_kept", "_law_due_here", "_law_wrong_here", "_law_wanted"] ["_law_script"] (defScope st_law) := ⟨rfl, rfl, rfl, by decide +kernel, rfl, by decide +kernel, by decide +kernel⟩
section
variable {P : Program} {w : World} {K : PySem.W.Frag} {mg : Str → Option Value} {base : Heap}
def spLaw (K : PySem.W.Frag) : Sp := fun vs H Q _ => ∃ (a : Addr) (ns : List Int), vs = [.ref a] ∧ SqL K H a (ns.map V.int) ∧ ns.length ≤ 63 ∧ ∀ H', Q (.bl true) H'
theorem setT {H : Hp} {v0 v1 v2 v3 v4 v : V} {n : Nat} (h : AllT H [v0, v1, v2, v3, v4]) (t : Thg H v) (hn : n < 5) : ∃ u0 u1 u2 u3 u4, [v0, v1, v2, v3, v4].set n v = [u0, u1, u2, u3, u4] ∧ AllT H [u0, u1, u2, u3, u4] := by
  have hs : ∀ x ∈ [v0, v1, v2, v3, v4].set n v, Thg H x := fun x hx => by
    rcases List.mem_or_eq_of_mem_set hx with e | e
    · exact h x e
    · rw [e]
      exact t
  match n, hn with
  | 0, _ => exact ⟨_, _, _, _, _, rfl, hs⟩
  | 1, _ => exact ⟨_, _, _, _, _, rfl, hs⟩
  | 2, _ => exact ⟨_, _, _, _, _, rfl, hs⟩
  | 3, _ => exact ⟨_, _, _, _, _, rfl, hs⟩
  | 4, _ => exact ⟨_, _, _, _, _, rfl, hs⟩
theorem ixN_at {n : Nat} (h : n < 5) : ixN 5 (n : Int) = some n := by
  unfold ixN
  rw [if_pos (by omega), if_pos (by omega)]
  all_goals rfl
theorem due_all {H : Hp} {v0 v1 v2 v3 v4 : V} (way : Int) (h : AllT H [v0, v1, v2, v3, v4]) : ∃ u0 u1 u2 u3 u4, dueV way v0 v1 v2 v3 v4 = [u0, u1, u2, u3, u4] ∧ AllT H [u0, u1, u2, u3, u4] := by
  have t0 := h v0 (by simp)
  have t1 := h v1 (by simp)
  have t3 := h v3 (by simp)
  unfold dueV
  split
  · exact ⟨_, _, _, _, _, rfl, .cons t0 (allT_lit (by decide +kernel))⟩
  · split
    · exact ⟨_, _, _, _, _, rfl, .cons t0 (.cons t1 (.cons (thg_litB (by decide +kernel)) (.cons t3 (allT_lit (by decide +kernel)))))⟩
    · exact ⟨_, _, _, _, _, rfl, h⟩
theorem wrong_plain (v0 v1 v2 v3 v4 : V) : PyData.strOk (wrongF v0 v1 v2 v3 v4) = true := by
  unfold wrongF
  cases isNm v0 <;> cases among v1 manies <;> cases isNm v2 <;> cases dflt v3 (isMb v1) <;> cases isAb v4 <;> decide +kernel
theorem shaped2 {x y : Str} (h : PyData.strOk x = true) (k : PyData.strOk y = true) : SeqAt.shaped (.list [.str x, .str y]) = true := shaped_strs [x, y] fun z hz => by
  rcases List.mem_cons.mp hz with e | e
  · rw [e]
    exact h
  · rw [List.mem_singleton.mp e]
    exact k
theorem eqv2 (x y : Str) (h : PyData.strOk x = true) (k : PyData.strOk y = true) : PyData.eqv (.list [.str x, .str y]) (.list [.str x, .str y]) = true := SeqAt.eqv_refl _ (by simp [PyData.canLay0, PyData.canLayAll0, h, k])
theorem ok_law {f fT fP fC fG fO fD fW fM fX fN fA fS fU fV : Addr} {fd fdT fdP fdC fdG fdO fdD fdW fdM fdX fdN fdA fdS fdU fdV : FuncData} (F : Fun K "law" "law" st_law f fd)
    (D_cell : Df K mg "_law_cell" sCell ["_law_script", "_law_k"] fC fdC) (D_pot : Df K mg "_law_pot" sPot ["_law_script", "_law_k"] fP fdP) (D_take : Df K mg "_law_take" sTake ["_law_pot_here", "_law_room"] fT fdT)
    (D_name : Df K mg "_law_name" sName ["_law_pot_here"] fN fdN) (D_about : Df K mg "_law_about" sAbout ["_law_pot_here"] fA fdA) (D_text : Df K mg "_law_text" sText ["_law_pot_here"] fX fdX) (D_signs : Df K mg "_law_signs" sSigns ["_law_pot_here", "_law_most"] fS fdS)
    (D_good : Df K mg "_law_good" st_good ["_law_pot_here"] fG fdG) (D_odd : Df K mg "_law_odd" st_odd ["_law_pot_here", "_law_at"] fO fdO) (D_due : Df K mg "_law_due" st_due ["_law_told", "_law_way"] fD fdD) (D_wrong : Df K mg "_law_wrong" st_wrong ["_law_told"] fW fdW)
    (D_w_is_name : Df K mg "_law_is_name" st_w_is_name ["_law_thing"] fU fdU) (D_w_is_about : Df K mg "_law_is_about" st_w_is_about ["_law_thing"] fV fdV)
    (D_met : Df K mg "_law_met" st_met ["_law_told", "_law_way"] fM fdM) (G_met : GOk P w K mg base CX0 6 fM fdM ["_law_told", "_law_way"] (spMet K))
    (m_len : mg "len" = none) (m_max : mg "max" = none) (m_min : mg "min" = none) (m_abs : mg "abs" = none) (m_range : mg "range" = none) (m_list : mg "list" = none) (m_repr : mg "repr" = none) (m_str : mg "str" = none) (m_isinstance : mg "isinstance" = none) :
    GOk P w K mg base CX0 7 f fd ["_law_script"] (spLaw K) := by
  have G_pot : FnOk P w K mg base CX0 6 fP fdP ["_law_script", "_law_k"] (spPot K) := ok_pot D_pot.F D_cell m_len m_max m_abs
  have G_take : FnOk P w K mg base CX0 6 fT fdT ["_law_pot_here", "_law_room"] spTake := ok_take D_take.F
  have G_good : FnOk P w K mg base CX0 6 fG fdG ["_law_pot_here"] spGood := ok_good D_good.F D_take D_name D_about D_text D_signs m_len m_range
  have G_odd : FnOk P w K mg base CX0 6 fO fdO ["_law_pot_here", "_law_at"] spOdd := ok_odd D_odd.F D_take m_len
  have G_due : FnOk P w K mg base CX0 6 fD fdD ["_law_told", "_law_way"] spDue := ok_due D_due.F m_list
  have G_wrong : FnOk P w K mg base CX0 6 fW fdW ["_law_told"] spWrong := ok_wrong D_wrong.F D_w_is_name D_w_is_about m_len m_str m_isinstance
  refine gfun_ok F sc_law (fun vs H Q E h => ?_) (fun cdv A outer s H vs Q E hgd hr h => ?_)
  · obtain ⟨a, ns, rfl, _⟩ := h
    rfl
  · obtain ⟨a, ns, rfl, hS, hlen, q⟩ := h
    have hun : A.units + 3 + 16 < cLine := by have := hr.un; have z : (A.deeper (envOfC "law" (defScope st_law) s.heap.objs.size f cdv)).units = A.units + 3 := rfl; omega
    refine ⟨_, PSs.nox (pss_cons (ps_for PassesOwn.never rfl (pi_range1 rfl m_range (pa_cons (pe_callB (call_max2 rfl) (by rfl) m_max (by decide +kernel) (pa_cons pe_int (pa_cons (pe_callB (call_min2 rfl) (by rfl) m_min (by decide +kernel) (pa_cons (pe_callB call_len_seq (by rfl) m_len PySem.boot_len (pa_cons (pv 0) pa_nil)) (pa_cons pe_int pa_nil))) pa_nil))) pa_nil)) (pg_name (i := 1) sc_law.nd rfl (Or.inl rfl)) (pss_cons (ps_set (i := 2) sc_law.nd rfl (.inl rfl) (pe_call G_pot hr (by rfl) D_pot.g D_pot.F.kp D_pot.b .nil pass0 (pa_cons (pv 0) (pa_cons (pv 1) pa_nil))))
      (pss_cons (ps_set (i := 3) sc_law.nd rfl (.inl rfl) (pe_call G_good hr (by rfl) D_good.g D_good.F.kp D_good.b .nil pass0 (pa_cons (pv 2) pa_nil)))
      (pss_cons (ps_for PassesOwn.never rfl (pi_range1 rfl m_range (pa_cons (pe_call G_take hr (by rfl) D_take.g D_take.F.kp D_take.b .nil pass0 (pa_cons (pv 2) (pa_cons pe_int pa_nil))) pa_nil)) (pg_name (i := 4) sc_law.nd rfl (Or.inl rfl)) (pss_cons (ps_set (i := 5) sc_law.nd rfl (.inl rfl) (pe_call G_take hr (by rfl) D_take.g D_take.F.kp D_take.b .nil pass0 (pa_cons (pv 2) (pa_cons pe_int pa_nil))))
      (pss_one (ps_asg (pe_call G_odd hr (by rfl) D_odd.g D_odd.F.kp D_odd.b .nil pass0 (pa_cons (pv 2) (pa_cons (pv 5) pa_nil))) (pg_sub (pv 3) (pv 5) set_list)))))
      (pss_cons (ps_set (i := 6) sc_law.nd rfl (.inl rfl) (pe_call G_take hr (by rfl) D_take.g D_take.F.kp D_take.b .nil pass0 (pa_cons (pv 2) (pa_cons pe_int pa_nil))))
      (pss_cons (ps_set (i := 7) sc_law.nd rfl (.inl rfl) (pe_callB (call_repr_l hgd hun) (by rfl) m_repr (by decide +kernel) (pa_cons (pv 3) pa_nil)))
      (pss_cons (ps_set (i := 8) sc_law.nd rfl (.inl rfl) (pe_call G_due hr (by rfl) D_due.g D_due.F.kp D_due.b .nil pass0 (pa_cons (pv 3) (pa_cons (pv 6) pa_nil))))
      (pss_cons (ps_set (i := 9) sc_law.nd rfl (.inl rfl) (pe_call G_wrong hr (by rfl) D_wrong.g D_wrong.F.kp D_wrong.b .nil pass0 (pa_cons (pv 8) pa_nil)))
      (pss_cons (ps_set (i := 10) sc_law.nd rfl (.inl rfl) (pe_ifExp (pt_cmpR op_ne (pv 9) pe_str (nomark _)) (pe_lst (pa_cons pe_str (pa_cons (pv 9) pa_nil))) (pe_lst (pa_cons pe_str (pa_cons (pe_callB (call_repr_l hgd hun) (by rfl) m_repr (by decide +kernel) (pa_cons (pv 8) pa_nil)) pa_nil)))))
      (pss_one (ps_if (PW.pt (pw_or (pt_cmpR (op_neD hr.units) (pe_callG G_met hgd hr (by rfl) D_met.g D_met.F.kp D_met.b pass0 (pa_cons (pv 3) (pa_cons (pv 6) pa_nil))) (pv 10) (nomark _)) (pw_or1 (pt_cmpR op_ne (pe_callB (call_repr_l hgd hun) (by rfl) m_repr (by decide +kernel) (pa_cons (pv 3) pa_nil)) (pv 7) (nomark _))))) (pss_one (ps_ret pe_bl)) pss_nil)))))))))))
      (pss_one (ps_ret pe_bl))), ?_⟩
    refine ⟨.ref a, rfl, a, _, rfl, .inl hS, _, 30, rfl, 1, _, rfl, _, rfl, ?_, ?_, for_range (lo := 0) (n := _) (fun i σ H' => Same H H' ∧ i ≤ 100 ∧ ∃ x1 x2 x3 x4 x5 x6 x7 x8 x9 x10, σ = [some (.ref a), x1, x2, x3, x4, x5, x6, x7, x8, x9, x10])
      ⟨Same.refl _, by decide, none, none, none, none, none, none, none, none, none, none, rfl⟩ ?_ ?_⟩
    · split <;> split <;> omega
    · split <;> split <;> omega
    · rintro i σ H0 hi ⟨sm, i100, x1, x2, x3, x4, x5, x6, x7, x8, x9, x10, rfl⟩
      have hi63 : i < 63 := by
        revert hi
        split <;> split <;> intro hi <;> omega
      -- the pot
      refine ⟨.ref a, rfl, .int (0 + (i : Int)), rfl, a, ns, _, rfl, sm.seq hS, by omega, by omega, fun H1 p s1 np p1 => ?_⟩
      -- what is told
      refine ⟨.ref p, rfl, p, rfl, p1, fun H2 l v0 v1 v2 v3 v4 b2 p2 nl nlp el t2 => ?_⟩
      have S2 : Same H0 H2 := fun b o e => b2 b o (ne_of_none e np) (s1 b o e)
      have nl0 : H0 l = none := s1.free nl
      refine ⟨.ref p, rfl, p, 3, rfl, p2, by decide, by decide, fun H3 d3 b3 p3 d30 d31 => ?_⟩
      refine ⟨d3, rfl, by omega, by omega, for_range (lo := 0) (n := d3.toNat) (fun j σ H' => Same H0 H' ∧ Pot H' p ∧ ∃ u0 u1 u2 u3 u4 y4 y5, H' l = some (.lst [u0, u1, u2, u3, u4]) ∧ AllT H' [u0, u1, u2, u3, u4] ∧ σ = [some (.ref a), some (.int (0 + (i : Int))), some (.ref p), some (.ref l), y4, y5, x6, x7, x8, x9, x10])
        ⟨fun b o e => b3 b o (ne_of_none e np) (S2 b o e), p3, v0, v1, v2, v3, v4, x4, x5, b3 _ _ nlp el, t2.but p2 b3, rfl⟩ ?_ ?_⟩
      · rintro j σ H4 hj ⟨sm4, p4, u0, u1, u2, u3, u4, y4, y5, el4, t4, rfl⟩
        refine ⟨.ref p, rfl, p, 5, rfl, p4, by decide, by decide, fun H5 d5 b5 p5 d50 d51 => ?_⟩
        refine ⟨.ref p, rfl, .int d5, rfl, p, d5, rfl, p5, d50, d51, fun H6 v b6 p6 tv => ?_⟩
        obtain ⟨n, rfl⟩ := Int.eq_ofNat_of_zero_le d50
        have el6 : H6 l = some (.lst [u0, u1, u2, u3, u4]) := b6 _ _ nlp (b5 _ _ nlp el4)
        have t6 : AllT H6 [u0, u1, u2, u3, u4] := (t4.but p4 b5).but p5 b6
        obtain ⟨w0, w1, w2, w3, w4, ew, tw⟩ := setT t6 tv (n := n) (by omega)
        refine ⟨.ref l, rfl, .int (n : Int), rfl, l, _, _, n, rfl, rfl, el6, ixN_at (by omega), ?_⟩
        refine goU fun H7 u7 e7 => ?_
        rw [ew] at e7
        refine ⟨fun b o e => u7 b o (ne_of_none e nl0) (b6 b o (ne_of_none e np) (b5 b o (ne_of_none e np) (sm4 b o e))), ?_, w0, w1, w2, w3, w4, _, _, e7, ?_, rfl⟩
        · obtain ⟨x, y, e, h1, h2⟩ := p6
          exact ⟨x, y, u7 _ _ (fun z => nlp z.symm) e, h1, h2⟩
        · exact fun x hx => (tw x hx).butl el6 (by show 2 ≤ 5; decide) u7
      · rintro σ H4 ⟨sm4, p4, u0, u1, u2, u3, u4, y4, y5, el4, t4, rfl⟩
        refine ⟨.ref p, rfl, p, 4, rfl, p4, by decide, by decide, fun H5 way b5 p5 w0 w1 => ?_⟩
        have el5 : H5 l = some (.lst [u0, u1, u2, u3, u4]) := b5 _ _ nlp el4
        have t5 : AllT H5 [u0, u1, u2, u3, u4] := t4.but p4 b5
        have S5 : Same H0 H5 := fun b o e => b5 b o (ne_of_none e np) (sm4 b o e)
        obtain ⟨ds, hds⟩ := t5.dat (K := K)
        obtain ⟨g1, g2, g3⟩ := hds.fits (by simp) (by show 5 ≤ 20; decide)
        -- kept
        refine ⟨.ref l, rfl, l, _, ds, rfl, SqL.of el5, by simp, hds.itm, g1, g2, g3, ?_⟩
        -- due
        refine ⟨.ref l, rfl, .int way, rfl, l, way, u0, u1, u2, u3, u4, rfl, el5, fun H6 e s6 ne ee => ?_⟩
        obtain ⟨r0, r1, r2, r3, r4, er, tr⟩ := due_all way (t5.same s6)
        rw [er] at ee
        -- wrong
        refine ⟨.ref e, rfl, e, r0, r1, r2, r3, r4, rfl, ee, tr, fun H7 s7 => ?_⟩
        obtain ⟨es, hes⟩ := (tr.same s7).dat (K := K)
        obtain ⟨k1, k2, k3⟩ := hes.fits (by simp) (by show 5 ≤ 20; decide)
        have S7 : Same H5 H7 := s6.trans s7
        have wl : wrongL (dueV way u0 u1 u2 u3 u4) = wrongF r0 r1 r2 r3 r4 := by rw [er]; rfl
        have wp := wrong_plain r0 r1 r2 r3 r4
        refine ⟨_, rfl, rfl, _, rfl, ?_⟩
        by_cases hw : wrongF r0 r1 r2 r3 r4 = Str.ofString ""
        · have ed : (!decide (V.str (wrongF r0 r1 r2 r3 r4) = V.str (Str.ofString ""))) = false := by rw [hw]; decide +kernel
          rw [ed]
          refine ⟨.ref e, rfl, e, _, es, rfl, SqL.of (s7 _ _ ee), by simp, hes.itm, k1, k2, k3, by show 2 ≤ sizeLine; decide, fun m nm => ?_⟩
          first | refine go nm fun H8 s8 em => ?_ | refine goT nm fun H8 s8 em => ?_
          have el8 : H8 l = some (.lst [u0, u1, u2, u3, u4]) := (S7.trans s8) _ _ el5
          have t8 : AllT H8 [u0, u1, u2, u3, u4] := t5.same (S7.trans s8)
          refine ⟨.ref l, rfl, .int way, rfl, l, way, u0, u1, u2, u3, u4, es, rfl, el8, t8, by rw [er]; exact hes.same s8, fun H9 pm s9 epm => ?_⟩
          rw [wl, if_pos hw] at epm
          refine ⟨.ref m, rfl, .list [.str (Str.ofString "made"), .str (textOf es)], .list [.str (Str.ofString "made"), .str (textOf es)], .lst (SqL.of epm) (.cons (.str _) (.cons (.str _) .nil)), .lst (SqL.of (s9 _ _ em)) (.cons (.str _) (.cons (.str _) .nil)), shaped2 (by decide +kernel) hes.ok, shaped2 (by decide +kernel) hes.ok, _, rfl, ?_⟩
          rw [eqv2 _ _ (by decide +kernel) hes.ok]
          have S9 : Same H5 H9 := (S7.trans s8).trans s9
          have el9 : H9 l = some (.lst [u0, u1, u2, u3, u4]) := S9 _ _ el5
          refine ⟨.ref l, rfl, l, _, ds, rfl, SqL.of el9, by simp, (hds.same S9).itm, g1, g2, g3, _, rfl, rfl, _, rfl, iteNS rfl ?_⟩
          exact ⟨sm.trans (S5.trans S9), by omega, _, _, _, _, _, _, _, _, _, _, rfl⟩
        · have ed : (!decide (V.str (wrongF r0 r1 r2 r3 r4) = V.str (Str.ofString ""))) = true := by rw [decide_eq_false (fun c => hw (V.str.inj c))]; rfl
          rw [ed]
          refine ⟨_, rfl, by show 2 ≤ sizeLine; decide, fun m nm => ?_⟩
          first | refine go nm fun H8 s8 em => ?_ | refine goT nm fun H8 s8 em => ?_
          have el8 : H8 l = some (.lst [u0, u1, u2, u3, u4]) := (S7.trans s8) _ _ el5
          have t8 : AllT H8 [u0, u1, u2, u3, u4] := t5.same (S7.trans s8)
          refine ⟨.ref l, rfl, .int way, rfl, l, way, u0, u1, u2, u3, u4, es, rfl, el8, t8, by rw [er]; exact hes.same s8, fun H9 pm s9 epm => ?_⟩
          rw [wl, if_neg hw] at epm
          refine ⟨.ref m, rfl, .list [.str (Str.ofString "refused"), .str (wrongF r0 r1 r2 r3 r4)], .list [.str (Str.ofString "refused"), .str (wrongF r0 r1 r2 r3 r4)], .lst (SqL.of epm) (.cons (.str _) (.cons (.str _) .nil)), .lst (SqL.of (s9 _ _ em)) (.cons (.str _) (.cons (.str _) .nil)), shaped2 (by decide +kernel) wp, shaped2 (by decide +kernel) wp, _, rfl, ?_⟩
          rw [eqv2 _ _ (by decide +kernel) wp]
          have S9 : Same H5 H9 := (S7.trans s8).trans s9
          have el9 : H9 l = some (.lst [u0, u1, u2, u3, u4]) := S9 _ _ el5
          refine ⟨.ref l, rfl, l, _, ds, rfl, SqL.of el9, by simp, (hds.same S9).itm, g1, g2, g3, _, rfl, rfl, _, rfl, iteNS rfl ?_⟩
          exact ⟨sm.trans (S5.trans S9), by omega, _, _, _, _, _, _, _, _, _, _, rfl⟩
    · rintro σ H0 ⟨sm, i100, x1, x2, x3, x4, x5, x6, x7, x8, x9, x10, rfl⟩
      exact q _
end
end WB

set_option Elab.async false
set_option linter.all false
set_option maxRecDepth 100000
set_option maxHeartbeats 4000000
namespace WB
open PySem PySem.Spec PyProof.Rows L2 WG
theorem df_mk {K : PySem.W.Frag} {h : Heap} {mg : Str → Option Value} {x : Str} {st : Stmt} {ps : List Str} {f : Addr} {oc : Value} {od an : Option Addr} {osl : Array (Option Value)} {kV doc pm cdv ct : Value} (X : K.In h) (G : h.Ns mainGlobals mg)
    (a : PySem.W.nsIn K mainGlobals x = some (some (.ref f))) (l : K.lookup f = some ⟨oc, od, .func (PySem.W.fnOf x x (defArgs st) (defBody st) (defScope st) .none kV doc pm an cdv ct), osl⟩)
    (c : PySem.W.codeIn K cdv x = true) (k : PySem.W.keepIn K (.ref f) = true)
    (b : ∀ (kV doc pm : Value) (an : Option Addr) (cdv ct : Value) (us : List Value), us.length = ps.length → bindArgs (PySem.W.fnOf x x (defArgs st) (defBody st) (defScope st) .none kV doc pm an cdv ct) ⟨us, []⟩ = pure (ps.zip us)) :
    Df K mg x st ps f (PySem.W.fnOf x x (defArgs st) (defBody st) (defScope st) .none kV doc pm an cdv ct) := by
  have F := fun_mk (st := st) l c k
  exact ⟨F, F.binds b, PySem.W.mg_of X G a⟩
theorem kit_sub {K : PySem.W.Frag} {a b : Addr} (h1 : PySem.W.hasDictIn K b = true) (h2 : PySem.W.typeIn K (.ref b) = some (.type "type")) (h3 : PySem.W.subIn K (.ref a) (.ref b) = some true) : PySem.W.kitOne K (.ref a) (.ref b) = some true := by
  obtain ⟨cd, hc, _⟩ := PySem.W.any_some h1
  unfold PySem.W.kitOne
  split
  · rfl
  · unfold PySem.W.kitCls
    dsimp only
    have e : ((PySem.W.clsIn K b).isSome && PySem.W.typeIn K (.ref b) == some (.type "type")) = true := by rw [hc, h2] <;> rfl
    rw [if_pos e]
    exact h3
/-! ### how a place's arguments bind -/
def pick {α : Type} (l : List α) (i : Nat) : List α := (l[i]?).toList
theorem pick_vals {vs : List V} {us : List Value} (h : Vals vs us) (i : Nat) : Vals (pick vs i) (pick us i) := by
  unfold pick
  have hl := h.length
  by_cases hi : i < vs.length
  · have hi2 : i < us.length := by omega
    obtain ⟨u, hu, r⟩ := h.get (List.getElem?_eq_getElem hi)
    rw [List.getElem?_eq_getElem hi, hu]
    exact .cons r .nil
  · rw [List.getElem?_eq_none (by omega), List.getElem?_eq_none (by omega)]
    exact .nil
def put3 {α : Type} (us its ws : List α) : List α := us ++ (pick ws 2 ++ (pick ws 1 ++ (pick its 1 ++ (pick ws 0 ++ pick its 3))))
def put5 {α : Type} (us its ws : List α) : List α := us ++ (pick ws 4 ++ (pick ws 3 ++ (pick ws 2 ++ (pick ws 1 ++ pick ws 0))))
abbrev initPs : List Str := ["self", "name", "many", "maker", "default", "about"]
section
variable {K : PySem.W.Frag} {f : Addr} {fd : FuncData}
abbrev InitD (K : PySem.W.Frag) (f : Addr) (fd : FuncData) : Prop := FunD K "__init__" "Place.__init__" (defArgs st_init) (defBody st_init) (defScope st_init) [.str (Str.ofString "one"), .str (Str.ofString "word"), .non, .str (Str.ofString "")] [] f fd
theorem init_b6 (F : InitD K f fd) : Binds K fd initPs [] := by
  obtain ⟨ds, hv, b⟩ := F.binds1 (ps := initPs) 6 4 (by simp) rfl (fun T kV doc pm an cdv ct us its h1 h2 => match us, its, h1, h2 with | [_, _, _, _, _, _], [_, _, _, _], _, _ => ⟨_, rfl, rfl⟩)
  cases hv
  exact b
theorem init_b1 (F : InitD K f fd) : ∃ ds, Vals [.str (Str.ofString "one"), .str (Str.ofString "word"), .non, .str (Str.ofString "")] ds ∧ Binds K fd initPs ds :=
  F.binds1 (ps := initPs) 2 0 (by simp) rfl (fun T kV doc pm an cdv ct us its h1 h2 => match us, its, h1, h2 with | [_, _], [_, _, _, _], _, _ => ⟨_, rfl, rfl⟩)
theorem init_k3 (F : InitD K f fd) : ∃ its : List Value, KBn K fd initPs 1 ["default", "many", "name"] (fun us ws => put3 us its ws) (fun vs zs => put3 vs [.str (Str.ofString "one"), .str (Str.ofString "word"), .non, .str (Str.ofString "")] zs) :=
  F.kbindsD (ps := initPs) 1 ["default", "many", "name"] (fun us its ws => put3 us its ws) (by simp) (fun h1 h2 h3 => h1.append ((pick_vals h3 2).append ((pick_vals h3 1).append ((pick_vals h2 1).append ((pick_vals h3 0).append (pick_vals h2 3))))))
    (fun T kV doc pm an cdv ct us its ws h1 h2 h3 => match us, its, ws, h1, h2, h3 with | [_], [_, _, _, _], [_, _, _], _, _, _ => ⟨_, rfl, rfl⟩)
theorem init_k5 (F : InitD K f fd) : ∃ its : List Value, KBn K fd initPs 1 ["about", "default", "maker", "many", "name"] (fun us ws => put5 us its ws) (fun vs zs => put5 vs [.str (Str.ofString "one"), .str (Str.ofString "word"), .non, .str (Str.ofString "")] zs) :=
  F.kbindsD (ps := initPs) 1 ["about", "default", "maker", "many", "name"] (fun us its ws => put5 us its ws) (by simp) (fun h1 h2 h3 => h1.append ((pick_vals h3 4).append ((pick_vals h3 3).append ((pick_vals h3 2).append ((pick_vals h3 1).append (pick_vals h3 0))))))
    (fun T kV doc pm an cdv ct us its ws h1 h2 h3 => match us, its, ws, h1, h2, h3 with | [_], [_, _, _, _], [_, _, _, _, _], _, _, _ => ⟨_, rfl, rfl⟩)
end
theorem all_mk {l : PySem.W.OpenLaw} {w : World} {K : PySem.W.Frag} {h : Heap} {mg : Str → Option Value} {fa : Addr} (X : K.In h) (G : h.Ns mainGlobals mg) (hfa : mg "law" = some (.ref fa))
    {fWithin : Addr} {odWithin anWithin : Option Addr} {slWithin : Array (Option Value)} {ocWithin kVWithin dcWithin pmWithin cdWithin ctWithin : Value} {fIsName : Addr} {odIsName anIsName : Option Addr} {slIsName : Array (Option Value)} {ocIsName kVIsName dcIsName pmIsName cdIsName ctIsName : Value} {fIsAbout : Addr} {odIsAbout anIsAbout : Option Addr} {slIsAbout : Array (Option Value)} {ocIsAbout kVIsAbout dcIsAbout pmIsAbout cdIsAbout ctIsAbout : Value} {fIsAmong : Addr} {odIsAmong anIsAmong : Option Addr} {slIsAmong : Array (Option Value)} {ocIsAmong kVIsAmong dcIsAmong pmIsAmong cdIsAmong ctIsAmong : Value} {fIsDefault : Addr} {odIsDefault anIsDefault : Option Addr} {slIsDefault : Array (Option Value)} {ocIsDefault kVIsDefault dcIsDefault pmIsDefault cdIsDefault ctIsDefault : Value} {fCell : Addr} {odCell anCell : Option Addr} {slCell : Array (Option Value)} {ocCell kVCell dcCell pmCell cdCell ctCell : Value} {fPot : Addr} {odPot anPot : Option Addr} {slPot : Array (Option Value)} {ocPot kVPot dcPot pmPot cdPot ctPot : Value} {fTake : Addr} {odTake anTake : Option Addr} {slTake : Array (Option Value)} {ocTake kVTake dcTake pmTake cdTake ctTake : Value} {fName : Addr} {odName anName : Option Addr} {slName : Array (Option Value)} {ocName kVName dcName pmName cdName ctName : Value} {fSigns : Addr} {odSigns anSigns : Option Addr} {slSigns : Array (Option Value)} {ocSigns kVSigns dcSigns pmSigns cdSigns ctSigns : Value} {fAbout : Addr} {odAbout anAbout : Option Addr} {slAbout : Array (Option Value)} {ocAbout kVAbout dcAbout pmAbout cdAbout ctAbout : Value} {fText : Addr} {odText anText : Option Addr} {slText : Array (Option Value)} {ocText kVText dcText pmText cdText ctText : Value} {fWName : Addr} {odWName anWName : Option Addr} {slWName : Array (Option Value)} {ocWName kVWName dcWName pmWName cdWName ctWName : Value} {fWAbout : Addr} {odWAbout anWAbout : Option Addr} {slWAbout : Array (Option Value)} {ocWAbout kVWAbout dcWAbout pmWAbout cdWAbout ctWAbout : Value} {fGood : Addr} {odGood anGood : Option Addr} {slGood : Array (Option Value)} {ocGood kVGood dcGood pmGood cdGood ctGood : Value} {fOdd : Addr} {odOdd anOdd : Option Addr} {slOdd : Array (Option Value)} {ocOdd kVOdd dcOdd pmOdd cdOdd ctOdd : Value} {fWrong : Addr} {odWrong anWrong : Option Addr} {slWrong : Array (Option Value)} {ocWrong kVWrong dcWrong pmWrong cdWrong ctWrong : Value} {fDue : Addr} {odDue anDue : Option Addr} {slDue : Array (Option Value)} {ocDue kVDue dcDue pmDue cdDue ctDue : Value} {fMade : Addr} {odMade anMade : Option Addr} {slMade : Array (Option Value)} {ocMade kVMade dcMade pmMade cdMade ctMade : Value} {fMet : Addr} {odMet anMet : Option Addr} {slMet : Array (Option Value)} {ocMet kVMet dcMet pmMet cdMet ctMet : Value} {fLaw : Addr} {odLaw anLaw : Option Addr} {slLaw : Array (Option Value)} {ocLaw kVLaw dcLaw pmLaw cdLaw ctLaw : Value} {CN BE : Addr} {nm q : Str} {NN : Addr} {bs : List Value} {sn : List Str} {sub : List Value} {ab : Bool} {col : Option Bool} {dd : Option Addr} {m0 m1 m2 m3 m5 : Option Value} {fE : Addr} {odE anE : Option Addr} {slE : Array (Option Value)} {ocE kVE dcE pmE cdE ctE : Value} {C T : Addr} {odT : Option Addr} {ocT : Value} {t1 t2 t3 : Tok} {nT : Nat} {slT : Array (Option Value)} {fI : Addr} {odI anI : Option Addr} {slI : Array (Option Value)} {ocI kVI dcI pmI cdI ctI : Value} {fM0 : Addr} {odM0 anM0 : Option Addr} {slM0 : Array (Option Value)} {ocM0 kVM0 dcM0 pmM0 cdM0 ctM0 : Value} {fM1 : Addr} {odM1 anM1 : Option Addr} {slM1 : Array (Option Value)} {ocM1 kVM1 dcM1 pmM1 cdM1 ctM1 : Value} {fM2 : Addr} {odM2 anM2 : Option Addr} {slM2 : Array (Option Value)} {ocM2 kVM2 dcM2 pmM2 cdM2 ctM2 : Value} {fM3 : Addr} {odM3 anM3 : Option Addr} {slM3 : Array (Option Value)} {ocM3 kVM3 dcM3 pmM3 cdM3 ctM3 : Value} {fM4 : Addr} {odM4 anM4 : Option Addr} {slM4 : Array (Option Value)} {ocM4 kVM4 dcM4 pmM4 cdM4 ctM4 : Value} {u1 u2 u3 u4 : Tok} {aM : Addr} {odM : Option Addr} {s1 s2 s3 s4 : Tok} {nM : Nat} {slM : Array (Option Value)}
    (aWithin : PySem.W.nsIn K mainGlobals "is_text_within" = some (some (.ref fWithin)))
    (lWithin : K.lookup fWithin = some ⟨ocWithin, odWithin, .func (PySem.W.fnOf "is_text_within" "is_text_within" (defArgs st_is_text_within) (defBody st_is_text_within) (defScope st_is_text_within) .none kVWithin dcWithin pmWithin anWithin cdWithin ctWithin), slWithin⟩)
    (cWithin : PySem.W.codeIn K cdWithin "is_text_within" = true)
    (kWithin : PySem.W.keepIn K (.ref fWithin) = true)
    (aIsName : PySem.W.nsIn K mainGlobals "is_name" = some (some (.ref fIsName)))
    (lIsName : K.lookup fIsName = some ⟨ocIsName, odIsName, .func (PySem.W.fnOf "is_name" "is_name" (defArgs st_is_name) (defBody st_is_name) (defScope st_is_name) .none kVIsName dcIsName pmIsName anIsName cdIsName ctIsName), slIsName⟩)
    (cIsName : PySem.W.codeIn K cdIsName "is_name" = true)
    (kIsName : PySem.W.keepIn K (.ref fIsName) = true)
    (aIsAbout : PySem.W.nsIn K mainGlobals "is_about" = some (some (.ref fIsAbout)))
    (lIsAbout : K.lookup fIsAbout = some ⟨ocIsAbout, odIsAbout, .func (PySem.W.fnOf "is_about" "is_about" (defArgs st_is_about) (defBody st_is_about) (defScope st_is_about) .none kVIsAbout dcIsAbout pmIsAbout anIsAbout cdIsAbout ctIsAbout), slIsAbout⟩)
    (cIsAbout : PySem.W.codeIn K cdIsAbout "is_about" = true)
    (kIsAbout : PySem.W.keepIn K (.ref fIsAbout) = true)
    (aIsAmong : PySem.W.nsIn K mainGlobals "is_among" = some (some (.ref fIsAmong)))
    (lIsAmong : K.lookup fIsAmong = some ⟨ocIsAmong, odIsAmong, .func (PySem.W.fnOf "is_among" "is_among" (defArgs st_is_among) (defBody st_is_among) (defScope st_is_among) .none kVIsAmong dcIsAmong pmIsAmong anIsAmong cdIsAmong ctIsAmong), slIsAmong⟩)
    (cIsAmong : PySem.W.codeIn K cdIsAmong "is_among" = true)
    (kIsAmong : PySem.W.keepIn K (.ref fIsAmong) = true)
    (aIsDefault : PySem.W.nsIn K mainGlobals "is_default" = some (some (.ref fIsDefault)))
    (lIsDefault : K.lookup fIsDefault = some ⟨ocIsDefault, odIsDefault, .func (PySem.W.fnOf "is_default" "is_default" (defArgs st_is_default) (defBody st_is_default) (defScope st_is_default) .none kVIsDefault dcIsDefault pmIsDefault anIsDefault cdIsDefault ctIsDefault), slIsDefault⟩)
    (cIsDefault : PySem.W.codeIn K cdIsDefault "is_default" = true)
    (kIsDefault : PySem.W.keepIn K (.ref fIsDefault) = true)
    (aCell : PySem.W.nsIn K mainGlobals "_law_cell" = some (some (.ref fCell)))
    (lCell : K.lookup fCell = some ⟨ocCell, odCell, .func (PySem.W.fnOf "_law_cell" "_law_cell" (defArgs sCell) (defBody sCell) (defScope sCell) .none kVCell dcCell pmCell anCell cdCell ctCell), slCell⟩)
    (cCell : PySem.W.codeIn K cdCell "_law_cell" = true)
    (kCell : PySem.W.keepIn K (.ref fCell) = true)
    (aPot : PySem.W.nsIn K mainGlobals "_law_pot" = some (some (.ref fPot)))
    (lPot : K.lookup fPot = some ⟨ocPot, odPot, .func (PySem.W.fnOf "_law_pot" "_law_pot" (defArgs sPot) (defBody sPot) (defScope sPot) .none kVPot dcPot pmPot anPot cdPot ctPot), slPot⟩)
    (cPot : PySem.W.codeIn K cdPot "_law_pot" = true)
    (kPot : PySem.W.keepIn K (.ref fPot) = true)
    (aTake : PySem.W.nsIn K mainGlobals "_law_take" = some (some (.ref fTake)))
    (lTake : K.lookup fTake = some ⟨ocTake, odTake, .func (PySem.W.fnOf "_law_take" "_law_take" (defArgs sTake) (defBody sTake) (defScope sTake) .none kVTake dcTake pmTake anTake cdTake ctTake), slTake⟩)
    (cTake : PySem.W.codeIn K cdTake "_law_take" = true)
    (kTake : PySem.W.keepIn K (.ref fTake) = true)
    (aName : PySem.W.nsIn K mainGlobals "_law_name" = some (some (.ref fName)))
    (lName : K.lookup fName = some ⟨ocName, odName, .func (PySem.W.fnOf "_law_name" "_law_name" (defArgs sName) (defBody sName) (defScope sName) .none kVName dcName pmName anName cdName ctName), slName⟩)
    (cName : PySem.W.codeIn K cdName "_law_name" = true)
    (kName : PySem.W.keepIn K (.ref fName) = true)
    (aSigns : PySem.W.nsIn K mainGlobals "_law_signs" = some (some (.ref fSigns)))
    (lSigns : K.lookup fSigns = some ⟨ocSigns, odSigns, .func (PySem.W.fnOf "_law_signs" "_law_signs" (defArgs sSigns) (defBody sSigns) (defScope sSigns) .none kVSigns dcSigns pmSigns anSigns cdSigns ctSigns), slSigns⟩)
    (cSigns : PySem.W.codeIn K cdSigns "_law_signs" = true)
    (kSigns : PySem.W.keepIn K (.ref fSigns) = true)
    (aAbout : PySem.W.nsIn K mainGlobals "_law_about" = some (some (.ref fAbout)))
    (lAbout : K.lookup fAbout = some ⟨ocAbout, odAbout, .func (PySem.W.fnOf "_law_about" "_law_about" (defArgs sAbout) (defBody sAbout) (defScope sAbout) .none kVAbout dcAbout pmAbout anAbout cdAbout ctAbout), slAbout⟩)
    (cAbout : PySem.W.codeIn K cdAbout "_law_about" = true)
    (kAbout : PySem.W.keepIn K (.ref fAbout) = true)
    (aText : PySem.W.nsIn K mainGlobals "_law_text" = some (some (.ref fText)))
    (lText : K.lookup fText = some ⟨ocText, odText, .func (PySem.W.fnOf "_law_text" "_law_text" (defArgs sText) (defBody sText) (defScope sText) .none kVText dcText pmText anText cdText ctText), slText⟩)
    (cText : PySem.W.codeIn K cdText "_law_text" = true)
    (kText : PySem.W.keepIn K (.ref fText) = true)
    (aWName : PySem.W.nsIn K mainGlobals "_law_is_name" = some (some (.ref fWName)))
    (lWName : K.lookup fWName = some ⟨ocWName, odWName, .func (PySem.W.fnOf "_law_is_name" "_law_is_name" (defArgs st_w_is_name) (defBody st_w_is_name) (defScope st_w_is_name) .none kVWName dcWName pmWName anWName cdWName ctWName), slWName⟩)
    (cWName : PySem.W.codeIn K cdWName "_law_is_name" = true)
    (kWName : PySem.W.keepIn K (.ref fWName) = true)
    (aWAbout : PySem.W.nsIn K mainGlobals "_law_is_about" = some (some (.ref fWAbout)))
    (lWAbout : K.lookup fWAbout = some ⟨ocWAbout, odWAbout, .func (PySem.W.fnOf "_law_is_about" "_law_is_about" (defArgs st_w_is_about) (defBody st_w_is_about) (defScope st_w_is_about) .none kVWAbout dcWAbout pmWAbout anWAbout cdWAbout ctWAbout), slWAbout⟩)
    (cWAbout : PySem.W.codeIn K cdWAbout "_law_is_about" = true)
    (kWAbout : PySem.W.keepIn K (.ref fWAbout) = true)
    (aGood : PySem.W.nsIn K mainGlobals "_law_good" = some (some (.ref fGood)))
    (lGood : K.lookup fGood = some ⟨ocGood, odGood, .func (PySem.W.fnOf "_law_good" "_law_good" (defArgs st_good) (defBody st_good) (defScope st_good) .none kVGood dcGood pmGood anGood cdGood ctGood), slGood⟩)
    (cGood : PySem.W.codeIn K cdGood "_law_good" = true)
    (kGood : PySem.W.keepIn K (.ref fGood) = true)
    (aOdd : PySem.W.nsIn K mainGlobals "_law_odd" = some (some (.ref fOdd)))
    (lOdd : K.lookup fOdd = some ⟨ocOdd, odOdd, .func (PySem.W.fnOf "_law_odd" "_law_odd" (defArgs st_odd) (defBody st_odd) (defScope st_odd) .none kVOdd dcOdd pmOdd anOdd cdOdd ctOdd), slOdd⟩)
    (cOdd : PySem.W.codeIn K cdOdd "_law_odd" = true)
    (kOdd : PySem.W.keepIn K (.ref fOdd) = true)
    (aWrong : PySem.W.nsIn K mainGlobals "_law_wrong" = some (some (.ref fWrong)))
    (lWrong : K.lookup fWrong = some ⟨ocWrong, odWrong, .func (PySem.W.fnOf "_law_wrong" "_law_wrong" (defArgs st_wrong) (defBody st_wrong) (defScope st_wrong) .none kVWrong dcWrong pmWrong anWrong cdWrong ctWrong), slWrong⟩)
    (cWrong : PySem.W.codeIn K cdWrong "_law_wrong" = true)
    (kWrong : PySem.W.keepIn K (.ref fWrong) = true)
    (aDue : PySem.W.nsIn K mainGlobals "_law_due" = some (some (.ref fDue)))
    (lDue : K.lookup fDue = some ⟨ocDue, odDue, .func (PySem.W.fnOf "_law_due" "_law_due" (defArgs st_due) (defBody st_due) (defScope st_due) .none kVDue dcDue pmDue anDue cdDue ctDue), slDue⟩)
    (cDue : PySem.W.codeIn K cdDue "_law_due" = true)
    (kDue : PySem.W.keepIn K (.ref fDue) = true)
    (aMade : PySem.W.nsIn K mainGlobals "_law_made" = some (some (.ref fMade)))
    (lMade : K.lookup fMade = some ⟨ocMade, odMade, .func (PySem.W.fnOf "_law_made" "_law_made" (defArgs st_made) (defBody st_made) (defScope st_made) .none kVMade dcMade pmMade anMade cdMade ctMade), slMade⟩)
    (cMade : PySem.W.codeIn K cdMade "_law_made" = true)
    (kMade : PySem.W.keepIn K (.ref fMade) = true)
    (aMet : PySem.W.nsIn K mainGlobals "_law_met" = some (some (.ref fMet)))
    (lMet : K.lookup fMet = some ⟨ocMet, odMet, .func (PySem.W.fnOf "_law_met" "_law_met" (defArgs st_met) (defBody st_met) (defScope st_met) .none kVMet dcMet pmMet anMet cdMet ctMet), slMet⟩)
    (cMet : PySem.W.codeIn K cdMet "_law_met" = true)
    (kMet : PySem.W.keepIn K (.ref fMet) = true)
    (aLaw : PySem.W.nsIn K mainGlobals "law" = some (some (.ref fLaw)))
    (lLaw : K.lookup fLaw = some ⟨ocLaw, odLaw, .func (PySem.W.fnOf "law" "law" (defArgs st_law) (defBody st_law) (defScope st_law) .none kVLaw dcLaw pmLaw anLaw cdLaw ctLaw), slLaw⟩)
    (cLaw : PySem.W.codeIn K cdLaw "law" = true)
    (kLaw : PySem.W.keepIn K (.ref fLaw) = true)
    (aB : PySem.W.nsIn K mainGlobals "BenchError" = some (some (.ref BE)))
    (aN : PySem.W.nsIn K mainGlobals "NoPlace" = some (some (.ref CN)))
    (xN : K.lookup CN = some (excClassObj nm q CN NN bs [.ref BE, .type "ValueError", .type "Exception", .type "BaseException", .type "object"] true sn sub ab col dd m0 m1 m2 m3 m5 "ValueError.__new__"))
    (aE : PySem.W.findIn K (.ref CN) "__init__" = some (some (.ref fE)))
    (lE : K.lookup fE = some ⟨ocE, odE, .func (PySem.W.fnOf "__init__" "NoPlace.__init__" (defArgs st_err) (defBody st_err) (defScope st_err) .none kVE dcE pmE anE cdE ctE), slE⟩)
    (cE : PySem.W.codeIn K cdE "NoPlace.__init__" = true)
    (kE : PySem.W.keepIn K (.ref fE) = true)
    (tE : PySem.W.typeIn K (.ref fE) = some (.type "function"))
    (saN : PySem.W.findIn K (.ref CN) "__setattr__" = some (some (.builtin "object.__setattr__")))
    (gaN : PySem.W.findIn K (.ref CN) "__getattribute__" = some (some (.builtin "BaseException.__getattribute__")))
    (ggN : PySem.W.findIn K (.ref CN) "__getattr__" = some none)
    (nfN : PySem.W.findIn K (.ref CN) "field" = some none)
    (hcN : PySem.W.findIn K (.ref CN) "__class__" = some (some (.builtin "object.__class__")))
    (kN : PySem.W.keepIn K (.ref CN) = true)
    (eN : PySem.W.subIn K (.ref CN) (.type "BaseException") = some true)
    (tN : PySem.W.typeIn K (.ref CN) = some (.type "type"))
    (hdN : PySem.W.hasDictIn K CN = true)
    (sN : PySem.W.subIn K (.ref CN) (.ref CN) = some true)
    (spN : PySem.W.specialIn K (.builtin "object.__class__") "__get__" = some (some (.builtin "getset_descriptor.__get__")))
    (tkN : PySem.W.takesIn K (.builtin "object.__class__") = some true)
    (moN : PySem.W.mroIn K CN (.type "object") = some true)
    (tB : PySem.W.typeIn K (.ref BE) = some (.type "type"))
    (hdB : PySem.W.hasDictIn K BE = true)
    (sB : PySem.W.subIn K (.ref CN) (.ref BE) = some true)
    (aC : PySem.W.nsIn K mainGlobals "Place" = some (some (.ref C)))
    (aI : PySem.W.findIn K (.ref C) "__init__" = some (some (.ref fI)))
    (lI : K.lookup fI = some ⟨ocI, odI, .func (PySem.W.fnOf "__init__" "Place.__init__" (defArgs st_init) (defBody st_init) (defScope st_init) (.ref T) kVI dcI pmI anI cdI ctI), slI⟩)
    (cI : PySem.W.codeIn K cdI "Place.__init__" = true)
    (kI : PySem.W.keepIn K (.ref fI) = true)
    (iI : PySem.W.isFn K (.ref fI) = true)
    (lT : K.lookup T = some ⟨ocT, odT, .seq [.str (Str.ofString "one") t1, .str (Str.ofString "word") t2, .none, .str (Str.ofString "") t3].toArray nT, slT⟩)
    (aM0 : PySem.W.findIn K (.ref C) "name" = some (some (.ref fM0)))
    (lM0 : K.lookup fM0 = some ⟨ocM0, odM0, .func (PySem.W.fnOf "name" "Place.name" (defArgs (st_get 0)) (defBody (st_get 0)) (defScope (st_get 0)) .none kVM0 dcM0 pmM0 anM0 cdM0 ctM0), slM0⟩)
    (cM0 : PySem.W.codeIn K cdM0 "Place.name" = true)
    (kM0 : PySem.W.keepIn K (.ref fM0) = true)
    (iM0 : PySem.W.isFn K (.ref fM0) = true)
    (aM1 : PySem.W.findIn K (.ref C) "many" = some (some (.ref fM1)))
    (lM1 : K.lookup fM1 = some ⟨ocM1, odM1, .func (PySem.W.fnOf "many" "Place.many" (defArgs (st_get 1)) (defBody (st_get 1)) (defScope (st_get 1)) .none kVM1 dcM1 pmM1 anM1 cdM1 ctM1), slM1⟩)
    (cM1 : PySem.W.codeIn K cdM1 "Place.many" = true)
    (kM1 : PySem.W.keepIn K (.ref fM1) = true)
    (iM1 : PySem.W.isFn K (.ref fM1) = true)
    (aM2 : PySem.W.findIn K (.ref C) "maker" = some (some (.ref fM2)))
    (lM2 : K.lookup fM2 = some ⟨ocM2, odM2, .func (PySem.W.fnOf "maker" "Place.maker" (defArgs (st_get 2)) (defBody (st_get 2)) (defScope (st_get 2)) .none kVM2 dcM2 pmM2 anM2 cdM2 ctM2), slM2⟩)
    (cM2 : PySem.W.codeIn K cdM2 "Place.maker" = true)
    (kM2 : PySem.W.keepIn K (.ref fM2) = true)
    (iM2 : PySem.W.isFn K (.ref fM2) = true)
    (aM3 : PySem.W.findIn K (.ref C) "default" = some (some (.ref fM3)))
    (lM3 : K.lookup fM3 = some ⟨ocM3, odM3, .func (PySem.W.fnOf "default" "Place.default" (defArgs (st_get 3)) (defBody (st_get 3)) (defScope (st_get 3)) .none kVM3 dcM3 pmM3 anM3 cdM3 ctM3), slM3⟩)
    (cM3 : PySem.W.codeIn K cdM3 "Place.default" = true)
    (kM3 : PySem.W.keepIn K (.ref fM3) = true)
    (iM3 : PySem.W.isFn K (.ref fM3) = true)
    (aM4 : PySem.W.findIn K (.ref C) "about" = some (some (.ref fM4)))
    (lM4 : K.lookup fM4 = some ⟨ocM4, odM4, .func (PySem.W.fnOf "about" "Place.about" (defArgs (st_get 4)) (defBody (st_get 4)) (defScope (st_get 4)) .none kVM4 dcM4 pmM4 anM4 cdM4 ctM4), slM4⟩)
    (cM4 : PySem.W.codeIn K cdM4 "Place.about" = true)
    (kM4 : PySem.W.keepIn K (.ref fM4) = true)
    (iM4 : PySem.W.isFn K (.ref fM4) = true)
    (pgC : PySem.W.plainGet K C Str.empty = true)
    (hdC : PySem.W.hasDictIn K C = true)
    (poC : PySem.W.plainOver K C = true)
    (saC : PySem.W.findIn K (.ref C) "__setattr__" = some (some (.builtin "object.__setattr__")))
    (nhC : PySem.W.findIn K (.ref C) "held" = some none)
    (mkC : PySem.W.makesIn K C = true)
    (kC : PySem.W.keepIn K (.ref C) = true)
    (v1 : PySem.W.nsIn K mainGlobals "MOST_NAME_SIGNS" = some (some (.int 10 u1)))
    (v2 : PySem.W.nsIn K mainGlobals "NAME_SIGNS" = some (some (.str nameSet u2)))
    (v3 : PySem.W.nsIn K mainGlobals "MOST_ABOUT_SIGNS" = some (some (.int 200 u3)))
    (v4 : PySem.W.nsIn K mainGlobals "MOST_DEFAULT_SIGNS" = some (some (.int 60 u4)))
    (v5 : PySem.W.nsIn K mainGlobals "MANIES" = some (some (.ref aM)))
    (lM : K.lookup aM = some ⟨.type "tuple", odM, .seq [.str (Str.ofString "one") s1, .str (Str.ofString "maybe") s2, .str (Str.ofString "some") s3, .str (Str.ofString "any") s4].toArray nM, slM⟩)
    (z_len : PySem.W.nsIn K mainGlobals "len" = some none)
    (z_max : PySem.W.nsIn K mainGlobals "max" = some none)
    (z_min : PySem.W.nsIn K mainGlobals "min" = some none)
    (z_abs : PySem.W.nsIn K mainGlobals "abs" = some none)
    (z_range : PySem.W.nsIn K mainGlobals "range" = some none)
    (z_list : PySem.W.nsIn K mainGlobals "list" = some none)
    (z_repr : PySem.W.nsIn K mainGlobals "repr" = some none)
    (z_str : PySem.W.nsIn K mainGlobals "str" = some none)
    (z_isinstance : PySem.W.nsIn K mainGlobals "isinstance" = some none)
    (z_all : PySem.W.nsIn K mainGlobals "all" = some none) :
    ∃ fd : FuncData, (∀ (s : Shared) (v : Value), BindsTo s fd ⟨[v], []⟩ [("_law_script", v)]) ∧ ∀ base : Heap, K.In base → base.Ns mainGlobals mg → GOk l.prog w K mg base CX0 7 fa fd ["_law_script"] (spLaw K) := by
  have e := hfa.symm.trans (PySem.W.mg_of X G aLaw)
  cases e
  have g0 : ∀ {x : Str}, PySem.W.nsIn K mainGlobals x = some none → mg x = none := fun {x} z => PySem.W.mg_none_of X G z
  have DWithin := df_mk (st := st_is_text_within) (ps := ["value", "most"]) X G aWithin lWithin cWithin kWithin fun _ _ _ _ _ _ us hl => match us, hl with | [_, _], _ => rfl
  have DIsName := df_mk (st := st_is_name) (ps := ["value"]) X G aIsName lIsName cIsName kIsName fun _ _ _ _ _ _ us hl => match us, hl with | [_], _ => rfl
  have DIsAbout := df_mk (st := st_is_about) (ps := ["value"]) X G aIsAbout lIsAbout cIsAbout kIsAbout fun _ _ _ _ _ _ us hl => match us, hl with | [_], _ => rfl
  have DIsAmong := df_mk (st := st_is_among) (ps := ["value", "texts"]) X G aIsAmong lIsAmong cIsAmong kIsAmong fun _ _ _ _ _ _ us hl => match us, hl with | [_, _], _ => rfl
  have DIsDefault := df_mk (st := st_is_default) (ps := ["value", "allowed"]) X G aIsDefault lIsDefault cIsDefault kIsDefault fun _ _ _ _ _ _ us hl => match us, hl with | [_, _], _ => rfl
  have DCell := df_mk (st := sCell) (ps := ["_law_script", "_law_k"]) X G aCell lCell cCell kCell fun _ _ _ _ _ _ us hl => match us, hl with | [_, _], _ => rfl
  have DPot := df_mk (st := sPot) (ps := ["_law_script", "_law_k"]) X G aPot lPot cPot kPot fun _ _ _ _ _ _ us hl => match us, hl with | [_, _], _ => rfl
  have DTake := df_mk (st := sTake) (ps := ["_law_pot_here", "_law_room"]) X G aTake lTake cTake kTake fun _ _ _ _ _ _ us hl => match us, hl with | [_, _], _ => rfl
  have DName := df_mk (st := sName) (ps := ["_law_pot_here"]) X G aName lName cName kName fun _ _ _ _ _ _ us hl => match us, hl with | [_], _ => rfl
  have DSigns := df_mk (st := sSigns) (ps := ["_law_pot_here", "_law_most"]) X G aSigns lSigns cSigns kSigns fun _ _ _ _ _ _ us hl => match us, hl with | [_, _], _ => rfl
  have DAbout := df_mk (st := sAbout) (ps := ["_law_pot_here"]) X G aAbout lAbout cAbout kAbout fun _ _ _ _ _ _ us hl => match us, hl with | [_], _ => rfl
  have DText := df_mk (st := sText) (ps := ["_law_pot_here"]) X G aText lText cText kText fun _ _ _ _ _ _ us hl => match us, hl with | [_], _ => rfl
  have DWName := df_mk (st := st_w_is_name) (ps := ["_law_thing"]) X G aWName lWName cWName kWName fun _ _ _ _ _ _ us hl => match us, hl with | [_], _ => rfl
  have DWAbout := df_mk (st := st_w_is_about) (ps := ["_law_thing"]) X G aWAbout lWAbout cWAbout kWAbout fun _ _ _ _ _ _ us hl => match us, hl with | [_], _ => rfl
  have DGood := df_mk (st := st_good) (ps := ["_law_pot_here"]) X G aGood lGood cGood kGood fun _ _ _ _ _ _ us hl => match us, hl with | [_], _ => rfl
  have DOdd := df_mk (st := st_odd) (ps := ["_law_pot_here", "_law_at"]) X G aOdd lOdd cOdd kOdd fun _ _ _ _ _ _ us hl => match us, hl with | [_, _], _ => rfl
  have DWrong := df_mk (st := st_wrong) (ps := ["_law_told"]) X G aWrong lWrong cWrong kWrong fun _ _ _ _ _ _ us hl => match us, hl with | [_], _ => rfl
  have DDue := df_mk (st := st_due) (ps := ["_law_told", "_law_way"]) X G aDue lDue cDue kDue fun _ _ _ _ _ _ us hl => match us, hl with | [_, _], _ => rfl
  have DMade := df_mk (st := st_made) (ps := ["_law_told", "_law_way"]) X G aMade lMade cMade kMade fun _ _ _ _ _ _ us hl => match us, hl with | [_, _], _ => rfl
  have DMet := df_mk (st := st_met) (ps := ["_law_told", "_law_way"]) X G aMet lMet cMet kMet fun _ _ _ _ _ _ us hl => match us, hl with | [_, _], _ => rfl
  have FLaw := fun_mk (st := st_law) lLaw cLaw kLaw
  have FE := fun_mk (st := st_err) lE cE kE
  have bE := FE.binds (ps := ["self", "field"]) fun _ _ _ _ _ _ us hl => match us, hl with | [_, _], _ => rfl
  have TE : ErrT K mg "NoPlace" CN fE _ := ⟨⟨⟨nm, q, NN, bs, _, sn, sub, ab, col, dd, m0, m1, m2, m3, m5, xN, rfl⟩, saN, eN, tN, kN⟩, aE, tE, nfN, PySem.W.mg_of X G aN, bE⟩
  have TX : XfC K CN := ⟨gaN, ggN, eN, hdN⟩
  have TC : ExcC K CN := ⟨gaN, ggN, eN, hdN, hcN, spN, tkN, moN⟩
  have FI : InitD K fI _ := ⟨⟨_, _, _, _, _, _, _, _, _, _, rfl, lI, cI, .inr ⟨by simp, T, _, _, _, rfl, lT, rfl, .cons ⟨_, rfl⟩ (.cons ⟨_, rfl⟩ (.cons rfl (.cons ⟨_, rfl⟩ .nil)))⟩, .inl rfl⟩, kI⟩
  have TT : ClsT K C := ⟨⟨pgC, hdC, poC, saC⟩, nhC⟩
  obtain ⟨ds1, hv1, b1⟩ := init_b1 FI
  obtain ⟨its3, kb3⟩ := init_k3 FI
  obtain ⟨its5, kb5⟩ := init_k5 FI
  have FM0 := fun_mk (st := st_get 0) lM0 cM0 kM0
  have FM1 := fun_mk (st := st_get 1) lM1 cM1 kM1
  have FM2 := fun_mk (st := st_get 2) lM2 cM2 kM2
  have FM3 := fun_mk (st := st_get 3) lM3 cM3 kM3
  have FM4 := fun_mk (st := st_get 4) lM4 cM4 kM4
  have bM0 := FM0.binds (ps := ["self"]) fun _ _ _ _ _ _ us hl => match us, hl with | [_], _ => rfl
  have bM1 := FM1.binds (ps := ["self"]) fun _ _ _ _ _ _ us hl => match us, hl with | [_], _ => rfl
  have bM2 := FM2.binds (ps := ["self"]) fun _ _ _ _ _ _ us hl => match us, hl with | [_], _ => rfl
  have bM3 := FM3.binds (ps := ["self"]) fun _ _ _ _ _ _ us hl => match us, hl with | [_], _ => rfl
  have bM4 := FM4.binds (ps := ["self"]) fun _ _ _ _ _ _ us hl => match us, hl with | [_], _ => rfl
  have hM : ∀ H : Hp, SqT K H aM (manies.map V.str) := fun H => .inr ⟨_, _, _, lM, rfl, rfl, by simp [sizeLine_eq], .cons ⟨_, rfl⟩ (.cons ⟨_, rfl⟩ (.cons ⟨_, rfl⟩ (.cons ⟨_, rfl⟩ .nil)))⟩
  refine ⟨_, fun s v => ?_, fun base _ _ => ok_law FLaw DCell DPot DTake DName DAbout DText DSigns DGood DOdd DDue DWrong DWName DWAbout DMet ?_ (g0 z_len) (g0 z_max) (g0 z_min) (g0 z_abs) (g0 z_range) (g0 z_list) (g0 z_repr) (g0 z_str) (g0 z_isinstance)⟩
  · exact .of_eq rfl
  · have GI : FnOk l.prog w K mg base (L2.CX l.prog w) 3 fI _ initPs (spInit C CN) := ok_init FI FE TE TT DWithin DIsName DIsAbout DIsAmong DIsDefault (g0 z_len) (g0 z_str) (g0 z_isinstance) (g0 z_all) (PySem.W.mg_of X G v1) (PySem.W.mg_of X G v2) (PySem.W.mg_of X G v3) (PySem.W.mg_of X G v4) (PySem.W.mg_of X G v5) hM
    have GM := ok_made (P := l.prog) (w := w) (base := base) (k := 0) DMade.F ⟨mkC, aI, iI, kC⟩ (PySem.W.mg_of X G aC) GI (init_b6 FI) b1 hv1 kb3 kb5 (fun _ _ _ _ => rfl) (fun _ _ _ _ _ _ => rfl)
    exact ok_met DMet.F DMade GM TE TX TC (PySem.W.exm_ref eN hdN tN sN) (kit_sub hdB tB sB) (PySem.W.mg_of X G aB) TT FM0 ⟨aM0, iM0, kM0⟩ bM0 FM1 ⟨aM1, iM1, kM1⟩ bM1 FM2 ⟨aM2, iM2, kM2⟩ bM2 FM3 ⟨aM3, iM3, kM3⟩ bM3 FM4 ⟨aM4, iM4, kM4⟩ bM4 (g0 z_isinstance) (g0 z_repr)
end WB

open PySem PySem.W PyProof.Rows
set_option maxRecDepth 100000
set_option Elab.async false
set_option maxHeartbeats 0 in
theorem PySem.Challenge.cw_wordbench_k12_places_made_holds : PySem.Challenge.rw_wordbench_k12_places_made.Holds := by
  w_on; o_law; k_head; (case hw => w_witness2)
  k_fill
  refine WG.gwalk_of (l := PySem.Challenge.rw_wordbench_k12_places_made) (n := 63) (k := 7) (x := "_law_script") (CX := fun _ => L2.CX0) (sp := fun w => WB.spLaw _) rfl (by decide) rfl ⟨rfl, by decide, by decide⟩ (fun w h Y => PySem.W.kIn_of Y) ?F (fun _ _ a ns hl _ hS => ⟨a, ns, rfl, hS, hl, fun _ => rfl⟩) (fun _ _ _ _ _ h => h)
  case F =>
    intro w mg fa h KX G hmg
    refine' WB.all_mk KX G hmg ?aWithin ?lWithin ?cWithin ?kWithin ?aIsName ?lIsName ?cIsName ?kIsName ?aIsAbout ?lIsAbout ?cIsAbout ?kIsAbout ?aIsAmong ?lIsAmong ?cIsAmong ?kIsAmong ?aIsDefault ?lIsDefault ?cIsDefault ?kIsDefault ?aCell ?lCell ?cCell ?kCell ?aPot ?lPot ?cPot ?kPot ?aTake ?lTake ?cTake ?kTake ?aName ?lName ?cName ?kName ?aSigns ?lSigns ?cSigns ?kSigns ?aAbout ?lAbout ?cAbout ?kAbout ?aText ?lText ?cText ?kText ?aWName ?lWName ?cWName ?kWName ?aWAbout ?lWAbout ?cWAbout ?kWAbout ?aGood ?lGood ?cGood ?kGood ?aOdd ?lOdd ?cOdd ?kOdd ?aWrong ?lWrong ?cWrong ?kWrong ?aDue ?lDue ?cDue ?kDue ?aMade ?lMade ?cMade ?kMade ?aMet ?lMet ?cMet ?kMet ?aLaw ?lLaw ?cLaw ?kLaw ?aB ?aN ?xN ?aE ?lE ?cE ?kE ?tE ?saN ?gaN ?ggN ?nfN ?hcN ?kN ?eN ?tN ?hdN ?sN ?spN ?tkN ?moN ?tB ?hdB ?sB ?aC ?aI ?lI ?cI ?kI ?iI ?lT ?aM0 ?lM0 ?cM0 ?kM0 ?iM0 ?aM1 ?lM1 ?cM1 ?kM1 ?iM1 ?aM2 ?lM2 ?cM2 ?kM2 ?iM2 ?aM3 ?lM3 ?cM3 ?kM3 ?iM3 ?aM4 ?lM4 ?cM4 ?kM4 ?iM4 ?pgC ?hdC ?poC ?saC ?nhC ?mkC ?kC ?v1 ?v2 ?v3 ?v4 ?v5 ?lM ?z_len ?z_max ?z_min ?z_abs ?z_range ?z_list ?z_repr ?z_str ?z_isinstance ?z_all
    (case aWithin => k_is)
    (case lWithin => k_is)
    (case cWithin => k_is)
    (case kWithin => k_is)
    (case aIsName => k_is)
    (case lIsName => k_is)
    (case cIsName => k_is)
    (case kIsName => k_is)
    (case aIsAbout => k_is)
    (case lIsAbout => k_is)
    (case cIsAbout => k_is)
    (case kIsAbout => k_is)
    (case aIsAmong => k_is)
    (case lIsAmong => k_is)
    (case cIsAmong => k_is)
    (case kIsAmong => k_is)
    (case aIsDefault => k_is)
    (case lIsDefault => k_is)
    (case cIsDefault => k_is)
    (case kIsDefault => k_is)
    (case aCell => k_is)
    (case lCell => k_is)
    (case cCell => k_is)
    (case kCell => k_is)
    (case aPot => k_is)
    (case lPot => k_is)
    (case cPot => k_is)
    (case kPot => k_is)
    (case aTake => k_is)
    (case lTake => k_is)
    (case cTake => k_is)
    (case kTake => k_is)
    (case aName => k_is)
    (case lName => k_is)
    (case cName => k_is)
    (case kName => k_is)
    (case aSigns => k_is)
    (case lSigns => k_is)
    (case cSigns => k_is)
    (case kSigns => k_is)
    (case aAbout => k_is)
    (case lAbout => k_is)
    (case cAbout => k_is)
    (case kAbout => k_is)
    (case aText => k_is)
    (case lText => k_is)
    (case cText => k_is)
    (case kText => k_is)
    (case aWName => k_is)
    (case lWName => k_is)
    (case cWName => k_is)
    (case kWName => k_is)
    (case aWAbout => k_is)
    (case lWAbout => k_is)
    (case cWAbout => k_is)
    (case kWAbout => k_is)
    (case aGood => k_is)
    (case lGood => k_is)
    (case cGood => k_is)
    (case kGood => k_is)
    (case aOdd => k_is)
    (case lOdd => k_is)
    (case cOdd => k_is)
    (case kOdd => k_is)
    (case aWrong => k_is)
    (case lWrong => k_is)
    (case cWrong => k_is)
    (case kWrong => k_is)
    (case aDue => k_is)
    (case lDue => k_is)
    (case cDue => k_is)
    (case kDue => k_is)
    (case aMade => k_is)
    (case lMade => k_is)
    (case cMade => k_is)
    (case kMade => k_is)
    (case aMet => k_is)
    (case lMet => k_is)
    (case cMet => k_is)
    (case kMet => k_is)
    (case aLaw => k_is)
    (case lLaw => k_is)
    (case cLaw => k_is)
    (case kLaw => k_is)
    (case aB => k_is)
    (case aN => k_is)
    (case xN => k_is)
    (case aE => k_is)
    (case lE => k_is)
    (case cE => k_is)
    (case kE => k_is)
    (case tE => k_is)
    (case saN => k_is)
    (case gaN => k_is)
    (case ggN => k_is)
    (case nfN => k_is)
    (case hcN => k_is)
    (case kN => k_is)
    (case eN => k_is)
    (case tN => k_is)
    (case hdN => k_is)
    (case sN => k_is)
    (case spN => k_is)
    (case tkN => k_is)
    (case moN => k_is)
    (case tB => k_is)
    (case hdB => k_is)
    (case sB => k_is)
    (case aC => k_is)
    (case aI => k_is)
    (case lI => k_is)
    (case cI => k_is)
    (case kI => k_is)
    (case iI => k_is)
    (case lT => k_is)
    (case aM0 => k_is)
    (case lM0 => k_is)
    (case cM0 => k_is)
    (case kM0 => k_is)
    (case iM0 => k_is)
    (case aM1 => k_is)
    (case lM1 => k_is)
    (case cM1 => k_is)
    (case kM1 => k_is)
    (case iM1 => k_is)
    (case aM2 => k_is)
    (case lM2 => k_is)
    (case cM2 => k_is)
    (case kM2 => k_is)
    (case iM2 => k_is)
    (case aM3 => k_is)
    (case lM3 => k_is)
    (case cM3 => k_is)
    (case kM3 => k_is)
    (case iM3 => k_is)
    (case aM4 => k_is)
    (case lM4 => k_is)
    (case cM4 => k_is)
    (case kM4 => k_is)
    (case iM4 => k_is)
    (case pgC => k_is)
    (case hdC => k_is)
    (case poC => k_is)
    (case saC => k_is)
    (case nhC => k_is)
    (case mkC => k_is)
    (case kC => k_is)
    (case v1 => k_is)
    (case v2 => k_is)
    (case v3 => k_is)
    (case v4 => k_is)
    (case v5 => k_is)
    (case lM => k_is)
    (case z_len => k_is)
    (case z_max => k_is)
    (case z_min => k_is)
    (case z_abs => k_is)
    (case z_range => k_is)
    (case z_list => k_is)
    (case z_repr => k_is)
    (case z_str => k_is)
    (case z_isinstance => k_is)
    (case z_all => k_is)
