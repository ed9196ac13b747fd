import PyProof.Rows.All
import Wide.All
import OpenK.AllK
import Wide.FinOn
import PySem.Challenge.RW_wordbench_k24_whole_least_beginnings
import HandS.ForMost
import HandS.IsInst
import KE.KIsAll
import PyProof.ReprRoads
import PyProof.StrBlock2
import HandS.Exc
import HandS.ExcInit
import HandS.ExcField
import HandS.ExcIs
import HandS.TryOnly
import HandS.WordsExc
import HandS.Defaults
import HandS.MakeKw
import HandS.MakeKwOnly
import HandS.HotCalls
import HandS.ExcOwn
import HandS.Style
set_option Elab.async false
set_option linter.all false
set_option maxRecDepth 100000
set_option maxHeartbeats 4000000
namespace WB
open PySem PySem.Spec PyProof.Rows L2
open TL (tl)
def topS (i : Nat) : Stmt := PySem.Challenge.pw_wordbench_k24_whole_least_beginnings.main.body.getD i (.Pass ⟨0, 0, 0, 0⟩)
abbrev st_cell : Stmt := topS 16
theorem sc_cell : FnScope ["_law_script", "_law_k"] ["_law_script", "_law_k"] (defScope st_cell) := ⟨rfl, rfl, rfl, by decide +kernel, rfl, by decide +kernel, by decide +kernel⟩
abbrev st_pot : Stmt := topS 17
theorem sc_pot : FnScope ["_law_script", "_law_k", "_law_cell_here"] ["_law_script", "_law_k"] (defScope st_pot) := ⟨rfl, rfl, rfl, by decide +kernel, rfl, by decide +kernel, by decide +kernel⟩
abbrev st_draw : Stmt := topS 18
theorem sc_draw : FnScope ["_law_pot_here", "_law_many", "_law_digit"] ["_law_pot_here", "_law_many"] (defScope st_draw) := ⟨rfl, rfl, rfl, by decide +kernel, rfl, by decide +kernel, by decide +kernel⟩
abbrev sCell := st_cell
abbrev sPot := st_pot
abbrev sDraw := st_draw
abbrev scCell := sc_cell
abbrev scPot := sc_pot
abbrev scDraw := sc_draw
/-- a def of the top: its object, how it binds, its name -/
structure Df (K : PySem.W.Frag) (mg : Str → Option Value) (x : Str) (st : Stmt) (ps : List Str) (f : Addr) (fd : FuncData) : Prop where
  F : Fun K x x st f fd
  b : Binds K fd ps []
  g : mg x = some (.ref f)
/-! ### heaps -/
theorem same_upd {H : Hp} {p : Addr} {o : HO} (h : H p = none) : Same H (upd H p o) := fun b x e => by
  rw [upd_ne (ne_of_none e h)]
  exact e
/-- all that was tracked but at p is as it was -/
def But (p : Addr) (H H' : Hp) : Prop := ∀ b o, b ≠ p → H b = some o → H' b = some o
theorem But.refl (p : Addr) (H : Hp) : But p H H := fun _ _ _ h => h
theorem But.trans {p : Addr} {H H1 H2 : Hp} (a : But p H H1) (b : But p H1 H2) : But p H H2 := fun c o n h => b c o n (a c o n h)
theorem But.of_same {p : Addr} {H H' : Hp} (a : Same H H') : But p H H' := fun c o _ h => a c o h
theorem But.upd (p : Addr) (H : Hp) (o : HO) : But p H (upd H p o) := fun c u n h => by
  rw [upd_ne n]
  exact h
theorem But.new {p : Addr} {H : Hp} {q : Addr} {o : HO} (h : H q = none) : But p H (L2.upd H q o) := But.of_same (same_upd h)
/-- at p a pot stands -/
def Pot (H : Hp) (p : Addr) : Prop := ∃ a b : Int, H p = some (.lst [.int a, .int b]) ∧ 0 ≤ b ∧ b < 2147483648
theorem Pot.some {H : Hp} {p : Addr} (h : Pot H p) : ∃ o, H p = some o := by
  obtain ⟨a, b, e, _⟩ := h
  exact ⟨_, e⟩
theorem Pot.ne {H : Hp} {p q : Addr} (h : Pot H p) (n : H q = none) : p ≠ q := by
  obtain ⟨a, b, e, _⟩ := h
  exact ne_of_none e n
theorem Pot.new {H : Hp} {p q : Addr} {o : HO} (h : Pot H p) (n : H q = none) : Pot (L2.upd H q o) p := by
  have ne := h.ne n
  obtain ⟨a, b, e, h1, h2⟩ := h
  refine ⟨a, b, ?_, h1, h2⟩
  rw [upd_ne ne]
  exact e
/-! ### texts of some signs -/
structure Tq (p : Nat → Prop) (n : Nat) (y : Str) : Prop where
  le : y.length ≤ n
  pl : ∀ c ∈ tl y, p c
theorem Tq.mono {p q : Nat → Prop} {n m : Nat} {y : Str} (h : Tq p n y) (e : n ≤ m) (f : ∀ c, p c → q c) : Tq q m y := ⟨Nat.le_trans h.le e, fun c hc => f c (h.pl c hc)⟩
theorem Tq.app {p : Nat → Prop} {n m : Nat} {x y : Str} (h : Tq p n x) (k : Tq p m y) : Tq p (n + m) (x ++ y) := by
  refine ⟨?_, fun c hc => ?_⟩
  · rw [Str.length_append]
    exact Nat.add_le_add h.le k.le
  · rw [TL.tl_append] at hc
    exact (List.mem_append.mp hc).elim (h.pl c) (k.pl c)
theorem Tq.cut {p : Nat → Prop} {n : Nat} {x : Str} (h : Tq p n x) (lo hi : Option Int) : Tq p n (cutS x lo hi) := by
  refine ⟨Nat.le_trans (cutS_length x lo hi) h.le, fun c hc => h.pl c ?_⟩
  have e : c ∈ (x.cps.toList.drop _).take _ := hc
  exact List.mem_of_mem_drop (List.mem_of_mem_take e)
theorem Tq.sign {p : Nat → Prop} {c : Nat} (h : p c) : Tq p 1 ⟨#[c]⟩ := by
  refine ⟨Nat.le_refl 1, fun d hd => ?_⟩
  have e : d ∈ [c] := hd
  rw [List.mem_singleton.mp e]
  exact h
theorem mem_joinL (S : List Nat) : ∀ (ps : List (List Nat)) (c : Nat), c ∈ TL.joinL S ps → c ∈ S ∨ ∃ p ∈ ps, c ∈ p
  | [], c, h => by cases h
  | [p], c, h => .inr ⟨p, List.mem_singleton.mpr rfl, h⟩
  | p :: q :: r, c, h => by
    rcases List.mem_append.mp (show c ∈ p ++ (S ++ TL.joinL S (q :: r)) from h) with h | h
    · exact .inr ⟨p, List.mem_cons_self, h⟩
    · rcases List.mem_append.mp h with h | h
      · exact .inl h
      · rcases mem_joinL S (q :: r) c h with h | ⟨p', hp, hc⟩
        · exact .inl h
        · exact .inr ⟨p', List.mem_cons_of_mem _ hp, hc⟩
theorem sum_most {p : Nat → Prop} (m : Nat) : ∀ ys : List Str, (∀ y ∈ ys, Tq p m y) → (ys.map (·.length)).sum ≤ ys.length * m
  | [], _ => Nat.zero_le _
  | y :: r, h => by
    have h1 := sum_most m r fun z hz => h z (List.mem_cons_of_mem _ hz)
    have h2 := (h y List.mem_cons_self).le
    rw [List.map_cons, List.sum_cons, List.length_cons, Nat.succ_mul]
    omega
theorem Tq.join {p : Nat → Prop} {sep : Str} {k m n : Nat} {ys : List Str} (hs : Tq p k sep) (h : ∀ y ∈ ys, Tq p m y) (hn : ys.length * m + ys.length * k ≤ n) : Tq p n (Txt.join sep ys) := by
  refine ⟨?_, fun c hc => ?_⟩
  · rw [TL.join_eq]
    have e := StrLaws.join_length_le sep ys
    have e2 := sum_most m ys h
    have e3 : ys.length * sep.length ≤ ys.length * k := Nat.mul_le_mul_left _ hs.le
    omega
  · rw [TL.join_eq, TL.tl_join] at hc
    rcases mem_joinL _ _ c hc with h1 | ⟨p, hp, h1⟩
    · exact hs.pl c h1
    · obtain ⟨y, hy, rfl⟩ := List.mem_map.mp hp
      exact (h y hy).pl c h1
section
variable {P : Program} {w : World} {K : PySem.W.Frag} {mg : Str → Option Value} {base : Heap}
/-! ### _law_cell -/
def spCell (K : PySem.W.Frag) : Sp := fun vs H Q _ => ∃ (a : Addr) (ns : List Int) (k : Int), vs = [.ref a, .int k] ∧ SqL K H a (ns.map V.int) ∧ 0 ≤ k ∧ ∀ z : Int, Q (.int z) H
theorem ok_cell {f : Addr} {fd : FuncData} {k : Nat} (F : Fun K "_law_cell" "_law_cell" sCell f fd) (mL : mg "len" = none) : FnOk P w K mg base CX0 (k + 1) f fd ["_law_script", "_law_k"] (spCell K) := by
  refine F.ok scCell (fun vs H Q E h => ?_) (fun cdv A outer s H vs Q E hr h => ?_)
  · obtain ⟨a, ns, k, rfl, _⟩ := h
    rfl
  · obtain ⟨a, ns, k, rfl, hS, hk, q⟩ := h
    refine ⟨_, pss_one (ps_ret (pe_ifExp (pt_cmpR op_lt (pv 1) (pe_callB call_len_seq (by rfl) mL PySem.boot_len (pa_cons (pv 0) pa_nil)) (nomark _)) (pe_ix ix_list (pv 0) (pv 1) (fun _ _ => rfl)) pe_int)), ?_⟩
    refine ⟨.int k, rfl, .ref a, rfl, a, _, rfl, .inl hS, k, _, rfl, rfl, _, rfl, ite2 (fun e => ?_) (fun e => q 0)⟩
    have e1 := of_decide_eq_true e
    obtain ⟨n, rfl⟩ := Int.eq_ofNat_of_zero_le hk
    rw [List.length_map] at e1
    have hn : n < ns.length := by omega
    exact ⟨.ref a, rfl, .int n, rfl, a, _, _, .int ns[n], rfl, rfl, hS, atI_nat (j := n) (by rw [List.getElem?_map, List.getElem?_eq_getElem hn]; rfl), q _⟩
/-! ### _law_pot -/
def spPot (K : PySem.W.Frag) : Sp := fun vs H Q _ => ∃ (a : Addr) (ns : List Int) (k : Int), vs = [.ref a, .int k] ∧ SqL K H a (ns.map V.int) ∧ 0 ≤ k ∧
  ∀ H' p, Same H H' → H p = none → Pot H' p → Q (.ref p) H'
theorem ok_pot {f fC : Addr} {fd fdC : FuncData} {k : Nat} (F : Fun K "_law_pot" "_law_pot" sPot f fd) (C : Df K mg "_law_cell" sCell ["_law_script", "_law_k"] fC fdC) (mL : mg "len" = none) (mM : mg "max" = none) :
    FnOk P w K mg base CX0 (k + 2) f fd ["_law_script", "_law_k"] (spPot K) := by
  have GC : FnOk P w K mg base CX0 (k + 1) fC fdC ["_law_script", "_law_k"] (spCell K) := ok_cell C.F mL
  refine F.ok scPot (fun vs H Q E h => ?_) (fun cdv A outer s H vs Q E hr h => ?_)
  · obtain ⟨a, ns, k, rfl, _⟩ := h
    rfl
  · obtain ⟨a, ns, k, rfl, hS, hk, q⟩ := h
    refine ⟨_, pss_cons (ps_set (i := 2) scPot.nd rfl (.inl rfl) (pe_call GC hr (by rfl) C.g C.F.kp C.b .nil pass0 (pa_cons (pv 0) (pa_cons (pv 1) pa_nil))))
      (pss_one (ps_ret (pe_lst (pa_cons (pe_callB (call_max2 rfl) (by rfl) mM (by decide +kernel) (pa_cons pe_int (pa_cons (pe_op op_sub (pv 2) (pe_op op_pow pe_int pe_int)) pa_nil)))
        (pa_cons (pe_op op_mod (pe_op op_add (pe_op op_add (pe_op op_mul (pe_op op_mod (pv 2) pe_int) pe_int) (pe_op op_mul pe_int (pv 1))) pe_int) pe_int) pa_nil))))), ?_⟩
    refine ⟨.ref a, rfl, .int k, rfl, a, ns, k, rfl, hS, hk, fun z => ?_⟩
    refine ⟨.int z, rfl, 10, 18, rfl, rfl, ⟨by decide, by decide, by decide⟩, z, _, rfl, rfl, 0, _, rfl, ?_⟩
    refine ⟨.int z, rfl, z, 2147483629, rfl, rfl, (by show (0 : Int) < 2147483629; decide), _, 48271, rfl, rfl, .inr ⟨by decide, by decide⟩, .int k, rfl, 7919, k, rfl, rfl, .inl ⟨by decide, by decide⟩, _, _, rfl, rfl, _, 31, rfl, rfl, _, 2147483629, rfl, rfl, (by show (0 : Int) < 2147483629; decide), ?_⟩
    refine ⟨by show 2 ≤ sizeLine; decide, fun p hp => q _ p (same_upd hp) hp ⟨_, _, upd_same, Int.emod_nonneg _ (by decide), ?_⟩⟩
    exact Int.lt_trans (Int.emod_lt_of_pos _ (by decide)) (by decide)
/-! ### _law_draw -/
def spDraw : Sp := fun vs H Q _ => ∃ (p : Addr) (m : Int), vs = [.ref p, .int m] ∧ Pot H p ∧ 0 < m ∧ m ≤ 1000 ∧ ∀ H' (d : Int), But p H H' → Pot H' p → 0 ≤ d → d < m → Q (.int d) H'
theorem ok_draw {f : Addr} {fd : FuncData} {k : Nat} (F : Fun K "_law_draw" "_law_draw" sDraw f fd) (mD : mg "divmod" = none) : FnOk P w K mg base CX0 (k + 1) f fd ["_law_pot_here", "_law_many"] spDraw := by
  refine F.ok scDraw (fun vs H Q E h => ?_) (fun cdv A outer s H vs Q E hr h => ?_)
  · obtain ⟨p, m, rfl, _⟩ := h
    rfl
  · obtain ⟨p, m, rfl, ⟨a, b, hp, hb0, hb1⟩, hm0, hm1, q⟩ := h
    refine ⟨_, pss_cons (ps_if (pt_cmpR op_gt (pe_ix ix_list (pv 0) pe_int (fun _ _ => rfl)) pe_int (nomark _))
        (pss_cons (ps_asg (pe_callB call_divmod (by rfl) mD (by decide +kernel) (pa_cons (pe_ix ix_list (pv 0) pe_int (fun _ _ => rfl)) (pa_cons (pv 1) pa_nil)))
            (pg_tup rfl (pgs_cons (pg_sub (pv 0) pe_int set_list) (pgs_cons (pg_name (i := 2) scDraw.nd rfl (.inl rfl)) pgs_nil))))
          (pss_one (ps_ret (pv 2)))) pss_nil)
      (pss_cons (ps_asg (pe_op op_mod (pe_op op_add (pe_op op_mul (pe_ix ix_list (pv 0) pe_int (fun _ _ => rfl)) pe_int) pe_int) pe_int) (pg_sub (pv 0) pe_int set_list))
      (pss_one (ps_ret (pe_op op_mod (pe_op op_fdiv (pe_op op_mod (pe_op op_pow (pe_ix ix_list (pv 0) pe_int (fun _ _ => rfl)) pe_int) pe_int) pe_int) (pv 1))))), ?_⟩
    refine ⟨.ref p, rfl, p, _, 0, .int a, rfl, rfl, SqL.of hp, atI_nat (j := 0) rfl, a, 0, rfl, rfl, _, rfl, ite2 (fun e => ?_) (fun e => ?_)⟩
    · refine ⟨.ref p, rfl, p, _, 0, .int a, rfl, rfl, SqL.of hp, atI_nat (j := 0) rfl, .int m, rfl, a, m, rfl, ⟨hm0, by omega⟩, fun t nt => ?_⟩
      have npt : p ≠ t := ne_of_none hp nt
      have hp1 : (upd H t (.tup [.int (a / m), .int (a % m)])) p = some (.lst [.int a, .int b]) := by
        rw [upd_ne npt]
        exact hp
      refine ⟨t, _, rfl, SqT.of upd_same, rfl, _, _, rfl, .ref p, rfl, p, _, 0, 0, rfl, rfl, hp1, rfl, _, _, rfl, rfl, ?_⟩
      refine ⟨.int (a % m), rfl, q _ _ ((But.new nt).trans (But.upd _ _ _)) ⟨a / m, b, upd_same, hb0, hb1⟩ (Int.emod_nonneg _ (by omega)) (Int.emod_lt_of_pos _ hm0)⟩
    · refine ⟨.ref p, rfl, p, _, 1, .int b, rfl, rfl, SqL.of hp, atI_nat (j := 1) rfl, b, 39373, rfl, rfl, .inr ⟨by decide, by decide⟩, _, 8191, rfl, rfl, _, 2147483587, rfl, rfl, (by show (0 : Int) < 2147483587; decide), ?_⟩
      refine ⟨.ref p, rfl, p, _, 1, 1, rfl, rfl, hp, rfl, ?_⟩
      have c0 : 0 ≤ (b * 39373 + 8191) % 2147483587 := Int.emod_nonneg _ (by decide)
      have c1 : (b * 39373 + 8191) % 2147483587 < 2147483587 := Int.emod_lt_of_pos _ (by decide)
      refine ⟨.ref p, rfl, p, _, 1, .int ((b * 39373 + 8191) % 2147483587), rfl, rfl, SqL.of upd_same, atI_nat (j := 1) rfl, (b * 39373 + 8191) % 2147483587, 2, rfl, rfl, ⟨by decide, by decide, by omega⟩, _, 2147483543, rfl, rfl, (by show (0 : Int) < 2147483543; decide), _, 13, rfl, rfl, ⟨by decide, by decide⟩, .int m, rfl, _, m, rfl, rfl, hm0, ?_⟩
      exact q _ _ (But.upd _ _ _) ⟨a, _, upd_same, c0, by omega⟩ (Int.emod_nonneg _ (by omega)) (Int.emod_lt_of_pos _ hm0)
end
theorem at_strs (ys : List Str) (d : Int) (h0 : 0 ≤ d) (h1 : d < (ys.length : Int)) : ∃ y ∈ ys, atI (ys.map V.str) d = some (.str y) := by
  obtain ⟨n, rfl⟩ := Int.eq_ofNat_of_zero_le h0
  have hn : n < ys.length := by omega
  exact ⟨ys[n], List.getElem_mem hn, atI_nat (by rw [List.getElem?_map, List.getElem?_eq_getElem hn]; rfl)⟩
theorem at_ints (ys : List Int) (d : Int) (h0 : 0 ≤ d) (h1 : d < (ys.length : Int)) : ∃ y ∈ ys, atI (ys.map V.int) d = some (.int y) := by
  obtain ⟨n, rfl⟩ := Int.eq_ofNat_of_zero_le h0
  have hn : n < ys.length := by omega
  exact ⟨ys[n], List.getElem_mem hn, atI_nat (by rw [List.getElem?_map, List.getElem?_eq_getElem hn]; rfl)⟩
theorem at_any (ys : List V) (d : Int) (h0 : 0 ≤ d) (h1 : d < (ys.length : Int)) : ∃ y ∈ ys, atI ys d = some y := by
  obtain ⟨n, rfl⟩ := Int.eq_ofNat_of_zero_le h0
  have hn : n < ys.length := by omega
  exact ⟨ys[n], List.getElem_mem hn, atI_nat (List.getElem?_eq_getElem hn)⟩
theorem go {R : Hp → Prop} {H : Hp} {a : Addr} {o : HO} (n : H a = none) (h : ∀ H', Same H H' → H' a = some o → R H') : R (upd H a o) := h _ (same_upd n) upd_same
theorem goT {α : Type} {R : Hp → α → Prop} {Q : α} {H : Hp} {a : Addr} {o : HO} (n : H a = none) (h : ∀ H', Same H H' → H' a = some o → R H' Q) : R (upd H a o) Q := h _ (same_upd n) upd_same
theorem goU {R : Hp → Prop} {H : Hp} {a : Addr} {o : HO} (h : ∀ H', But a H H' → H' a = some o → R H') : R (upd H a o) := h _ (But.upd _ _ _) upd_same
theorem ev_use {t : TE} {σ : L2.St} {H : Hp} {v : V} {R : VK} (e : ∀ R : VK, R v H → t σ H R) (c : R v H) : t σ H R := e R c
theorem ev_gen {t : TE} {σ : L2.St} {H : Hp} (D : V → Hp → Prop) {R : VK} (e : ∀ R : VK, (∀ v H', D v H' → R v H') → t σ H R) (c : ∀ v H', D v H' → R v H') : t σ H R := e R c
theorem ts_gen {t : TS} {κ : L2.Ends} {σ : L2.St} {H : Hp} (D : L2.St → Hp → Prop) (e : ∀ κ : L2.Ends, (∀ σ' H', D σ' H' → κ.nx σ' H') → t κ σ H) (c : ∀ σ' H', D σ' H' → κ.nx σ' H') : t κ σ H := e κ c
theorem dp_strs {K : PySem.W.Frag} {H : Hp} : ∀ ys : List Str, DpAll K H (ys.map V.str) (ys.map PyData.str)
  | [] => .nil
  | y :: r => .cons (.str y) (dp_strs r)
theorem strOk_of {z : Str} (h : ∀ c ∈ tl z, c < 256) : PyData.strOk z = true := by
  unfold PyData.strOk
  rw [← Array.all_toList]
  exact List.all_eq_true.mpr fun c hc => decide_eq_true (Nat.lt_trans (h c hc) (by decide))
theorem lay_strs : ∀ ys : List Str, (∀ y ∈ ys, PyData.strOk y = true) → PyData.canLayAll0 (ys.map PyData.str) = true ∧ PyData.depthAll (ys.map PyData.str) = 0
  | [], _ => ⟨by simp [PyData.canLayAll0], by simp [PyData.depthAll]⟩
  | y :: r, h => by
    obtain ⟨h1, h2⟩ := lay_strs r fun z hz => h z (List.mem_cons_of_mem _ hz)
    rw [List.map_cons]
    exact ⟨by simp [PyData.canLayAll0, PyData.canLay0, h1, h y List.mem_cons_self], by simp [PyData.depthAll, PyData.depth, h2]⟩
theorem shaped_strs (ys : List Str) (h : ∀ y ∈ ys, PyData.strOk y = true) : SeqAt.shaped (.list (ys.map PyData.str)) = true := by
  obtain ⟨h1, h2⟩ := lay_strs ys h
  unfold SeqAt.shaped
  simp [PyData.canLay0, PyData.depth, h1, h2]
theorem eqv_nil (ds : List PyData) : PyData.eqv (.list ds) (.list []) = ds.isEmpty := by
  cases ds with
  | nil => simp [PyData.eqv, PyData.eqvAll]
  | cons d r => simp [PyData.eqv, PyData.eqvAll]
theorem strs_flat (ys : List Str) : (ys.map V.str).all flatV = true := by
  rw [List.all_map]
  exact List.all_eq_true.mpr fun _ _ => rfl
theorem eqvAll_strs : ∀ xs ys : List Str, PyData.eqvAll (xs.map PyData.str) (ys.map PyData.str) = decide (xs = ys)
  | [], [] => by simp [PyData.eqvAll]
  | [], y :: r => by simp [PyData.eqvAll]
  | x :: r, [] => by simp [PyData.eqvAll]
  | x :: r, y :: t => by
    rw [List.map_cons, List.map_cons]
    simp only [PyData.eqvAll, PyData.eqv]
    rw [eqvAll_strs r t]
    by_cases h : x = y
    · subst h
      by_cases h2 : r = t
      · subst h2
        simp
      · simp [h2]
    · simp [h]
theorem eqv_strs (xs ys : List Str) : PyData.eqv (.list (xs.map PyData.str)) (.list (ys.map PyData.str)) = decide (xs = ys) := by
  simp only [PyData.eqv]
  exact eqvAll_strs xs ys
theorem inV_strs (z : Str) (ys : List Str) : inV (.str z) (ys.map V.str) = decide (z ∈ ys) := by
  unfold inV
  rw [List.any_map]
  induction ys with
  | nil => rfl
  | cons y r ih =>
    rw [List.any_cons, ih]
    show (decide (y = z) || decide (z ∈ r)) = _
    by_cases h : y = z
    · subst h
      simp
    · have h2 : ¬ z = y := fun e => h e.symm
      simp [h, h2]
theorem tl_cut_to (x : Str) (k : Nat) : tl (cutS x none (some (k : Int))) = (tl x).take k := by
  show ((((tl x).drop (HT.sIx x.length 0 none)).take (HT.sIx x.length x.length (some (k : Int)) - HT.sIx x.length 0 none)).toArray).toList = _
  rw [HT.sIx_none, HT.sIx_nat, List.drop_zero, Nat.sub_zero]
  show (tl x).take (min k x.length) = _
  rw [TL.len_tl, ← List.take_take, List.take_length]
theorem tl_cut_from (x : Str) (k : Nat) : tl (cutS x (some (k : Int)) none) = (tl x).drop k := by
  show ((((tl x).drop (HT.sIx x.length 0 (some (k : Int)))).take (HT.sIx x.length x.length none - HT.sIx x.length 0 (some (k : Int)))).toArray).toList = _
  rw [HT.sIx_none, HT.sIx_nat]
  show ((tl x).drop (min k x.length)).take (x.length - min k x.length) = _
  have hl := TL.len_tl x
  by_cases h : k ≤ x.length
  · rw [Nat.min_eq_left h, List.take_of_length_le (by rw [List.length_drop]; omega)]
  · rw [Nat.min_eq_right (by omega), List.drop_of_length_le (by omega), List.drop_of_length_le (by omega), List.take_nil]
theorem fold_toList : ∀ (l : List (Array Nat)) (acc : Array Nat), (l.foldl (· ++ ·) acc).toList = acc.toList ++ (l.map Array.toList).flatten
  | [], acc => by simp
  | x :: l, acc => by
    rw [List.foldl_cons, fold_toList l]
    simp
theorem mul_tl (z : Str) (n : Nat) : (Txt.mul z (n : Int)).cps.toList = (List.replicate n z.cps.toList).flatten := by
  unfold Txt.mul
  by_cases h1 : (n : Int) < 1
  · have e : n = 0 := by omega
    subst e
    rw [if_pos h1]
    rfl
  · rw [if_neg h1]
    by_cases h2 : ((n : Int) == 1 || z.length == 0) = true
    · rw [if_pos h2]
      rcases Bool.or_eq_true_iff.mp h2 with e | e
      · have e1 : n = 1 := by
          have := eq_of_beq e
          omega
        subst e1
        simp
      · have e1 : z.cps.toList = [] := List.length_eq_zero_iff.mp (by
          have := eq_of_beq e
          simpa [Str.length] using this)
        rw [e1]
        simp
    · rw [if_neg h2]
      show ((List.replicate (n : Int).toNat z.cps).foldl (· ++ ·) #[]).toList = _
      rw [fold_toList, Int.toNat_natCast, List.map_replicate]
      rfl
theorem op_mul_str {X : Cx} : OpR X (binaryOp .Mult) (fun x y H Q => ∃ (z : Str) (n : Nat), x = .str z ∧ y = .int (n : Int) ∧ n ≤ 1000 ∧ z.length ≤ 1000 ∧ ∀ y : Str, tl y = (List.replicate n (tl z)).flatten → Q (.str y) H) := by
  intro pins s σ H x y v u Q I rx ry h
  obtain ⟨z, n, rfl, rfl, hn, hz, q⟩ := h
  obtain ⟨tx, rfl⟩ := rx
  obtain ⟨ty, rfl⟩ := ry
  have pw : z.length * n ≤ 1000000 := Nat.le_trans (Nat.mul_le_mul hz hn) (by decide)
  refine PySem.SB.mul ⟨?_, fun h1 h2 => ?_, fun h1 h2 => ?_⟩ fun t' k => ⟨.str _, H, I.tok k, ⟨t', rfl⟩, q _ ?_⟩
  · rw [decide_eq_false (by omega), decide_eq_false (by omega)]
    rfl
  · have e : (1000 : Int) ≤ (2 ^ 63 - 1) / (n : Int) := by
      have h3 : (0 : Int) < n := by omega
      exact (Int.le_ediv_iff_mul_le h3).mpr (by omega)
    omega
  · rw [Int.toNat_natCast]
    exact decide_eq_false (by show ¬ sizeLine < _; have : sizeLine = 16777216 := sizeLine_eq; omega)
  · exact mul_tl z n
theorem tt_use {t : TT} {σ : L2.St} {H : Hp} {b : Bool} {R : Bool → Hp → Prop} (e : ∀ R : Bool → Hp → Prop, R b H → t σ H R) (c : R b H) : t σ H R := e R c
theorem str_ext {a b : Str} (h : tl a = tl b) : a = b := by
  cases a; cases b
  exact congrArg Str.mk (Array.toList_inj.mp h)
abbrev B8 : Nat → Prop := fun c => c < 256
theorem Pot.same {H H' : Hp} {p : Addr} (h : Pot H p) (s : Same H H') : Pot H' p := by
  obtain ⟨x, y, e, h1, h2⟩ := h
  exact ⟨x, y, s _ _ e, h1, h2⟩
end WB

set_option Elab.async false
set_option linter.all false
set_option maxRecDepth 100000
set_option maxHeartbeats 4000000
namespace WB
open PySem PySem.Spec PyProof.Rows L2
open TL (tl)
abbrev st_signs : Stmt := topS 19
theorem sc_signs : FnScope ["_law_letters"] [] (defScope st_signs) := ⟨rfl, rfl, rfl, by decide +kernel, rfl, by decide +kernel, by decide +kernel⟩
abbrev st_text : Stmt := topS 20
theorem sc_text : FnScope ["_law_pot_here", "_law_most", "_law_signs_here", "_law_k"] ["_law_pot_here", "_law_most", "_law_signs_here"] (defScope st_text) := ⟨rfl, rfl, rfl, by decide +kernel, rfl, by decide +kernel, by decide +kernel⟩
abbrev sSigns := st_signs
abbrev sText := st_text
abbrev scSigns := sc_signs
abbrev scText := sc_text
section
variable {P : Program} {w : World} {K : PySem.W.Frag} {mg : Str → Option Value} {base : Heap}
/-! ### _law_signs -/
def signs2 : Str := Str.ofString " !\"#$&'()*+,-./0123456789:;<=>?@" ++ Str.ofString "[\\]^_`{|}~abcdefghijklmnopqrstuvwxyzABCDEFGHIJKLMNOPQRSTUVWXYZ"
def spSigns : Sp := fun vs H Q _ => vs = [] ∧ Q (.str signs2) H
theorem ok_signs {f : Addr} {fd : FuncData} {k : Nat} (F : Fun K "_law_signs" "_law_signs" sSigns f fd) : FnOk P w K mg base CX0 (k + 1) f fd [] spSigns := by
  refine F.ok scSigns (fun vs H Q E h => ?_) (fun cdv A outer s H vs Q E hr h => ?_)
  · obtain ⟨rfl, _⟩ := h
    rfl
  · obtain ⟨rfl, q⟩ := h
    refine ⟨_, pss_cons (ps_set (i := 0) scSigns.nd rfl (.inl rfl) pe_str) (pss_one (ps_ret (pe_op op_add_str (pe_op op_add_str pe_str (pv 0)) (pe_upper (pv 0))))), ?_⟩
    refine ⟨_, rfl, _, _, rfl, rfl, ?_, _, rfl, ⟨_, rfl⟩, _, rfl, rfl, ?_, _, _, rfl, rfl, ?_, (congrArg (fun z => Q (.str z) H) (by decide +kernel)).mp q⟩ <;> decide +kernel
/-! ### _law_text -/
def spText : Sp := fun vs H Q _ => ∃ (p : Addr) (m : Int) (z : Str), vs = [.ref p, .int m, .str z] ∧ Pot H p ∧ 0 ≤ m ∧ m ≤ 100 ∧ 0 < z.length ∧ z.length ≤ 200 ∧
  ∀ H' (y : Str), But p H H' → Pot H' p → Tq (· ∈ tl z) m.toNat y → Q (.str y) H'
theorem ok_text {f fD : Addr} {fd fdD : FuncData} {k : Nat} (F : Fun K "_law_text" "_law_text" sText f fd) (D : Df K mg "_law_draw" sDraw ["_law_pot_here", "_law_many"] fD fdD) (mD : mg "divmod" = none) (mL : mg "len" = none) (mR : mg "range" = none) :
    FnOk P w K mg base CX0 (k + 2) f fd ["_law_pot_here", "_law_most", "_law_signs_here"] spText := by
  have GD : FnOk P w K mg base CX0 (k + 1) fD fdD ["_law_pot_here", "_law_many"] spDraw := ok_draw D.F mD
  refine F.ok scText (fun vs H Q E h => ?_) (fun cdv A outer s H vs Q E hr h => ?_)
  · obtain ⟨p, m, z, rfl, _⟩ := h
    rfl
  · obtain ⟨p, m, z, rfl, hp, hm0, hm1, hz0, hz1, q⟩ := h
    refine ⟨_, pss_one (ps_ret (pe_join pe_str (pe_lc (own := [("_law_k", 3)]) (g := gName 3) (tt := tYes) rfl scText.nd
      (pi_range1 rfl mR (pa_cons (pe_call GD hr (by rfl) D.g D.F.kp D.b .nil pass0 (pa_cons (pv 0) (pa_cons (pe_op op_add (pv 1) pe_int) pa_nil))) pa_nil))
      (blkOk_by (N := ["_law_pot_here", "_law_most", "_law_signs_here", "_law_k"]) (sc := defScope sText) (by decide +kernel))
      (fun _ _ _ _ _ => pg_name (i := 3) scText.nd rfl (Or.inl rfl)) (fun _ _ _ _ _ => pts_nil)
      (fun _ _ _ _ _ => pe_ix ix_str (pv 2) (pe_call GD hr (by rfl) D.g D.F.kp D.b .nil pass0 (pa_cons (pv 0) (pa_cons (pe_callB call_len_str (by rfl) mL PySem.boot_len (pa_cons (pv 2) pa_nil)) pa_nil))) (fun _ _ => rfl))))), ?_⟩
    refine ⟨⟨_, rfl⟩, .ref p, rfl, .int m, rfl, m, 1, rfl, rfl, p, m + 1, rfl, hp, by omega, by omega, fun H1 d b1 p1 d0 d1 => ?_⟩
    refine ⟨d, rfl, by omega, by omega, fun T nT => ?_⟩
    have npT : p ≠ T := p1.ne nT
    refine lc_range (lo := 0) (n := d.toNat) (fun i Hc => But p H1 Hc ∧ Pot Hc p ∧ ∃ ys : List Str, Hc T = some (.lst (ys.map V.str)) ∧ ys.length = i ∧ ∀ y ∈ ys, Tq (· ∈ tl z) 1 y)
      ⟨But.new nT, p1.new nT, [], upd_same, rfl, fun y hy => by cases hy⟩ (fun i Hc hi ⟨bc, pc, ys, eT, el, e1⟩ => ?_) (fun Hc ⟨bc, pc, ys, eT, el, e1⟩ => ?_)
    · refine ⟨rfl, ?_⟩
      have hzl : z.length ≤ sizeLine := Nat.le_trans hz1 (by decide)
      refine ⟨.str z, rfl, .ref p, rfl, .str z, rfl, z, rfl, hzl, p, z.length, rfl, pc, by omega, by omega, fun H4 j b4 p4 j0 j1 => ?_⟩
      obtain ⟨n, rfl⟩ := Int.eq_ofNat_of_zero_le j0
      have hn : n < z.cps.toList.length := by
        have e : z.cps.toList.length = z.length := by simp [Str.length]
        omega
      have eT4 : H4 T = some (.lst (ys.map V.str)) := b4 T _ npT.symm eT
      refine ⟨z, n, z.cps.toList[n], rfl, rfl, hzl, atI_nat (List.getElem?_eq_getElem hn), ys.map V.str, eT4, ?_, ?_, ?_, ys ++ [⟨#[z.cps.toList[n]]⟩], ?_, ?_, ?_⟩
      · rw [List.length_map, el]
        exact small1000 (by omega)
      · exact fun b o nb e => by
          rw [upd_ne (ne_of_none e nT)]
          exact b4 b o nb (bc b o nb e)
      · obtain ⟨x, y, e, h1, h2⟩ := p4
        refine ⟨x, y, ?_, h1, h2⟩
        rw [upd_ne npT]
        exact e
      · rw [upd_same, List.map_append]
        rfl
      · rw [List.length_append, el]
        rfl
      · intro y hy
        rcases List.mem_append.mp hy with hy | hy
        · exact e1 y hy
        · rw [List.mem_singleton.mp hy]
          exact Tq.sign (List.getElem_mem hn)
    · have e0 : (Str.ofString "").length = 0 := by decide +kernel
      have es := sum_most 1 ys e1
      refine ⟨_, T, ys, rfl, rfl, .inl (SqL.of eT), ?_, q _ _ (b1.trans bc) pc ?_⟩
      · rw [e0]
        omega
      · exact Tq.join ⟨by rw [e0]; exact Nat.le_refl 0, fun c hc => by cases hc⟩ e1 (by omega)
end
end WB

set_option Elab.async false
set_option linter.all false
set_option maxRecDepth 100000
set_option maxHeartbeats 4000000
namespace WB
open PySem PySem.Spec PyProof.Rows L2
open TL (tl)
abbrev st_names : Stmt := topS 21
theorem sc_names : FnScope ["_law_pot_here", "_law_most", "_law_letters", "_law_found", "_law_k", "_law_name"] ["_law_pot_here", "_law_most"] (defScope st_names) := ⟨rfl, rfl, rfl, by decide +kernel, rfl, by decide +kernel, by decide +kernel⟩
section
variable {P : Program} {w : World} {K : PySem.W.Frag} {mg : Str → Option Value} {base : Heap}
theorem names_sets : ∀ y ∈ [Str.ofString "ab", Str.ofString "no-a", Str.ofString "abcdefghijklmnopqrstuvwxyz0123456789-", signs2], 0 < y.length ∧ y.length ≤ 200 ∧ ∀ c ∈ tl y, c < 256 := by decide +kernel
theorem cut_len (x : Str) : (cutS x none (some 13)).length = min 13 x.length := by
  have h := tl_cut_to x 13
  have h2 := congrArg List.length h
  rw [← TL.len_tl, List.length_take, ← TL.len_tl] at h2
  exact h2
theorem cut_pos {x : Str} (h : 0 < x.length) : 0 < (cutS x none (some 13)).length := by
  rw [cut_len]
  omega
theorem cut_le13 (x : Str) : (cutS x none (some 13)).length ≤ 13 := by
  rw [cut_len]
  omega
def spNames : Sp := fun vs H Q _ => ∃ (p : Addr) (m : Int), vs = [.ref p, .int m] ∧ Pot H p ∧ 0 ≤ m ∧ m ≤ 24 ∧ ∀ H' l (ys : List Str), But p H H' → Pot H' p → H l = none → l ≠ p → H' l = some (.lst (ys.map V.str)) → (ys.length : Int) ≤ m → (∀ y ∈ ys, 0 < y.length ∧ Tq B8 13 y) → ys.Nodup → Q (.ref l) H'
theorem ok_names {f fD fS fT : Addr} {fd fdD fdS fdT : FuncData} {k : Nat} (F : Fun K "_law_names" "_law_names" st_names f fd) (D_draw : Df K mg "_law_draw" sDraw ["_law_pot_here", "_law_many"] fD fdD) (D_signs : Df K mg "_law_signs" sSigns [] fS fdS)
    (D_text : Df K mg "_law_text" sText ["_law_pot_here", "_law_most", "_law_signs_here"] fT fdT) (m_divmod : mg "divmod" = none) (m_len : mg "len" = none) (m_range : mg "range" = none) :
    FnOk P w K mg base CX0 (k + 3) f fd ["_law_pot_here", "_law_most"] spNames := by
  have G_draw : FnOk P w K mg base CX0 (k + 2) fD fdD ["_law_pot_here", "_law_many"] spDraw := ok_draw D_draw.F m_divmod
  have G_signs : FnOk P w K mg base CX0 (k + 2) fS fdS [] spSigns := ok_signs D_signs.F
  have G_text : FnOk P w K mg base CX0 (k + 2) fT fdT ["_law_pot_here", "_law_most", "_law_signs_here"] spText := ok_text D_text.F D_draw m_divmod m_len m_range
  refine F.ok sc_names (fun vs H Q E h => ?_) (fun cdv A outer s H vs Q E hr h => ?_)
  · obtain ⟨p, m, rfl, _⟩ := h
    rfl
  · obtain ⟨p, m, rfl, hp, m0, m1, q⟩ := h
    refine ⟨_, pss_cons (ps_set (i := 2) sc_names.nd rfl (.inl rfl) (pe_ix ix_list (pe_lst (pa_cons pe_str (pa_cons pe_str (pa_cons pe_str (pa_cons (pe_call0 G_signs hr (by rfl) D_signs.g D_signs.F.kp D_signs.b .nil pass0) pa_nil))))) (pe_call G_draw hr (by rfl) D_draw.g D_draw.F.kp D_draw.b .nil pass0 (pa_cons (pv 0) (pa_cons pe_int pa_nil))) (fun _ _ => rfl)))
      (pss_cons (ps_set (i := 3) sc_names.nd rfl (.inl rfl) (pe_lst pa_nil))
      (pss_cons (ps_for PassesOwn.never rfl (pi_range1 rfl m_range (pa_cons (pe_call G_draw hr (by rfl) D_draw.g D_draw.F.kp D_draw.b .nil pass0 (pa_cons (pv 0) (pa_cons (pe_op op_add (pv 1) pe_int) pa_nil))) pa_nil)) (pg_name (i := 4) sc_names.nd rfl (Or.inl rfl)) (pss_cons (ps_set (i := 5) sc_names.nd rfl (.inl rfl) (pe_op op_add_str (pe_ix ix_str (pv 2) (pe_call G_draw hr (by rfl) D_draw.g D_draw.F.kp D_draw.b .nil pass0 (pa_cons (pv 0) (pa_cons (pe_callB call_len_str (by rfl) m_len PySem.boot_len (pa_cons (pv 2) pa_nil)) pa_nil))) (fun _ _ => rfl)) (pe_call G_text hr (by rfl) D_text.g D_text.F.kp D_text.b .nil pass0 (pa_cons (pv 0) (pa_cons (pe_ix ix_list (pe_lst (pa_cons pe_int (pa_cons pe_int pa_nil))) (pe_call G_draw hr (by rfl) D_draw.g D_draw.F.kp D_draw.b .nil pass0 (pa_cons (pv 0) (pa_cons pe_int pa_nil))) (fun _ _ => rfl)) (pa_cons (pv 2) pa_nil))))))
      (pss_cons (ps_if (PW.pt (pw_and (pt_cmpR (op_neD hr.units) (pv 3) (pe_lst pa_nil) (nomark _)) (pw_and1 (pt_cmpR op_eq (pe_call G_draw hr (by rfl) D_draw.g D_draw.F.kp D_draw.b .nil pass0 (pa_cons (pv 0) (pa_cons pe_int pa_nil))) pe_int (nomark _))))) (pss_one (ps_set (i := 5) sc_names.nd rfl (.inl rfl) (pe_slice sl_str (pe_op op_add_str (pe_ix ix_list (pv 3) (pe_call G_draw hr (by rfl) D_draw.g D_draw.F.kp D_draw.b .nil pass0 (pa_cons (pv 0) (pa_cons (pe_callB call_len_seq (by rfl) m_len PySem.boot_len (pa_cons (pv 3) pa_nil)) pa_nil))) (fun _ _ => rfl)) (pe_call G_text hr (by rfl) D_text.g D_text.F.kp D_text.b .nil pass0 (pa_cons (pv 0) (pa_cons pe_int (pa_cons (pv 2) pa_nil))))) po_none (po_some pe_int)))) pss_nil)
      (pss_one (ps_if (pt_cmpR op_notIn_seq (pv 5) (pv 3) (by rfl)) (pss_one (ps_expr (pe_bm PySem.F.plainAttrs_list PySem.F.slot_list_append PySem.F.type_list_append mt_append (pv 3) (pa_cons (pv 5) pa_nil)))) pss_nil)))))
      (pss_one (ps_ret (pv 3))))), ?_⟩
    let L4 : List Str := [Str.ofString "ab", Str.ofString "no-a", Str.ofString "abcdefghijklmnopqrstuvwxyz0123456789-", signs2]
    refine ⟨rfl, by show 4 ≤ sizeLine; decide, fun l1 n1 => ?_⟩
    have p1 := hp.new (o := .lst (L4.map V.str)) n1
    have nl1 := hp.ne n1
    refine ⟨.ref p, rfl, p, 4, rfl, p1, by decide, by decide, fun H2 d2 b2 p2 d20 d21 => ?_⟩
    obtain ⟨sg, sgm, sge⟩ := at_strs L4 d2 d20 (by show d2 < 4; exact d21)
    obtain ⟨hz0, hz1, hz2⟩ := names_sets sg sgm
    have bb2 : But p H H2 := (But.new n1).trans b2
    refine ⟨l1, _, d2, .str sg, rfl, rfl, SqL.of (b2 _ _ nl1.symm upd_same), sge, ?_⟩
    refine ⟨Nat.zero_le _, fun l nl => ?_⟩
    have nlp : l ≠ p := (p2.ne nl).symm
    have fr : H l = none := by
      cases e : H l with
      | none => rfl
      | some o =>
        rw [bb2 l o nlp e] at nl
        cases nl
    first | refine go nl fun H3 s3 e3 => ?_ | refine goT nl fun H3 s3 e3 => ?_
    have p3 : Pot H3 p := p2.same s3
    refine ⟨.ref p, rfl, .int m, rfl, m, 1, rfl, rfl, p, m + 1, rfl, p3, by omega, by omega, fun H4 d b4 p4 d0 d1 => ?_⟩
    have hzl : sg.length ≤ sizeLine := Nat.le_trans hz1 (by decide)
    refine ⟨d, rfl, by omega, by omega, for_range (lo := 0) (n := d.toNat) (fun i σ H' => But p H H' ∧ Pot H' p ∧ ∃ (ys : List Str) (x4 x5 : Option V), σ = [some (.ref p), some (.int m), some (.str sg), some (.ref l), x4, x5] ∧ H' l = some (.lst (ys.map V.str)) ∧ ys.length ≤ i ∧ (∀ y ∈ ys, 0 < y.length ∧ Tq B8 13 y) ∧ ys.Nodup)
      ⟨(bb2.trans (But.of_same s3)).trans b4, p4, [], none, none, rfl, b4 _ _ nlp e3, Nat.le_refl 0, (fun y hy => by cases hy), List.nodup_nil⟩ ?_ ?_⟩
    · rintro i σ H5 hi ⟨b5, p5, ys, x4, x5, rfl, el, hlen, hys, hnd⟩
      -- a name
      refine ⟨_, rfl, .ref p, rfl, _, rfl, sg, rfl, hzl, p, sg.length, rfl, p5, by omega, by omega, fun H6 j b6 p6 j0 j1 => ?_⟩
      obtain ⟨n, rfl⟩ := Int.eq_ofNat_of_zero_le j0
      have hn : n < sg.cps.toList.length := by
        have e : sg.cps.toList.length = sg.length := by simp [Str.length]
        omega
      refine ⟨sg, n, sg.cps.toList[n], rfl, rfl, hzl, atI_nat (List.getElem?_eq_getElem hn), ?_⟩
      refine ⟨.ref p, rfl, by decide +kernel, fun l2 n2 => ?_⟩
      have p7 := p6.new (o := .lst ([(2 : Int), 12].map V.int)) n2
      have nl2 := p6.ne n2
      refine ⟨.ref p, rfl, p, 2, rfl, p7, by decide, by decide, fun H8 d8 b8 p8 d80 d81 => ?_⟩
      obtain ⟨mo, mom, moe⟩ := at_ints [(2 : Int), 12] d8 d80 (by show d8 < 2; exact d81)
      have hmo : 0 ≤ mo ∧ mo ≤ 12 := (by decide : ∀ y ∈ [(2 : Int), 12], 0 ≤ y ∧ y ≤ 12) mo mom
      refine ⟨l2, _, d8, .int mo, rfl, rfl, SqL.of (b8 _ _ nl2.symm upd_same), moe, _, rfl, p, mo, sg, rfl, p8, hmo.1, by omega, hz0, hz1, fun H9 y b9 p9 ty => ?_⟩
      have t1 : Tq B8 13 (⟨#[sg.cps.toList[n]]⟩ ++ y : Str) := by
        have h1 : Tq B8 1 (⟨#[sg.cps.toList[n]]⟩ : Str) := Tq.sign (hz2 _ (List.getElem_mem hn))
        have h2 : Tq B8 mo.toNat y := ty.mono (Nat.le_refl _) hz2
        exact (h1.app h2).mono (by omega) (fun _ h => h)
      have t0 : 0 < (⟨#[sg.cps.toList[n]]⟩ ++ y : Str).length := by
        rw [Str.length_append]
        have : (⟨#[sg.cps.toList[n]]⟩ : Str).length = 1 := rfl
        omega
      have bb9 : But p H5 H9 := ((b6.trans (But.new n2)).trans b8).trans b9
      refine ⟨_, y, rfl, rfl, ?_, ?_⟩
      · have := ty.le
        have : (⟨#[sg.cps.toList[n]]⟩ : Str).length = 1 := rfl
        exact Nat.le_of_lt (small1000 (by omega))
      dsimp only [tSeq, tAsg, tC, gName]
      generalize (⟨#[sg.cps.toList[n]]⟩ ++ y : Str) = nm1 at t1 t0
      have el9 : H9 l = some (.lst (ys.map V.str)) := bb9 _ _ nlp el
      refine ts_gen (t := tIfS _ _ _) (fun σ' H' => But p H5 H' ∧ Pot H' p ∧ ∃ nm : Str, 0 < nm.length ∧ Tq B8 13 nm ∧ σ' = [some (.ref p), some (.int m), some (.str sg), some (.ref l), some (.int (0 + (i : Int))), some (.str nm)]) (fun κ c => ?_) ?_
      · refine ⟨.ref l, rfl, Nat.zero_le _, fun a1 m1' => ?_⟩
        first | refine goT m1' fun H10 s10 e10 => ?_ | refine go m1' fun H10 s10 e10 => ?_
        have p10 : Pot H10 p := p9.same s10
        have bb10 : But p H5 H10 := bb9.trans (But.of_same s10)
        have el10 := s10 _ _ el9
        refine ⟨_, _, .lst (SqL.of el10) (dp_strs _), .lst (SqL.of e10) .nil, shaped_strs _ (fun y hy => strOk_of (hys y hy).2.pl), by decide +kernel, _, rfl, ite2 (fun e => ?_) (fun e => ?_)⟩
        · have hne : ys ≠ [] := fun c => by
            rw [eqv_nil, c] at e
            cases e
          refine ⟨.ref p, rfl, p, 3, rfl, p10, by decide, by decide, fun H11 d11 b11 p11 d110 d111 => ⟨rfl, _, rfl, ite2 (fun e => ?_) (fun e => ?_)⟩⟩
          · have el11 := b11 _ _ nlp el10
            have hpos : 0 < ys.length := List.length_pos_iff.mpr hne
            refine ⟨.ref l, rfl, .ref p, rfl, .ref l, rfl, l, _, rfl, .inl (SqL.of el11), p, (ys.map V.str).length, rfl, p11, by rw [List.length_map]; omega, by rw [List.length_map]; omega, fun H12 j12 b12 p12 j120 j121 => ?_⟩
            rw [List.length_map] at j121
            obtain ⟨z, hzm, hze⟩ := at_strs ys j12 j120 j121
            refine ⟨l, _, j12, .str z, rfl, rfl, SqL.of (b12 _ _ nlp el11), hze, ?_⟩
            refine ⟨.ref p, rfl, .str sg, rfl, p, 3, sg, rfl, p12, by decide, by decide, hz0, hz1, fun H13 y13 b13 p13 t13 => ?_⟩
            have tz := (hys z hzm).2
            have t13' : Tq B8 3 y13 := t13.mono (Nat.le_refl _) hz2
            have tall : Tq B8 16 (z ++ y13) := (tz.app t13')
            refine ⟨z, y13, rfl, rfl, Nat.le_of_lt (small1000 (by have := tz.le; have := t13'.le; omega)), 13, rfl, _, rfl, Nat.le_trans tall.le (by decide), ?_⟩
            refine c _ _ ⟨((bb10.trans b11).trans b12).trans b13, p13, cutS (z ++ y13) none (some 13), ?_, ?_, rfl⟩
            · exact cut_pos (by rw [Str.length_append]; have := (hys z hzm).1; omega)
            · exact ⟨cut_le13 _, (tall.cut none (some 13)).pl⟩
          · exact c _ _ ⟨bb10.trans b11, p11, nm1, t0, t1, rfl⟩
        · exact c _ _ ⟨bb10, p10, nm1, t0, t1, rfl⟩
      rintro σ6 H14 ⟨bb14, p14, nm, hn0, tn, rfl⟩
      have el14 := bb14 _ _ nlp el
      refine ⟨_, rfl, .ref l, rfl, l, _, rfl, .inl (SqL.of el14), rfl, strs_flat _, _, rfl, ite2 (fun e => ?_) (fun e => ?_)⟩
      · have hnin : nm ∉ ys := fun c => by
          have e' : (!inV (.str nm) (ys.map V.str)) = true := e
          rw [inV_strs, decide_eq_true c] at e'
          cases e'
        refine ⟨.ref l, rfl, .inl ⟨rfl, _, SqL.of el14⟩, _, rfl, l, _, _, rfl, rfl, el14, by rw [List.length_map]; exact small1000 (by omega), ?_⟩
        refine goU fun H15 u15 e15 => ?_
        refine ⟨fun b o nb e => u15 b o (ne_of_none e fr) (bb14 b o nb (b5 b o nb e)), ?_, ys ++ [nm], _, _, rfl, ?_, ?_, ?_, ?_⟩
        · obtain ⟨x, y, e, h1, h2⟩ := p14
          exact ⟨x, y, u15 _ _ (fun z => nlp z.symm) e, h1, h2⟩
        · rw [e15, List.map_append]
          rfl
        · rw [List.length_append]
          have : [nm].length = 1 := rfl
          omega
        · intro z hz
          rcases List.mem_append.mp hz with h | h
          · exact hys z h
          · rw [List.mem_singleton.mp h]
            exact ⟨hn0, tn⟩
        · exact List.nodup_append.mpr ⟨hnd, List.pairwise_singleton _ _, fun a ha b hb c => hnin (by rw [← List.mem_singleton.mp hb, ← c]; exact ha)⟩
      · exact ⟨b5.trans bb14, p14, ys, _, _, rfl, el14, by omega, hys, hnd⟩
    · rintro σ H5 ⟨b5, p5, ys, x4, x5, rfl, el, hlen, hys, hnd⟩
      exact ⟨_, rfl, q _ l ys b5 p5 fr nlp el (by omega) hys hnd⟩
end
end WB

set_option Elab.async false
set_option linter.all false
set_option maxRecDepth 100000
set_option maxHeartbeats 4000000
namespace WB
open PySem PySem.Spec PyProof.Rows L2
open TL (tl)
def NmsOk (ys : List Str) : Prop := ys.length ≤ 24 ∧ (∀ y ∈ ys, 0 < y.length ∧ Tq B8 13 y) ∧ ys.Nodup
theorem NmsOk.ok {ys : List Str} (h : NmsOk ys) : ∀ y ∈ ys, PyData.strOk y = true := fun y hy => strOk_of (h.2.1 y hy).2.pl
/-! ### one way to be sorted -/
def leS (a b : Str) : Prop := ¬ b.cps.toList < a.cps.toList
theorem leS_anti {a b : Str} (h : leS a b) (k : leS b a) : a = b := by
  have e : a.cps.toList = b.cps.toList := List.le_antisymm (List.not_lt.mp h) (List.not_lt.mp k)
  cases a; cases b
  exact congrArg Str.mk (Array.toList_inj.mp e)
theorem leS_trans {a b c : Str} (h : leS a b) (k : leS b c) : leS a c := List.not_lt.mpr (List.le_trans (List.not_lt.mp h) (List.not_lt.mp k))
theorem rising_all : ∀ (l : List Str) (p : Str), risingS p l = true → (∀ x ∈ l, leS p x) ∧ l.Pairwise leS
  | [], p, _ => ⟨fun x hx => (by cases hx), .nil⟩
  | y :: r, p, h => by
    have h' : (!ltCps y.cps.toList p.cps.toList && risingS y r) = true := h
    obtain ⟨h1, h2⟩ := Bool.and_eq_true_iff.mp h'
    have py : leS p y := by
      rw [ltCps_eq] at h1
      intro c
      rw [decide_eq_true c] at h1
      cases h1
    obtain ⟨k1, k2⟩ := rising_all r y h2
    refine ⟨fun x hx => ?_, .cons k1 k2⟩
    rcases List.mem_cons.mp hx with e | e
    · rw [e]
      exact py
    · exact leS_trans py (k1 x e)
theorem sorted_pw {l : List Str} (h : sortedS l = true) : l.Pairwise leS := by
  cases l with
  | nil => exact .nil
  | cons x r =>
    obtain ⟨k1, k2⟩ := rising_all r x h
    exact .cons k1 k2
theorem pw_eq : ∀ {l m : List Str}, l.Perm m → l.Pairwise leS → m.Pairwise leS → l = m
  | [], m, h, _, _ => by rw [List.nil_perm.mp h]
  | a :: r, [], h, _, _ => by cases List.perm_nil.mp h
  | a :: r, b :: t, h, k1, k2 => by
    obtain ⟨a1, a2⟩ := List.pairwise_cons.mp k1
    obtain ⟨b1, b2⟩ := List.pairwise_cons.mp k2
    have e : a = b := by
      rcases List.mem_cons.mp (h.mem_iff.mp List.mem_cons_self : a ∈ b :: t) with e | e
      · exact e
      · rcases List.mem_cons.mp (h.mem_iff.mpr List.mem_cons_self : b ∈ a :: r) with e2 | e2
        · exact e2.symm
        · exact leS_anti (a1 b e2) (b1 a e)
    subst e
    rw [pw_eq (List.perm_cons a |>.mp h) a2 b2]
theorem sorted_one {l m : List Str} (h : l.Perm m) (k1 : sortedS l = true) (k2 : sortedS m = true) : l = m := pw_eq h (sorted_pw k1) (sorted_pw k2)
/-! ### what a beginning means -/
def begins (b y : Str) : Bool := decide ((tl y).take b.length = tl b)
/-- out is what b means of the names -/
def Means (ys : List Str) (b : Str) (out : List Str) : Prop :=
  if b = Str.ofString "" then out = [] else if b ∈ ys then out = [b] else out.Perm (ys.filter (begins b)) ∧ sortedS out = true
theorem Means.one {ys : List Str} {b : Str} {o1 o2 : List Str} (h : Means ys b o1) (k : Means ys b o2) : o1 = o2 := by
  unfold Means at h k
  split at h
  · rename_i e
    rw [if_pos e] at k
    rw [h, k]
  · rename_i e
    rw [if_neg e] at k
    split at h
    · rename_i e2
      rw [if_pos e2] at k
      rw [h, k]
    · rename_i e2
      rw [if_neg e2] at k
      exact sorted_one (h.1.trans k.1.symm) h.2 k.2
theorem Means.perm {ys zs : List Str} {b : Str} {o : List Str} (h : Means ys b o) (p : ys.Perm zs) : Means zs b o := by
  unfold Means at h ⊢
  split at h
  · rename_i e
    rw [if_pos e]
    exact h
  · rename_i e
    rw [if_neg e]
    split at h
    · rename_i e2
      rw [if_pos (p.mem_iff.mp e2)]
      exact h
    · rename_i e2
      rw [if_neg (fun c => e2 (p.mem_iff.mpr c))]
      exact ⟨h.1.trans (p.filter _), h.2⟩
abbrev st_w_meant : Stmt := topS 22
theorem sc_w_meant : FnScope ["_law_names_here", "_law_beginning", "_law_name"] ["_law_names_here", "_law_beginning"] (defScope st_w_meant) := ⟨rfl, rfl, rfl, by decide +kernel, rfl, by decide +kernel, by decide +kernel⟩
section
variable {P : Program} {w : World} {K : PySem.W.Frag} {mg : Str → Option Value} {base : Heap}
def spLMeant : Sp := fun vs H Q _ => ∃ (l : Addr) (ys : List Str) (b : Str), vs = [.ref l, .str b] ∧ H l = some (.lst (ys.map V.str)) ∧ NmsOk ys ∧ Tq B8 14 b ∧ ∀ H' o out, Same H H' → H o = none → H' o = some (.lst (out.map V.str)) → Means ys b out → Q (.ref o) H'
theorem ok_lmeant {f : Addr} {fd : FuncData} {k : Nat} (F : Fun K "_law_meant" "_law_meant" st_w_meant f fd) (m_len : mg "len" = none) (m_sorted : mg "sorted" = none) :
    FnOk P w K mg base CX0 (k + 1) f fd ["_law_names_here", "_law_beginning"] spLMeant := by
  refine F.ok sc_w_meant (fun vs H Q E h => ?_) (fun cdv A outer s H vs Q E hr h => ?_)
  · obtain ⟨l, ys, b, rfl, _⟩ := h
    rfl
  · obtain ⟨l, ys, b, rfl, el, ok, tb, q⟩ := h
    refine ⟨_, pss_cons (ps_if (pt_cmpR op_eq (pv 1) pe_str (nomark _)) (pss_one (ps_ret (pe_lst pa_nil))) pss_nil)
      (pss_cons (ps_if (pt_cmpR op_in_seq (pv 1) (pv 0) (by rfl)) (pss_one (ps_ret (pe_lst (pa_cons (pv 1) pa_nil)))) pss_nil)
      (pss_one (ps_ret (pe_callB cr_sortedS (by rfl) m_sorted (by decide +kernel) (pa_cons (pe_lc (own := [("_law_name", 2)]) (g := gName 2) rfl sc_w_meant.nd (pi_list (pv 0)) (blkOk_by (N := ["_law_names_here", "_law_beginning", "_law_name"]) (sc := defScope st_w_meant) (by decide +kernel)) (fun _ _ _ _ _ => (pg_name (i := 2) sc_w_meant.nd rfl (Or.inl rfl))) (fun _ _ _ _ _ => pts_one (pt_cmpR op_eq (pe_slice sl_str (pv 2) po_none (po_some (pe_callB call_len_str (by rfl) m_len PySem.boot_len (pa_cons (pv 1) pa_nil)))) (pv 1) (nomark _))) (fun _ _ _ _ _ => (pv 2))) pa_nil))))), ?_⟩
    refine ⟨_, rfl, rfl, _, rfl, ite2 (fun e => ?_) (fun e => ?_)⟩
    · have eb : b = Str.ofString "" := V.str.inj (of_decide_eq_true e)
      refine ⟨Nat.zero_le _, fun o no => ?_⟩
      exact q _ o [] (same_upd no) no upd_same (by unfold Means; rw [if_pos eb])
    have nb : b ≠ Str.ofString "" := fun c => e (decide_eq_true (by rw [c]))
    refine ⟨_, rfl, .ref l, rfl, l, _, rfl, .inl (SqL.of el), rfl, strs_flat _, _, rfl, ite2 (fun e => ?_) (fun e => ?_)⟩
    · have hm : b ∈ ys := by
        have e' : inV (.str b) (ys.map V.str) = true := e
        rw [inV_strs] at e'
        exact of_decide_eq_true e'
      refine ⟨_, rfl, by show 1 ≤ sizeLine; decide, fun o no => ?_⟩
      exact q _ o [b] (same_upd no) no upd_same (by unfold Means; rw [if_neg nb, if_pos hm])
    have hm : b ∉ ys := fun c => e (by
      show inV (.str b) (ys.map V.str) = true
      rw [inV_strs]
      exact decide_eq_true c)
    refine ⟨.ref l, rfl, l, rfl, ⟨_, SqL.of el⟩, fun D nD => ?_⟩
    refine lc_list (K := K) (a := l) (xs := ys.map V.str) (fun i Hc => Same H Hc ∧ Hc D = some (.lst (((ys.take i).filter (begins b)).map V.str))) ⟨same_upd nD, upd_same⟩ (fun i Hc _ ⟨sc, _⟩ => SqL.of (sc _ _ el)) (fun i x Hc hx ⟨sc, eD⟩ => ?_) (fun Hc ⟨sc, eD⟩ => ?_)
    · rw [List.getElem?_map] at hx
      obtain ⟨z, ez, rfl⟩ := Option.map_eq_some_iff.mp hx
      have hzl : z.length ≤ sizeLine := Nat.le_trans (ok.2.1 z (List.mem_of_getElem? ez)).2.le (by decide)
      have hbl : b.length ≤ sizeLine := Nat.le_trans tb.le (by decide)
      have etk : ys.take (i + 1) = ys.take i ++ [z] := by
        rw [List.take_add_one, ez]
        rfl
      refine ⟨rfl, .str z, rfl, .str b, rfl, b, rfl, hbl, _, rfl, z, rfl, hzl, .str b, rfl, rfl, _, rfl, ?_⟩
      have ed : decide (V.str (cutS z none (some (b.length : Int))) = V.str b) = begins b z := by
        unfold begins
        refine decide_eq_decide.mpr ⟨fun h => ?_, fun h => ?_⟩
        · rw [← tl_cut_to, V.str.inj h]
        · rw [← tl_cut_to] at h
          exact congrArg V.str (str_ext h)
      rw [ed]
      cases hb : begins b z with
      | true =>
        refine ⟨_, rfl, _, eD, ?_, ?_, ?_⟩
        · rw [List.length_map]
          refine Nat.lt_of_le_of_lt (List.length_filter_le _ _) ?_
          rw [List.length_take]
          exact small1000 (Nat.le_trans (Nat.min_le_right _ _) (Nat.le_trans ok.1 (by decide)))
        · intro a o e
          rw [upd_ne (ne_of_none e nD)]
          exact sc a o e
        · rw [upd_same, etk, List.filter_append, List.filter_cons_of_pos hb, List.filter_nil, List.map_append]
          rfl
      | false =>
        refine ⟨sc, ?_⟩
        rw [etk, List.filter_append, List.filter_cons_of_neg (by rw [hb]; decide), List.filter_nil, List.append_nil]
        exact eD
    · rw [List.length_map, List.take_length] at eD
      refine ⟨D, _, rfl, SqL.of eD, ?_, fun out o hp hs no => ?_⟩
      · exact Nat.lt_of_le_of_lt (List.length_filter_le _ _) (by have := ok.1; omega)
      · refine q _ o out (sc.trans (same_upd no)) (sc.free no) upd_same ?_
        unfold Means
        rw [if_neg nb, if_neg hm]
        exact ⟨hp, hs⟩
end
end WB

set_option Elab.async false
set_option linter.all false
set_option maxRecDepth 100000
set_option maxHeartbeats 4000000
namespace WB
open PySem PySem.Spec PyProof.Rows L2
open TL (tl)
theorem starts_begins (y b : Str) : Txt.startswith y b = begins b y := by
  unfold Txt.startswith begins
  rw [StrLaws.subAt_eq, List.drop_zero]
  by_cases h : b.length ≤ y.length
  · rw [decide_eq_true (show 0 + b.length ≤ y.length by omega), Bool.true_and]
    by_cases e : (tl y).take b.length = tl b
    · rw [decide_eq_true e]
      exact beq_iff_eq.mpr e
    · rw [decide_eq_false e]
      exact beq_eq_false_iff_ne.mpr e
  · rw [decide_eq_false (show ¬ 0 + b.length ≤ y.length by omega), Bool.false_and]
    refine (decide_eq_false fun e => ?_).symm
    have z := congrArg List.length e
    rw [List.length_take, ← TL.len_tl, ← TL.len_tl] at z
    omega
abbrev st_meant : Stmt := topS 13
theorem sc_meant : FnScope ["names", "beginning", "name"] ["names", "beginning"] (defScope st_meant) := ⟨rfl, rfl, rfl, by decide +kernel, rfl, by decide +kernel, by decide +kernel⟩
section
variable {P : Program} {w : World} {K : PySem.W.Frag} {mg : Str → Option Value} {base : Heap}
theorem ok_meant {f : Addr} {fd : FuncData} {k : Nat} (F : Fun K "meant" "meant" st_meant f fd) (m_sorted : mg "sorted" = none) :
    FnOk P w K mg base CX0 (k + 1) f fd ["names", "beginning"] spLMeant := by
  refine F.ok sc_meant (fun vs H Q E h => ?_) (fun cdv A outer s H vs Q E hr h => ?_)
  · obtain ⟨l, ys, b, rfl, _⟩ := h
    rfl
  · obtain ⟨l, ys, b, rfl, el, ok, tb, q⟩ := h
    refine ⟨_, pss_cons (ps_if (pt_cmpR op_eq (pv 1) pe_str (nomark _)) (pss_one (ps_ret (pe_lst pa_nil))) pss_nil)
      (pss_cons (ps_if (pt_cmpR op_in_seq (pv 1) (pv 0) (by rfl)) (pss_one (ps_ret (pe_lst (pa_cons (pv 1) pa_nil)))) pss_nil)
      (pss_one (ps_ret (pe_callB cr_sortedS (by rfl) m_sorted (by decide +kernel) (pa_cons (pe_lc (own := [("name", 2)]) (g := gName 2) rfl sc_meant.nd (pi_list (pv 0)) (blkOk_by (N := ["names", "beginning", "name"]) (sc := defScope st_meant) (by decide +kernel)) (fun _ _ _ _ _ => (pg_name (i := 2) sc_meant.nd rfl (Or.inl rfl))) (fun _ _ _ _ _ => pts_one (pt_val (pe_m1 PySem.F.slot_str_startswith PySem.F.type_str_startswith mt_startswith (pv 2) (pv 1)))) (fun _ _ _ _ _ => (pv 2))) pa_nil))))), ?_⟩
    refine ⟨_, rfl, rfl, _, rfl, ite2 (fun e => ?_) (fun e => ?_)⟩
    · have eb : b = Str.ofString "" := V.str.inj (of_decide_eq_true e)
      refine ⟨Nat.zero_le _, fun o no => ?_⟩
      exact q _ o [] (same_upd no) no upd_same (by unfold Means; rw [if_pos eb])
    have nb : b ≠ Str.ofString "" := fun c => e (decide_eq_true (by rw [c]))
    refine ⟨_, rfl, .ref l, rfl, l, _, rfl, .inl (SqL.of el), rfl, strs_flat _, _, rfl, ite2 (fun e => ?_) (fun e => ?_)⟩
    · have hm : b ∈ ys := by
        have e' : inV (.str b) (ys.map V.str) = true := e
        rw [inV_strs] at e'
        exact of_decide_eq_true e'
      refine ⟨_, rfl, by show 1 ≤ sizeLine; decide, fun o no => ?_⟩
      exact q _ o [b] (same_upd no) no upd_same (by unfold Means; rw [if_neg nb, if_pos hm])
    have hm : b ∉ ys := fun c => e (by
      show inV (.str b) (ys.map V.str) = true
      rw [inV_strs]
      exact decide_eq_true c)
    refine ⟨.ref l, rfl, l, rfl, ⟨_, SqL.of el⟩, fun D nD => ?_⟩
    refine lc_list (K := K) (a := l) (xs := ys.map V.str) (fun i Hc => Same H Hc ∧ Hc D = some (.lst (((ys.take i).filter (begins b)).map V.str))) ⟨same_upd nD, upd_same⟩ (fun i Hc _ ⟨sc, _⟩ => SqL.of (sc _ _ el)) (fun i x Hc hx ⟨sc, eD⟩ => ?_) (fun Hc ⟨sc, eD⟩ => ?_)
    · rw [List.getElem?_map] at hx
      obtain ⟨z, ez, rfl⟩ := Option.map_eq_some_iff.mp hx
      have etk : ys.take (i + 1) = ys.take i ++ [z] := by
        rw [List.take_add_one, ez]
        rfl
      refine ⟨rfl, .str z, rfl, ⟨_, rfl⟩, .str b, rfl, z, b, rfl, rfl, _, rfl, ?_⟩
      rw [starts_begins]
      cases hb : begins b z with
      | true =>
        refine ⟨_, rfl, _, eD, ?_, ?_, ?_⟩
        · rw [List.length_map]
          refine Nat.lt_of_le_of_lt (List.length_filter_le _ _) ?_
          rw [List.length_take]
          exact small1000 (Nat.le_trans (Nat.min_le_right _ _) (Nat.le_trans ok.1 (by decide)))
        · intro a o e
          rw [upd_ne (ne_of_none e nD)]
          exact sc a o e
        · rw [upd_same, etk, List.filter_append, List.filter_cons_of_pos hb, List.filter_nil, List.map_append]
          rfl
      | false =>
        refine ⟨sc, ?_⟩
        rw [etk, List.filter_append, List.filter_cons_of_neg (by rw [hb]; decide), List.filter_nil, List.append_nil]
        exact eD
    · rw [List.length_map, List.take_length] at eD
      refine ⟨D, _, rfl, SqL.of eD, ?_, fun out o hp hs no => ?_⟩
      · exact Nat.lt_of_le_of_lt (List.length_filter_le _ _) (by have := ok.1; omega)
      · refine q _ o out (sc.trans (same_upd no)) (sc.free no) upd_same ?_
        unfold Means
        rw [if_neg nb, if_neg hm]
        exact ⟨hp, hs⟩
end
end WB

set_option Elab.async false
set_option linter.all false
set_option maxRecDepth 100000
set_option maxHeartbeats 4000000
namespace WG
open PySem PySem.Spec PyProof.Rows L2
/-! ### a def's promise where no repr is under way -/
structure GOk (P : Program) (w : World) (K : PySem.W.Frag) (mg : Str → Option Value) (base : Heap) (CX : CXT) (k : Nat) (f : Addr) (fd : FuncData) (ps : List Str) (sp : Sp) : Prop where
  len : ∀ vs H Q E, sp vs H Q E → vs.length = ps.length
  run : ∀ (A : Around) (outer : List Env) (s : Shared) (H : Hp) (args : Args) (us : List Value) (vs : List V) (Q : VK) (E : XK), A.guards = some [] → Room k A → Env0 P w K mg base A outer s H →
    BindsTo s fd args (ps.zip us) → Vals vs us → sp vs H Q E → codeAny (model P w) A (.call (.ref f) args) (CR CX outer P w H s Q E) s
theorem GOk.of {P : Program} {w : World} {K : PySem.W.Frag} {mg : Str → Option Value} {base : Heap} {CX : CXT} {k : Nat} {f : Addr} {fd : FuncData} {ps : List Str} {sp : Sp} (F : FnOk P w K mg base CX k f fd ps sp) : GOk P w K mg base CX k f fd ps sp :=
  ⟨F.len, fun A o s H args us vs Q E _ => F.run A o s H args us vs Q E⟩
section
variable {CX : CXT} {P : Program} {w : World} {K : PySem.W.Frag} {mg : Str → Option Value} {base : Heap} {k : Nat} {f : Addr} {N ps : List Str} {sp : Sp}
theorem gfn_of {name qual : Str} {params : Arguments} {body : List Stmt} {scope : Scope} {dV kV doc pm cdv ct oc : Value} {an od : Option Addr} {osl : Array (Option Value)}
    (lk : K.lookup f = some ⟨oc, od, .func (PySem.W.fnOf name qual params body scope dV kV doc pm an cdv ct), osl⟩) (hcd : PySem.W.codeIn K cdv qual = true) (S : FnScope N ps scope) (len : ∀ vs H Q E, sp vs H Q E → vs.length = ps.length)
    (hbody : ∀ (A : Around) (outer : List Env) (s : Shared) (H : Hp) (vs : List V) (Q : VK) (E : XK), A.guards = some [] → Room k (A.deeper (envOfC qual scope s.heap.objs.size f cdv)) → sp vs H Q E →
      ∃ t, PSs (cxOf CX P w K mg base N qual scope f cdv A outer s H E) body t ∧ t { nx := fun _ H' => Q .non H', rt := Q } (L2.start N vs) H) :
    GOk P w K mg base CX (k + 1) f (PySem.W.fnOf name qual params body scope dV kV doc pm an cdv ct) ps sp := by
  refine ⟨len, fun A outer s H args us vs Q E hgd room env bnd rel want => ?_⟩
  have hlen := len _ _ _ _ want
  have kin : K.In s.heap := env.mod.kin.keeps fun b o q => (env.bs b o q).1
  have nolim : s.heap.NoLimit := env.mod.nolimit.keeps fun b o q => (env.bs b o q).1
  have kinds : ∀ y ∈ ps.zip us, scope.names.lookup y.1 = some .local ∨ (scope.names.lookup y.1 = some .cell ∧ ((cellsFrom (s.heap.objs.size + 1) scope.names []).lookup y.1).isSome = true) := by
    intro y hy
    obtain ⟨n, v⟩ := y
    cases S.par n (List.of_mem_zip hy).1 with
    | inl z => exact .inl z
    | inr z => exact .inr ⟨z, PySem.W.cellsFrom_some _ _ _ (.inl z)⟩
  refine codeAny_call_function room.depth (kin _ _ lk) rfl S.co S.gen rfl (PySem.W.codeRec_of kin hcd) (bnd _ _ _ _ ?_)
  refine wpAny_newFunctionEnv_cells S.kind kinds fun e2 he2 s1 hx => ?_
  subst he2
  refine ⟨nolim.keeps hx.toInCall.keep, codeAny_func ?_⟩
  obtain ⟨t, tb, tq⟩ := hbody A outer s H vs Q E hgd (room.deeper _) want
  have I : Inv (cxOf CX P w K mg base N qual scope f cdv A outer s H E) [] (L2.start N vs) H s1 := inv_start S room.hd env hlen rel hx
  refine wpAny_mono (tb.run [] s1 (L2.start N vs) H _ I tq) (fun fl s' hs => ?_) fun e s' hs => hs
  cases fl with
  | ret u =>
    obtain ⟨v, _, H', J, rv, q⟩ := hs
    exact ⟨v, H', J.os, J.bare, J.base, J.hok, rv, q⟩
  | next =>
    obtain ⟨_, H', J, q⟩ := hs
    exact ⟨V.non, H', J.os, J.bare, J.base, J.hok, rfl, q⟩
  | brk =>
    obtain ⟨_, _, _, q⟩ := hs
    exact False.elim q
  | cont =>
    obtain ⟨_, _, _, q⟩ := hs
    exact False.elim q
theorem gfun_ok {x qual : Str} {st : Stmt} {fd : FuncData} (F : Fun K x qual st f fd) (S : FnScope N ps (defScope st)) (len : ∀ vs H Q E, sp vs H Q E → vs.length = ps.length)
    (hbody : ∀ (cdv : Value) (A : Around) (outer : List Env) (s : Shared) (H : Hp) (vs : List V) (Q : VK) (E : XK), A.guards = some [] → Room k (A.deeper (envOfC qual (defScope st) s.heap.objs.size f cdv)) → sp vs H Q E →
      ∃ t, PSs (cxOf CX P w K mg base N qual (defScope st) f cdv A outer s H E) (defBody st) t ∧ t { nx := fun _ H' => Q .non H', rt := Q } (L2.start N vs) H) : GOk P w K mg base CX (k + 1) f fd ps sp := by
  obtain ⟨oc, od, kV, doc, pm, an, cdv, ct, osl, rfl, lk, hcd⟩ := F.ex
  exact gfn_of lk hcd S len fun A outer s H vs Q E hg hr hsp => hbody cdv A outer s H vs Q E hg hr hsp
end
section
variable {X : Cx} {CX : CXT} {k : Nat} {f : Addr} {fd : FuncData} {ps : List Str} {sp : Sp} {E : XK} {x : Str} {p pos : Pos} {e : Expr} {es : List Expr} {t : TA}
theorem pe_callG (F : GOk X.prog X.w X.K X.mg X.base CX k f fd ps sp) (hgd : X.A.guards = some []) (hr : Room k X.A) (hg : Gl X x) (hm : X.mg x = some (.ref f)) (hk : PySem.W.keepIn X.K (.ref f) = true) (hb : Binds X.K fd ps []) (hx : Passes CX X E)
    (ha : PA X (e :: es) t) (hdb : (x == ("__debug__" : Str)) = false := by decide) (he : starEach (e :: es) X.env = (false, eval e X.env) :: starEach es X.env := by rfl) (hpl : (backTo pos (starEach es X.env)).any (·.1) = false := by rfl) :
    PE X (.Call (.Name x p) (e :: es) [] pos) (tCall sp [] E t) := by
  constructor
  intro pins s σ H Q I h
  refine wpAny_Call_Name_kw (ld_glob I hg hm ?_ hdb)
  refine PySem.W.callWith_K (h₀ := X.base) I.ok.mod.kin hk (thn (ha.run pos pins s σ H _ I h) fun us s1 ⟨vs, H1, I1, r, q⟩ => ⟨I1.kIn, ?_⟩) he hpl
  have q : sp vs H1 Q E := by
    have z : sp (vs ++ []) H1 Q E := q
    rw [List.append_nil] at z
    exact z
  have hl : (us ++ []).length = ps.length := by
    rw [List.append_nil, ← r.length]
    exact F.len _ _ _ _ q
  have b := hb s1 us I1.kIn hl
  rw [List.append_nil] at b
  refine wpAny_call (codeAny_mono (F.run X.A X.stack s1 H1 ⟨us, []⟩ us vs Q E hgd hr I1.env0 b r q) fun rr s' hq => ?_)
  cases rr with
  | error er => exact hx pins σ H1 s1 er s' I1 hq
  | ok fl =>
    cases fl with
    | ret u => exact I1.after hq
    | next => exact hq.elim
    | brk => exact hq.elim
    | cont => exact hq.elim
end
/-! ### the law's end over such a promise -/
theorem glaw_call {P : Program} {w : World} {K : PySem.W.Frag} {mg mb : Str → Option Value} {CX : CXT} {k : Nat} {fa a : Addr} {fd : FuncData} {x : Str} {sp : Sp} {t : Shared} {vs : List Value} {ns : List Int}
    (kin : K.In t.heap) (nsm : t.heap.Ns mainGlobals mg) (nsb : t.heap.Ns builtinsNs mb) (hbb : ∀ x : Str, x ≠ "__name__" → mb x = bootBuiltins x) (nolim : t.heap.NoLimit) (nogen : t.gens = #[])
    (obj : t.heap.get? a = some { cls := .type "list", data := .seq vs.toArray }) (hints : IntsAre vs ns) (hl : ns.length ≤ sizeLine) (room : Room k callerA)
    (F : ∀ base : Heap, K.In base → base.Ns mainGlobals mg → GOk P w K mg base CX k fa fd [x] sp) (bnd : ∀ (s : Shared) (u : Value), BindsTo s fd ⟨[u], []⟩ [(x, u)])
    (want : ∀ H : Hp, Only H → SqL K H a (ns.map V.int) → sp [.ref a] H (fun v _ => v = .bl true) fun _ _ _ => False)
    (noX : ∀ H e s', CX [] H t (fun _ _ _ => False) e s' → False) :
    codeAny (model P w) callerA (.call (.ref fa) ⟨[.ref a], []⟩) (fun r s' => r = .ok (.ret (.bool true)) ∧ OldK t.heap s'.heap ∧ s'.os = t.os ∧ AllBare s'.gens) t := by
  have rv := vals_ints hints
  have hlv := hints.length
  have main : ∀ H : Hp, Only H → SqL K H a (ns.map V.int) → HOk P w H t.heap → (∀ b, H b ≠ none → b = a) → (H a ≠ none → K.lookup a = none) →
      codeAny (model P w) callerA (.call (.ref fa) ⟨[.ref a], []⟩) (fun r s' => r = .ok (.ret (.bool true)) ∧ OldK t.heap s'.heap ∧ s'.os = t.os ∧ AllBare s'.gens) t := by
    intro H only hS ok onlyA hK
    have noD : ∀ {b : Addr} {o : Obj} {es : Array DictEntry} {ep : Nat}, t.heap.get? b = some o → o.data = .dict es ep → H b = none := by
      intro b o es ep e d
      cases q : H b with
      | none => rfl
      | some u =>
        have z := onlyA b (by rw [q]; exact Option.some_ne_none u)
        subst z
        rw [obj] at e
        cases e
        cases d
    have nsH : ∀ {b : Addr} {m : Str → Option Value}, t.heap.Ns b m → (hidT t.heap H).Ns b m := by
      rintro b m ⟨o, es, ep, e, d, r⟩
      exact ⟨o, es, ep, hidT_get e (noD e d), d, r⟩
    have kinH : K.In (hidT t.heap H) := by
      intro b o e
      refine hidT_get (kin b o e) ?_
      cases q : H b with
      | none => rfl
      | some u =>
        have z := onlyA b (by rw [q]; exact Option.some_ne_none u)
        subst z
        rw [hK (by rw [q]; exact Option.some_ne_none u)] at e
        cases e
    have md : Mod K mg (hidT t.heap H) := by
      refine ⟨kinH, nsH nsm, ⟨mb, nsH nsb, hbb⟩, ?_⟩
      obtain ⟨mc, h1, h2⟩ := nolim
      exact ⟨mc, nsH h1, h2⟩
    have env : Env0 P w K mg (hidT t.heap H) callerA [] t H :=
      ⟨rfl, md, fun b o e => of_hidT e, Nat.le_of_eq (hidT_size _ _), trivial, fun b hb => (List.not_mem_nil (show b ∈ ([] : List Addr) from hb)).elim, ok, .of_eq nogen⟩
    refine codeAny_mono ((F _ kinH (nsH nsm)).run callerA [] t H ⟨[.ref a], []⟩ [.ref a] [.ref a] _ _ rfl room env (bnd t (.ref a)) (.cons rfl .nil) (want H only hS)) fun r s' h => ?_
    cases r with
    | error e => exact (noX H e s' h).elim
    | ok fl =>
      cases fl with
      | next => exact h.elim
      | brk => exact h.elim
      | cont => exact h.elim
      | ret u =>
        obtain ⟨v, H', os, bare, un, ok', r', q⟩ := h
        have q' : v = .bl true := q
        subst q'
        cases r'
        refine ⟨rfl, OldK.of_keep fun b o e => ?_, os, bare⟩
        cases q : H b with
        | none => exact un.keep b o e q (fun z => (List.not_mem_nil (show b ∈ ([] : List Addr) from z)).elim) List.not_mem_nil
        | some u =>
          rcases only b with z | ⟨ob, xs, z⟩
          · rw [q] at z
            cases z
          · obtain ⟨e1, _⟩ := ok b _ z
            obtain ⟨e2, _⟩ := ok' b _ (un.frzs b ob _ z)
            rw [e] at e1
            cases e1
            exact e2
  cases hk : K.lookup a with
  | some o =>
    have e := kin a o hk
    rw [obj] at e
    cases e
    refine main (fun _ => none) (fun _ => .inl rfl) (.inr ⟨_, vs.toArray, _, hk, rfl, rfl, rfl, ?_, by simpa using rv⟩) (fun b u z => by cases (show (none : Option HO) = some u from z)) (fun b z => absurd rfl z) fun z => absurd rfl z
    rw [List.size_toArray, hlv]
    exact hl
  | none =>
    refine main (fun b => if b = a then some (.frz { cls := .type "list", data := .seq vs.toArray } (.lst (ns.map V.int))) else none) (fun b => ?_) (.inl (.inr ⟨_, if_pos rfl⟩)) (fun b u z => ?_) (fun b z => ?_) fun _ => hk
    · by_cases hb : b = a
      · exact .inr ⟨_, _, if_pos hb⟩
      · exact .inl (if_neg hb)
    · by_cases hb : b = a
      · have z' := (if_pos hb).symm.trans z
        cases z'
        subst hb
        exact ⟨obj, by rw [List.length_map]; exact hl, vs, _, rv, obj⟩
      · have z' := (if_neg hb).symm.trans z
        cases z'
    · by_cases hb : b = a
      · exact hb
      · exact absurd (if_neg hb) z
theorem gwalk_of {l : PySem.W.OpenLaw} {n k : Nat} {q : Program} {loose : List Str} {XP : (Str → Option Value) → Heap → Prop} {YP : World → Heap → Prop} {d : DefRec} {K : Params → PySem.W.Frag} {CX : World → CXT} {sp : World → Sp} {x : Str}
    (hn : l.most = some n) (hn2 : n ≤ sizeLine) (hdf : d.params.defaults = []) (hr : Room k callerA) (hY : ∀ (w : World) (h : Heap), YP w h → (K w.params).In h)
    (F : ∀ (w : World) (mg : Str → Option Value) (fa : Addr) (h : Heap), (K w.params).In h → h.Ns mainGlobals mg → mg d.name = some (.ref fa) →
      ∃ fd : FuncData, (∀ (s : Shared) (u : Value), BindsTo s fd ⟨[u], []⟩ [(x, u)]) ∧ ∀ base : Heap, (K w.params).In base → base.Ns mainGlobals mg → GOk l.prog w (K w.params) mg base (CX w) k fa fd [x] (sp w))
    (hsp : ∀ (w : World) (H : Hp) (a : Addr) (ns : List Int), ns.length ≤ n → Only H → SqL (K w.params) H a (ns.map V.int) → sp w [.ref a] H (fun v _ => v = .bl true) fun _ _ _ => False)
    (hCX : ∀ (w : World) (H : Hp) (s : Shared) (e : Value) (s' : Shared), CX w [] H s (fun _ _ _ => False) e s' → False) : PySem.W.WalkO q loose XP YP l.row.toRowW d [] (fun f vs => PySem.call f vs) := by
  refine Att.attach_call hn hdf fun w s0 s1 mg mb fa o pm cd doc a vs ns G Y ho hd hcd hmg hobj hints hlen hg => ?_
  obtain ⟨fd, hb, hF⟩ := F w mg fa _ (hY w _ Y) G.T.g hmg
  exact glaw_call (hY w _ Y) G.T.g G.T.b G.T.builtins G.T.nolimit hg hobj hints (Nat.le_trans hlen hn2) hr hF hb (fun H hO hS => hsp w H a ns hlen hO hS) fun H e s' => hCX w H s1 e s'
/-! ### text * int -/
theorem fold_toList : ∀ (l : List (Array Nat)) (acc : Array Nat), (l.foldl (· ++ ·) acc).toList = acc.toList ++ (l.map Array.toList).flatten
  | [], acc => by simp
  | x :: l, acc => by
    rw [List.foldl_cons, fold_toList l]
    simp
theorem mul_tl (z : Str) (n : Nat) : (Txt.mul z (n : Int)).cps.toList = (List.replicate n z.cps.toList).flatten := by
  unfold Txt.mul
  by_cases h1 : (n : Int) < 1
  · have e : n = 0 := by omega
    subst e
    rw [if_pos h1]
    rfl
  · rw [if_neg h1]
    by_cases h2 : ((n : Int) == 1 || z.length == 0) = true
    · rw [if_pos h2]
      rcases Bool.or_eq_true_iff.mp h2 with e | e
      · have e1 : n = 1 := by
          have := eq_of_beq e
          omega
        subst e1
        simp
      · have e1 : z.cps.toList = [] := List.length_eq_zero_iff.mp (by
          have := eq_of_beq e
          simpa [Str.length] using this)
        rw [e1]
        simp
    · rw [if_neg h2]
      show ((List.replicate (n : Int).toNat z.cps).foldl (· ++ ·) #[]).toList = _
      rw [fold_toList, Int.toNat_natCast, List.map_replicate]
      rfl
theorem op_mul_str {X : Cx} : OpR X (binaryOp .Mult) (fun x y H Q => ∃ (z : Str) (n : Nat), x = .str z ∧ y = .int (n : Int) ∧ n ≤ 1000 ∧ z.length ≤ 1000 ∧ ∀ y : Str, y.length = z.length * n → (∀ c ∈ y.cps.toList, c ∈ z.cps.toList) → Q (.str y) H) := by
  intro pins s σ H x y v u Q I rx ry h
  obtain ⟨z, n, rfl, rfl, hn, hz, q⟩ := h
  obtain ⟨tx, rfl⟩ := rx
  obtain ⟨ty, rfl⟩ := ry
  have pw : z.length * n ≤ 1000000 := Nat.le_trans (Nat.mul_le_mul hz hn) (by decide)
  refine PySem.SB.mul ⟨?_, fun h1 h2 => ?_, fun h1 h2 => ?_⟩ fun t' k => ⟨.str _, H, I.tok k, ⟨t', rfl⟩, q _ ?_ ?_⟩
  · rw [decide_eq_false (by omega), decide_eq_false (by omega)]
    rfl
  · have e : (1000 : Int) ≤ (2 ^ 63 - 1) / (n : Int) := by
      have h3 : (0 : Int) < n := by omega
      exact (Int.le_ediv_iff_mul_le h3).mpr (by omega)
    omega
  · rw [Int.toNat_natCast]
    exact decide_eq_false (by show ¬ sizeLine < _; have : sizeLine = 16777216 := sizeLine_eq; omega)
  · rw [TL.len_tl, TL.len_tl z]
    show (Txt.mul z (n : Int)).cps.toList.length = _
    rw [mul_tl]
    simp [Nat.mul_comm]
  · intro c hc
    rw [mul_tl] at hc
    obtain ⟨l, hl, hcl⟩ := List.mem_flatten.mp hc
    rw [(List.mem_replicate.mp hl).2] at hcl
    exact hcl
/-! ### repr of a list -/
/-- a value and the data that it is: as in Dp, and dicts of none or one text with an int -/
inductive Itm (K : PySem.W.Frag) (H : Hp) : V → PyData → Prop
  | dp {v : V} {d : PyData} (h : Dp K H v d) (nd : d.hasDict = false) : Itm K H v d
  | d0 {a : Addr} (h : H a = some (.dK [])) : Itm K H (.ref a) (.dict [])
  | d1 {a : Addr} {x : Str} {i : Int} (h : H a = some (.dK [(Sum.inr x, .int i)])) : Itm K H (.ref a) (.dict [(.str x, .int i)])
inductive ItmAll (K : PySem.W.Frag) (H : Hp) : List V → List PyData → Prop
  | nil : ItmAll K H [] []
  | cons {v : V} {vs : List V} {d : PyData} {ds : List PyData} : Itm K H v d → ItmAll K H vs ds → ItmAll K H (v :: vs) (d :: ds)
section
variable {X : Cx} {pins : List (Addr × Obj)} {σ : L2.St} {H : Hp} {s : Shared}
theorem Itm.reads (I : Inv X pins σ H s) {v : V} {u : Value} {d : PyData} (h : Itm X.K H v d) (r : RelV v u) : ∃ as, Reads s.heap u d as ∧ (d.hasDict = true → sysModules ∉ as) := by
  cases h with
  | dp h nd =>
    obtain ⟨as, q⟩ := Dp.reads I d v u h r
    exact ⟨as, q, fun z => by rw [nd] at z; cases z⟩
  | @d0 a h =>
    cases r
    obtain ⟨_, ns, vs, kv, o, es, ep, ho, hx, hd, hk, hp, _⟩ := I.hok _ _ h
    cases kv
    generalize hl : es.toList = l at hp
    cases hp
    refine ⟨_, Reads.dict (kvs := []) (as := []) (bs := []) ho hx.1 hd (by rw [hl]; exact .nil) (by rw [hl]; exact .nil), fun _ => ?_⟩
    intro hm
    rcases List.mem_cons.mp hm with e | e
    · rw [← e] at ns
      exact absurd ns (by decide)
    · cases e
  | @d1 a x i h =>
    cases r
    obtain ⟨_, ns, vs, kv, o, es, ep, ho, hx, hd, hk, hp, _⟩ := I.hok _ _ h
    cases kv with
    | cons h1 h2 =>
      cases h2
      obtain ⟨e1, t, e2⟩ := h1
      rename_i b nd2
      obtain ⟨b1, b2⟩ := b
      dsimp only at e1 e2
      subst e1 e2
      generalize hl : es.toList = l at hp
      cases hp with
      | cons k1 k2 k3 =>
        cases k3
        rename_i en
        obtain ⟨hh, ky, vl⟩ := en
        dsimp only at k1 k2
        subst k2
        have k1' : keyIs (Sum.inr x) ky = true := k1
        rcases keyIs_shape k1' with ⟨j, t', z, _⟩ | ⟨y, t', z, rfl⟩
        · cases z
        · cases z
          refine ⟨_, Reads.dict (kvs := [(.str x, .int i)]) ho hx.1 hd (by rw [hl]; exact .cons (.str x t') .nil) (by rw [hl]; exact .cons (.int i t) .nil), fun _ => ?_⟩
          intro hm
          rcases List.mem_cons.mp hm with e | e
          · rw [← e] at ns
            exact absurd ns (by decide)
          · cases e
theorem ItmAll.all (I : Inv X pins σ H s) : ∀ {vs : List V} {ds : List PyData} {us : List Value}, ItmAll X.K H vs ds → Vals vs us → PyData.showableAll ds = true → (∀ t ∈ PyData.shownAll ds, t.length ≤ sizeLine) →
    (∃ as, ReadsAll s.heap us ds as) ∧ ∃ bs, ReadAtMost s.heap (PyData.depthAll ds) bs ∧ ReprAllK X.prog X.w bs s.heap (PyData.depthAll ds) us (PyData.shownAll ds)
  | _, _, _, .nil, .nil, _, _ => ⟨⟨_, .nil⟩, [], (fun _ h => nomatch h), by simp only [PyData.shownAll]; exact .nil⟩
  | _, _, _, .cons (d := d) (ds := ds) h1 h2, .cons r1 r2, hs, hz => by
    have hs' : d.showable = true ∧ PyData.showableAll ds = true := by simpa [PyData.showableAll] using hs
    obtain ⟨as, q, nq⟩ := h1.reads I r1
    obtain ⟨⟨as2, q2⟩, bs2, b2, k2⟩ := ItmAll.all I h2 r2 hs'.2 (fun t ht => hz t (by simp only [PyData.shownAll]; exact List.mem_cons_of_mem _ ht))
    obtain ⟨bs1, b1, k1⟩ := ReprK.of_reads (prog := X.prog) (w := X.w) q hs'.1 nq (hz _ (by simp only [PyData.shownAll]; exact List.mem_cons_self ..))
    refine ⟨⟨_, .cons q q2⟩, bs1 ++ bs2, ?_, ?_⟩
    · have e1 : d.depth ≤ PyData.depthAll (d :: ds) := by simp only [PyData.depthAll]; omega
      have e2 : PyData.depthAll ds ≤ PyData.depthAll (d :: ds) := by simp only [PyData.depthAll]; omega
      exact (b1.mono e1).append (b2.mono e2)
    · have e1 : d.depth ≤ PyData.depthAll (d :: ds) := by simp only [PyData.depthAll]; omega
      have e2 : PyData.depthAll ds ≤ PyData.depthAll (d :: ds) := by simp only [PyData.depthAll]; omega
      simp only [PyData.shownAll]
      exact .cons ((k1.more fun b hb => List.mem_append_left _ hb).level_le e1) (k2.more_le (fun b hb => List.mem_append_right _ hb) e2)
/-- repr(l) -/
def rRepr (K : PySem.W.Frag) : List V → Hp → VK → Prop := fun xs H Q => ∃ (a : Addr) (vs : List V) (ds : List PyData), xs = [.ref a] ∧ SqL K H a vs ∧ vs ≠ [] ∧ ItmAll K H vs ds ∧ PyData.showableAll ds = true ∧ PyData.depthAll ds ≤ 8 ∧
  (listText (PyData.shownAll ds)).length ≤ sizeLine ∧ Q (.str (listText (PyData.shownAll ds))) H
end
theorem call_repr_l {X : Cx} (hg : X.A.guards = some []) (hu : X.A.units + 16 < cLine) : CallR X (.builtin "repr") (rRepr X.K) := by
  intro pins s σ H xs us Q I r h
  obtain ⟨a, vs, ds, rfl, hS, hne, hI, hs, hdp, hz, q⟩ := h
  cases r with
  | cons ra rr =>
    cases rr
    cases ra
    obtain ⟨its, rv, ⟨o, n, ho, hc, hdx, hd⟩, _⟩ := I.list hS
    obtain ⟨⟨as, hr⟩, bs, hb, hk⟩ := ItmAll.all I hI rv hs (fun t ht => Nat.le_trans (listText_mem_le ht) hz)
    cases its with
    | nil =>
      cases rv
      exact absurd rfl hne
    | cons x l =>
      have rd : Reads s.heap (.ref a) (.list ds) _ := Reads.list ho hc hd hr
      have hna : a ∉ bs := not_mem_of_deeper rd (by simp only [PyData.depth]; omega) hb
      refine call_repr_slot (T := "list") (idr := "list.__repr__") (by omega) ⟨o, ho, hc⟩ F.slot_list_repr.toG ?_
      exact call_list_reprK (h₀ := s.heap) (as := bs) ho hc hd hna (by simpa using hk.length_eq) (fun i y e => hk.item i y (by simpa using e)) (g := []) hg (fun b _ => Clear.nil b) (by show X.A.units + 1 + (_ + 1) < cLine; omega) (fun _ _ e => e)
        (fun h' u tk hkp => ⟨_, _, rfl, .str _, H, I.kept (t' := tk) hkp, ⟨u, rfl⟩, q⟩) hz
end WG

set_option Elab.async false
set_option linter.all false
set_option maxRecDepth 100000
set_option maxHeartbeats 4000000
namespace WG
open PySem PySem.Spec PySem.Calls PyProof.Rows PySem.W
section
variable {prog : Program} {w : World} {A : Around} {E : Value → Shared → Prop} {s : Shared} {K : Frag} {x D : Addr} {ox : Obj} {od : Option Obj}
theorem find_dat {C : Addr} {name : Str} {a g : Value} (hc : (clsIn K C).isSome = true) (ha : findIn K (.ref C) name = some (some a)) (hg : specialIn K a "__get__" = some (some g)) (ht : takesIn K a = some true) :
    findObj K C od name = some (.bind g a) := by
  obtain ⟨cd, hcd⟩ := Option.isSome_iff_exists.mp hc
  unfold findObj
  rw [hcd, Option.bind_some, ha, Option.bind_some]
  simp [hg, ht]
theorem exc_class {Q : Option Value → Shared → Prop} (c : L2.ExcC K D) (kin : K.In s.heap) (at0 : InstAt s.heap x ox D od) (h : Q (some (.ref D)) { s with toks := s.toks + 1 }) : wpAny (model prog w) A (getAttr? (.ref x) "__class__") Q E s := by
  have hf : findObj K D od "__class__" = some (.bind (.builtin "getset_descriptor.__get__") (.builtin "object.__class__")) := by
    refine find_dat ?_ c.ha c.hn c.ht
    obtain ⟨cd, hcd, _⟩ := any_some c.hd
    rw [hcd] <;> rfl
  obtain ⟨hh, gs, dr, tk, os⟩ := s
  have t0 := at0.type (M := model prog w)
  have t1 := looks_findIn (M := model prog w) kin c.hg
  have t2 := looks_findIn (M := model prog w) kin c.hk
  have t3 := looks_find (M := model prog w) kin at0 hf
  have isb : Looks (model prog w) hh (isInstance (.ref x) (.type "BaseException")) true := t0.andThen (looks_subIn kin c.hs)
  have z0 : (false && onTheHeap (Value.builtin "BaseException.__getattribute__")) = false := rfl
  have z2 : (Value.builtin "BaseException.__getattribute__" == Value.builtin "object.__getattribute__") = false := by decide +kernel
  have z1 : (onTheHeap (Value.ref D) && Value.builtin "BaseException.__getattribute__" == Value.builtin "object.__getattribute__") = false := by
    rw [z2]
    rfl
  unfold getAttr? getAttrBy? getAttrBy
  refine wpAny_bind (wpAny_mkText (wpAny_bind (wpAny_attempt (wpAny_holding (wpAny_bind (t0.at (wpAny_bind (t1.at ?_))))))))
  show wpAny _ _ (if (onTheHeap (Value.ref D) && Value.builtin "BaseException.__getattribute__" == Value.builtin "object.__getattribute__") = true then _ else _) _ _ _
  rw [z1, if_neg Bool.false_ne_true]
  unfold getAttrByItsOwn hookBefore
  refine wpAny_bind ?_
  rw [if_pos (show onTheHeap (Value.ref D) = true from rfl)]
  refine t2.at (wpAny_bind (wpAny_attempt (wpAny_holding ?_)))
  unfold callGetattribute
  rw [z0, if_neg Bool.false_ne_true]
  unfold boundAndCalled
  rw [PySem.F.excAttr_ValueError.ga.bind (.ref x)]
  refine wpAny_bind (wpAny_pure ?_)
  show wpAny _ _ (call (.builtin "BaseException.__getattribute__") [.ref x, .str "__class__" tk]) _ _ _
  refine wpAny_call (codeAny_call_builtin PySem.F.excAttr_ValueError.ga.plain PySem.F.entry_bexc_ga ?_)
  refine @check_slot (model prog w) _ _ ⟨hh, gs, dr, tk + 1, os⟩ "BaseException.__getattribute__" "BaseException" "__getattribute__" (.ref x) [.str "__class__" tk] [] _ (by decide +kernel) (by decide +kernel) isb (PySem.F.args_bexc_ga (.ref x) (.str "__class__" tk)) ?_
  unfold Builtin.«object.__getattribute__»
  refine wpAny_bind (wpAny_of_eq (a := ((Value.ref x : Value), [Value.str "__class__" tk])) (by first | rfl | (simp only [slotArgs]; rfl)) ?_)
  refine wpAny_bind (wpAny_pure (wpAny_bind (t0.at (wpAny_bind (t3.at ?_)))))
  show wpAny _ _ (holding [Value.builtin "object.__class__"] (call (.builtin "getset_descriptor.__get__") [.builtin "object.__class__", .ref x, .ref D]) >>= ret) _ _ _
  refine wpAny_bind (wpAny_holding (wpAny_call (class_get (s := ⟨hh, gs, dr, tk + 1, os⟩) (ox := ox) (od := od) kin at0 c.hm ?_)))
  refine wpAny_pure ?_
  show wpAny _ _ (handedOut (.ref D)) _ _ _
  rw [handedOut_of (v := .ref D) rfl]
  first
    | exact wpAny_pure (wpAny_pure h)
    | exact wpAny_pure h
    | exact wpAny_pure (wpAny_bind (wpAny_pure (wpAny_pure h)))
theorem kit_exc (c : L2.ExcC K D) : KitX K (.ref x) (.ref D) (fun h => InstAt h x ox D od) := by
  obtain ⟨cd, hcd, _⟩ := any_some c.hd
  obtain ⟨o, ho, hdo⟩ : ∃ o, K.lookup D = some o ∧ o.data = .cls cd := by
    unfold clsIn at hcd
    split at hcd
    · rename_i c' d' cd' sl' hk
      cases hcd
      exact ⟨_, hk, rfl⟩
    · cases hcd
  obtain ⟨oc, odd, oda, osl⟩ := o
  dsimp only at hdo
  subst hdo
  refine { ty := fun _ _ _ J => J.type, it := fun _ _ kin _ => ?_, ne := fun h tp dd its n sl kin htp => ?_, ca := fun kin J k => exc_class c kin J k }
  · intro A' Q' E' s' kp q
    unfold isType loadHead
    exact wpAny_bind (wpAny_loadPart (kp _ _ (kin _ _ ho)) (wpAny_pure q))
  · refine Bool.eq_false_iff.mpr fun q => ?_
    have e : D = tp := Value.ref.inj (beq_iff_eq.mp q)
    subst e
    have z := (kin _ _ ho).symm.trans htp
    cases z
end
end WG
namespace WG
open PySem PySem.Spec PyProof.Rows L2
/-- isinstance(e, c), e the caught exception at a with its own dict -/
def rIsD (K : PySem.W.Frag) (a : Addr) (cls : Value) (d : Option Addr) : List V → Hp → VK → Prop := fun xs H Q => ∃ (D dd : Addr) (fs : List (Str × V)) (c : V) (cv : Value) (b : Bool), cls = .ref D ∧ d = some dd ∧ H dd = some (.xd fs) ∧ ExcC K D ∧
  xs = [.ref a, c] ∧ (∀ u, RelV c u → u = cv) ∧ PySem.W.kitOne K (.ref D) cv = some b ∧ Q (.bl b) H
theorem call_isD {X : Cx} {a : Addr} {oe : Obj} {cls : Value} {d : Option Addr} {pn : List (Addr × Obj)} (hz : Zc cls d oe) (hf : ∃ vs, oe.data = .fields vs) : CallR (X.suite a ((a, oe) :: pn)) (.builtin "isinstance") (rIsD X.K a cls d) := by
  intro pins s σ H xs us Q I r h
  obtain ⟨D, dd, fs, cl, cv, b, rfl, rfl, hx, c, rfl, hcv, e, q⟩ := h
  cases r with
  | cons rx rr =>
    cases rr with
    | cons rt rr =>
      cases rr
      cases rx
      have ec := hcv _ rt
      subst ec
      obtain ⟨hget, _⟩ := I.pin (a, oe) (List.mem_append.mpr (.inl List.mem_cons_self))
      obtain ⟨vs, hv⟩ := hf
      obtain ⟨mA, hns, _⟩ := I.hok dd _ hx
      obtain ⟨od, ho, _⟩ := lookIn_ns hns
      have J : PySem.W.InstAt s.heap a oe D (some od) := ⟨hget, hz.1, by unfold PySem.W.notCls; rw [hv] <;> rfl, by rw [hz.2]; exact ho⟩
      exact PySem.W.kia_one (kit_exc c) I.kIn J e (fun z => nomatch z) fun tk => ⟨.bl b, H, I.kept (t' := tk) fun _ _ z => z, rfl, q⟩
end WG

set_option Elab.async false
set_option linter.all false
set_option maxRecDepth 100000
set_option maxHeartbeats 4000000
namespace WG
open PySem PySem.Spec PyProof.Rows L2 L2H
/-! ### a def that is called within an except suite and gets the caught error -/
/-- the promise: Z tells of the error's object, sp of the error's address -/
structure FnP (P : Program) (w : World) (K : PySem.W.Frag) (mg : Str → Option Value) (base : Heap) (k : Nat) (f : Addr) (fd : FuncData) (ps : List Str) (Z : Obj → Prop) (sp : Addr → Sp) : Prop where
  len : ∀ a vs H Q E, sp a vs H Q E → vs.length = ps.length
  run : ∀ (A : Around) (outer : List Env) (s : Shared) (H : Hp) (args : Args) (us : List Value) (vs : List V) (Q : VK) (E : XK) (p : Addr × Obj), RoomH k A → Z p.2 → PinOk outer H s p → Env0 P w K mg base A outer s H →
    BindsTo s fd args (ps.zip us) → Vals vs us → sp p.1 vs H Q E → codeAny (model P w) A (.call (.ref f) args) (CR CX0 outer P w H s Q E) s
theorem fnP_of {P : Program} {w : World} {K : PySem.W.Frag} {mg : Str → Option Value} {base : Heap} {k : Nat} {f : Addr} {fd : FuncData} {x qual : Str} {st : Stmt} {N ps : List Str} {Z : Obj → Prop} {sp : Addr → Sp}
    (F : Fun K x qual st f fd) (S : FnScope N ps (defScope st)) (len : ∀ a vs H Q E, sp a vs H Q E → vs.length = ps.length)
    (body : ∀ (cdv : Value) (A : Around) (outer : List Env) (s : Shared) (H : Hp) (vs : List V) (Q : VK) (E : XK) (p : Addr × Obj), Z p.2 → RoomH k (A.deeper (envOfC qual (defScope st) s.heap.objs.size f cdv)) → sp p.1 vs H Q E →
      ∃ t, PSs (cxH CX0 P w K mg base N qual (defScope st) f cdv A outer s H E p) (defBody st) t ∧ t { nx := fun _ H' => Q .non H', rt := Q } (L2.start N vs) H) :
    FnP P w K mg base (k + 1) f fd ps Z sp := by
  obtain ⟨oc, od, kV, doc, pm, an, cdv, ct, osl, rfl, look, code⟩ := F.ex
  refine ⟨len, fun A outer s H args us vs Q E p room hz pin env bnd rels want => ?_⟩
  have hlen := len _ _ _ _ _ want
  have kin : K.In s.heap := env.mod.kin.keeps fun b o q => (env.bs b o q).1
  have nolim : s.heap.NoLimit := env.mod.nolimit.keeps fun b o q => (env.bs b o q).1
  have kinds : ∀ y ∈ ps.zip us, (defScope st).names.lookup y.1 = some .local ∨ ((defScope st).names.lookup y.1 = some .cell ∧ ((cellsFrom (s.heap.objs.size + 1) (defScope st).names []).lookup y.1).isSome = true) := by
    intro y hy
    obtain ⟨n, v⟩ := y
    cases S.par n (List.of_mem_zip hy).1 with
    | inl z => exact .inl z
    | inr z => exact .inr ⟨z, PySem.W.cellsFrom_some _ _ _ (.inl z)⟩
  refine codeAny_call_function room.depth (kin _ _ look) rfl S.co S.gen rfl (PySem.W.codeRec_of kin code) (bnd _ _ _ _ ?_)
  refine wpAny_newFunctionEnv_cells S.kind kinds fun e2 he2 s1 hx => ?_
  subst he2
  refine ⟨nolim.keeps hx.toInCall.keep, codeAny_func ?_⟩
  obtain ⟨t, tb, tq⟩ := body cdv A outer s H vs Q E p hz (room.deeper _) want
  have I : Inv (cxH CX0 P w K mg base N qual (defScope st) f cdv A outer s H E p) [] (L2.start N vs) H s1 := inv_startH S pin env hlen rels hx
  refine wpAny_mono (tb.run [] s1 (L2.start N vs) H _ I tq) (fun fl s' hs => ?_) fun e s' hs => hs
  cases fl with
  | ret u =>
    obtain ⟨v, _, H', J, rv, q⟩ := hs
    exact ⟨v, H', J.os, J.bare, J.base, J.hok, rv, q⟩
  | next =>
    obtain ⟨_, H', J, q⟩ := hs
    exact ⟨V.non, H', J.os, J.bare, J.base, J.hok, rfl, q⟩
  | brk =>
    obtain ⟨_, _, _, q⟩ := hs
    exact False.elim q
  | cont =>
    obtain ⟨_, _, _, q⟩ := hs
    exact False.elim q
def tCallP (a : Addr) (sp : Addr → Sp) (t : TA) : TE := fun σ H Q => t σ H fun vs H1 => sp a vs H1 Q (fun _ _ _ => False)
theorem pe_callP {X : Cx} {a : Addr} {oe : Obj} {pn : List (Addr × Obj)} {k : Nat} {f : Addr} {fd : FuncData} {ps : List Str} {Z : Obj → Prop} {sp : Addr → Sp} {x : Str} {q pos : Pos} {e : Expr} {es : List Expr} {t : TA}
    (F : FnP (X.suite a ((a, oe) :: pn)).prog (X.suite a ((a, oe) :: pn)).w (X.suite a ((a, oe) :: pn)).K (X.suite a ((a, oe) :: pn)).mg (X.suite a ((a, oe) :: pn)).base k f fd ps Z sp) (room : RoomH k (X.suite a ((a, oe) :: pn)).A) (hz : Z oe) (glob : Gl (X.suite a ((a, oe) :: pn)) x) (hm : (X.suite a ((a, oe) :: pn)).mg x = some (.ref f))
    (kp : PySem.W.keepIn (X.suite a ((a, oe) :: pn)).K (.ref f) = true) (bnd : Binds (X.suite a ((a, oe) :: pn)).K fd ps []) (args : PA (X.suite a ((a, oe) :: pn)) (e :: es) t) (n1 : (x == ("__debug__" : Str)) = false := by decide)
    (s1 : starEach (e :: es) (X.suite a ((a, oe) :: pn)).env = (false, eval e (X.suite a ((a, oe) :: pn)).env) :: starEach es (X.suite a ((a, oe) :: pn)).env := by rfl) (s2 : (backTo pos (starEach es (X.suite a ((a, oe) :: pn)).env)).any (·.1) = false := by rfl) :
    PE (X.suite a ((a, oe) :: pn)) (.Call (.Name x q) (e :: es) [] pos) (tCallP a sp t) := by
  constructor
  intro pins s σ H want I ask
  refine wpAny_Call_Name_kw (ld_glob I glob hm ?_ n1)
  refine PySem.W.callWith_K (h₀ := (X.suite a ((a, oe) :: pn)).base) I.ok.mod.kin kp (thn (args.run pos pins s σ H _ I ask) fun us st ⟨vs, H1, I1, rels, q1⟩ => ⟨I1.kIn, ?_⟩) s1 s2
  have hl : us.length = ps.length := by
    rw [← rels.length]
    exact F.len _ _ _ _ _ q1
  have b := bnd st us I1.kIn (by rw [List.append_nil]; exact hl)
  rw [List.append_nil] at b
  have P1 := I1.pin (a, oe) (List.mem_append.mpr (.inl List.mem_cons_self))
  have pin : PinOk (X.suite a ((a, oe) :: pn)).stack H1 st (a, oe) := ⟨P1.1, P1.2.1, fun m => (List.mem_cons.mp (I1.stkSub a m)).elim P1.2.2.1 P1.2.2.2.1, P1.2.2.2.2⟩
  refine wpAny_call (codeAny_mono (F.run (X.suite a ((a, oe) :: pn)).A (X.suite a ((a, oe) :: pn)).stack st H1 ⟨us, []⟩ us vs want (fun _ _ _ => False) (a, oe) room hz pin I1.env0 b rels q1) fun rr s' hq => ?_)
  cases rr with
  | error er => exact hq.elim
  | ok fl =>
    cases fl with
    | ret u => exact I1.after hq
    | next => exact hq.elim
    | brk => exact hq.elim
    | cont => exact hq.elim
/-! ### isinstance(e, (C1, ..)) in such a def -/
/-- the error's object: its class D, its own dict at d -/
def ZIs (D : Addr) (d : Option Addr) : Obj → Prop := fun o => Zc (.ref D) d o ∧ ∃ vs, o.data = .fields vs
def rIsP (K : PySem.W.Frag) (D : Addr) (d : Option Addr) (a : Addr) : List V → Hp → VK → Prop := fun xs H Q => ∃ (tp : Addr) (cs : List V) (ws : List Value) (b : Bool), xs = [.ref a, .ref tp] ∧ H tp = some (.tup cs) ∧ Paired ClsV cs ws ∧ ExcC K D ∧
  (match d with | some dd => ∃ fs, H dd = some (.xd fs) | none => True) ∧ PySem.W.kitAny K (.ref D) ws = some b ∧ Q (.bl b) H
theorem call_isP {CX : CXT} {P : Program} {w : World} {K : PySem.W.Frag} {mg : Str → Option Value} {base : Heap} {N : List Str} {qual : Str} {scope : Scope} {f : Addr} {cd : Value} {A : Around} {outer : List Env} {s0 : Shared} {H0 : Hp} {E : XK} {p : Addr × Obj} {D : Addr} {d : Option Addr} (hz : ZIs D d p.2) :
    CallR (cxH CX P w K mg base N qual scope f cd A outer s0 H0 E p) (.builtin "isinstance") (rIsP K D d p.1) := by
  intro pins s σ H xs us Q I rels ask
  obtain ⟨tp, cs, ws, b, rfl, ht, k, c, hd, e, q⟩ := ask
  obtain ⟨u1, u2, rfl, r1, r2⟩ := vals2 rels
  cases (show u1 = Value.ref p.1 from r1)
  cases (show u2 = Value.ref tp from r2)
  obtain ⟨⟨hc, hdd⟩, vs, hv⟩ := hz
  have P1 := I.pin p (List.mem_append.mpr (.inl (List.mem_cons_self)))
  obtain ⟨_, its, rv, o, h1, h2, n, h3⟩ := (show ObjOk _ _ H s.heap tp (.tup cs) from I.hok tp _ ht)
  have e3 := ClsV.all k rv
  subst e3
  obtain ⟨oc, od, dt, sl⟩ := o
  simp only at h2 h3
  subst h2 h3
  have J : ∃ od', PySem.W.InstAt s.heap p.1 p.2 D od' := by
    cases d with
    | none => exact ⟨none, P1.1, hc, by unfold PySem.W.notCls; rw [hv] <;> rfl, by rw [hdd]; trivial⟩
    | some dd =>
      obtain ⟨fs, hx⟩ := hd
      obtain ⟨mA, hns, _⟩ := I.hok dd _ hx
      obtain ⟨od, ho, _⟩ := lookIn_ns hns
      exact ⟨some od, P1.1, hc, by unfold PySem.W.notCls; rw [hv] <;> rfl, by rw [hdd]; exact ho⟩
  obtain ⟨od', J⟩ := J
  exact PySem.W.kia_tup (kit_exc c) I.kIn J h1 e (fun z => nomatch z) fun tk => ⟨.bl b, H, I.kept (t' := tk) fun _ _ z => z, rfl, q⟩
theorem kitAny_no {K : PySem.W.Frag} {t : Value} : ∀ {cs : List Value}, (∀ c ∈ cs, PySem.W.kitOne K t c = some false) → PySem.W.kitAny K t cs = some false
  | [], _ => rfl
  | c :: r, h => by
    unfold PySem.W.kitAny
    rw [h c List.mem_cons_self]
    exact kitAny_no fun d hd => h d (List.mem_cons_of_mem _ hd)
end WG

set_option Elab.async false
set_option linter.all false
set_option maxRecDepth 100000
set_option maxHeartbeats 4000000
namespace WB
open PySem PySem.Spec PyProof.Rows L2 WG
open TL (tl)
theorem kit_subT {K : PySem.W.Frag} {a : Addr} {T : String} {b : Bool} (hm : PySem.W.kitMeta T = true) (h : PySem.W.subIn K (.ref a) (.type T) = some b) : PySem.W.kitOne K (.ref a) (.type T) = some b := by
  unfold PySem.W.kitOne
  rw [if_neg (by intro z; cases z)]
  unfold PySem.W.kitCls
  dsimp only
  rw [if_pos hm]
  exact h
theorem kit_subR {K : PySem.W.Frag} {a c : Addr} {b : Bool} (h1 : PySem.W.hasDictIn K c = true) (h2 : PySem.W.typeIn K (.ref c) = some (.type "type")) (h3 : PySem.W.subIn K (.ref a) (.ref c) = some b) (h4 : PySem.W.subIn K (.ref a) (.ref a) = some true) : PySem.W.kitOne K (.ref a) (.ref c) = some b := by
  obtain ⟨cd, hc, _⟩ := PySem.W.any_some h1
  unfold PySem.W.kitOne
  split
  · rename_i e
    have e2 : a = c := Value.ref.inj (beq_iff_eq.mp e)
    subst e2
    rw [h4] at h3
    exact h3
  · unfold PySem.W.kitCls
    dsimp only
    have e : ((PySem.W.clsIn K c).isSome && PySem.W.typeIn K (.ref c) == some (.type "type")) = true := by rw [hc, h2] <;> rfl
    rw [if_pos e]
    exact h3

abbrev st_NoName_init : Stmt := inClass (topS 7) 0
theorem sc_NoName_init : FnScope ["self", "who"] ["self", "who"] (defScope st_NoName_init) := ⟨rfl, rfl, rfl, by decide +kernel, rfl, by decide +kernel, by decide +kernel⟩
abbrev st_least_beginning : Stmt := topS 14
theorem sc_least_beginning : FnScope ["names", "name", "many"] ["names", "name"] (defScope st_least_beginning) := ⟨rfl, rfl, rfl, by decide +kernel, rfl, by decide +kernel, by decide +kernel⟩
abbrev st_is_other : Stmt := topS 23
theorem sc_is_other : FnScope ["_law_e"] ["_law_e"] (defScope st_is_other) := ⟨rfl, rfl, rfl, by decide +kernel, rfl, by decide +kernel, by decide +kernel⟩
abbrev st_refused : Stmt := topS 24
theorem sc_refused : FnScope ["_law_names_here", "_law_thing", "_law_kinds", "_law_e"] ["_law_names_here", "_law_thing"] (defScope st_refused) := ⟨rfl, rfl, rfl, by decide +kernel, rfl, by decide +kernel, by decide +kernel⟩
abbrev st_who : Stmt := topS 25
theorem sc_who : FnScope ["_law_names_here", "_law_thing", "_law_who_here", "_law_e"] ["_law_names_here", "_law_thing"] (defScope st_who) := ⟨rfl, rfl, rfl, by decide +kernel, rfl, by decide +kernel, by decide +kernel⟩
abbrev st_err := st_NoName_init
abbrev sc_err := sc_NoName_init
/-- NoName, as the written part tells it -/
structure ErrT (K : PySem.W.Frag) (mg : Str → Option Value) (x : Str) (C fI : Addr) (fd : FuncData) : Prop where
  o : OexC K C
  i : PySem.W.findIn K (.ref C) "__init__" = some (some (.ref fI))
  t : PySem.W.typeIn K (.ref fI) = some (.type "function")
  nf : PySem.W.findIn K (.ref C) "who" = some none
  g : mg x = some (.ref C)
  b : Binds K fd ["self", "who"] []
section
variable {P : Program} {w : World} {K : PySem.W.Frag} {mg : Str → Option Value} {base : Heap}
theorem Means.ok {ys : List Str} {b : Str} {out : List Str} (h : Means ys b out) (hy : NmsOk ys) (tb : Tq B8 14 b) : ∀ y ∈ out, PyData.strOk y = true := by
  intro y hm
  unfold Means at h
  split at h
  · rw [h] at hm
    cases hm
  · split at h
    · rw [h] at hm
      rw [List.mem_singleton.mp hm]
      exact strOk_of tb.pl
    · exact hy.ok y (List.mem_filter.mp (h.1.mem_iff.mp hm)).1
theorem Means.len {ys : List Str} {b : Str} {out : List Str} (h : Means ys b out) (hy : NmsOk ys) : out.length ≤ 24 := by
  unfold Means at h
  split at h
  · rw [h]
    exact Nat.zero_le _
  · split at h
    · rw [h]
      exact (by decide : 1 ≤ 24)
    · rw [h.1.length_eq]
      exact Nat.le_trans (List.length_filter_le _ _) hy.1

def spErr (C : Addr) : Sp := fun vs H Q _ => ∃ (a : Addr) (y : V), vs = [.ref a, y] ∧ H a = some (exo a C none) ∧ ∀ dx, H dx = none → dx ≠ a → Q .non (upd (upd H dx (exd dx [(("who" : Str), y)])) a (exo a C (some dx)))
theorem ok_err {C f : Addr} {fd : FuncData} {x : Str} {k : Nat} (F : Fun K "__init__" "NoName.__init__" st_err f fd) (T : ErrT K mg x C f fd) : FnOk P w K mg base CX0 (k + 1) f fd ["self", "who"] (spErr C) := by
  refine F.ok sc_err (fun vs H Q E h => ?_) (fun cdv A outer s H vs Q E hr h => ?_)
  · obtain ⟨a, y, rfl, _⟩ := h
    rfl
  · obtain ⟨a, y, rfl, ea, q⟩ := h
    refine ⟨_, pss_one (ps_ost (pv 0) (pv 1)), ?_⟩
    exact ⟨y, rfl, .ref a, rfl, a, C, rfl, T.o, T.nf, .inl ⟨ea, fun dx n ne => q dx n ne⟩⟩
/-- the way out by a raised error -/
theorem err_out {C : Addr} {y : V} {H : Hp} {E : XK} (h : ∀ H' d, Same H H' → H d = none → H' d = some (.xd [(("who" : Str), y)]) → E (.ref C) (some d) H') (a : Addr) (na : H a = none) :
    spErr C [.ref a, y] (upd H a (exo a C none)) (fun v H2 => v = .non ∧ ∃ (d : Addr) (fs : List (Str × V)), H2 a = some (exo a C (some d)) ∧ H2 d = some (exd d fs) ∧ H d = none ∧ E (.ref C) (some d) (upd (del H2 a) d (.xd fs))) (fun _ _ _ => False) := by
  refine ⟨a, y, rfl, upd_same, fun dx ndx ne => ⟨rfl, dx, [(("who" : Str), y)], upd_same, ?_, ?_, ?_⟩⟩
  · rw [upd_ne ne, upd_same]
  · rw [upd_ne ne] at ndx
    exact ndx
  · rw [upd_ne ne] at ndx
    refine h _ dx (fun b o e => ?_) ndx upd_same
    have nb : b ≠ dx := ne_of_none e ndx
    have nba : b ≠ a := ne_of_none e na
    rw [upd_ne nb, del_ne nba, upd_ne nba, upd_ne nb, upd_ne nba]
    exact e
theorem who_look {v : V} : List.lookup ("who" : Str) [(("who" : Str), v)] = some v := by simp [List.lookup]
/-! ### least_beginning -/
def headS (n : Str) (m : Nat) : Str := cutS n none (some (m : Int))
theorem tl_head (n : Str) (m : Nat) : tl (headS n m) = (tl n).take m := tl_cut_to n m
/-- y is the least beginning of n -/
def LeastOf (ys : List Str) (n y : Str) : Prop := ∃ m : Nat, 1 ≤ m ∧ m ≤ n.length ∧ y = headS n m ∧ Means ys y [n] ∧ ∀ j, 1 ≤ j → j < m → ¬ Means ys (headS n j) [n]
def spLeast (CN : Addr) : Sp := fun vs H Q E => ∃ (l : Addr) (ys : List Str) (n : Str), vs = [.ref l, .str n] ∧ H l = some (.lst (ys.map V.str)) ∧ NmsOk ys ∧ Tq B8 30 n ∧ (n ∈ ys → ∀ H' y, Same H H' → LeastOf ys n y → Q (.str y) H') ∧
  (n ∉ ys → ∀ H' d, Same H H' → H d = none → H' d = some (.xd [(("who" : Str), .str n)]) → E (.ref CN) (some d) H')
theorem head_full (n : Str) : headS n n.length = n := str_ext (by rw [tl_head, TL.len_tl, List.take_length])
theorem means_self {ys : List Str} {n : Str} (h : n ∈ ys) (hp : 0 < n.length) : Means ys n [n] := by
  unfold Means
  rw [if_neg (fun e => by rw [e] at hp; revert hp; decide +kernel), if_pos h]
theorem ok_least {CN f fE fM : Addr} {fd fdE fdM : FuncData} {k : Nat} (F : Fun K "least_beginning" "least_beginning" st_least_beginning f fd) (FE : Fun K "__init__" "NoName.__init__" st_err fE fdE) (TE : ErrT K mg "NoName" CN fE fdE) (D_meant : Df K mg "meant" st_meant ["names", "beginning"] fM fdM)
    (m_len : mg "len" = none) (m_range : mg "range" = none) (m_sorted : mg "sorted" = none) : FnOk P w K mg base (L2.CX P w) (k + 3) f fd ["names", "name"] (spLeast CN) := by
  have GE : FnOk P w K mg base CX0 (k + 1) fE fdE ["self", "who"] (spErr CN) := ok_err FE TE
  have G_meant : FnOk P w K mg base CX0 (k + 2) fM fdM ["names", "beginning"] spLMeant := ok_meant D_meant.F m_sorted
  refine F.okX sc_least_beginning (fun vs H Q E h => ?_) (fun cdv A outer s H vs Q E hr h => ?_)
  · obtain ⟨l, ys, n, rfl, _⟩ := h
    rfl
  · obtain ⟨l, ys, n, rfl, el, ok, tn, q, qx⟩ := h
    refine ⟨_, pss_cons (ps_if (pt_cmpR op_notIn_seq (pv 1) (pv 0) (by rfl)) (pss_one (ps_raise rfl (takes_of rfl rfl rfl rfl) (pmk_oex TE.o TE.i TE.t GE hr TE.b .nil pass0 (by rfl) TE.g (pa_cons (pv 1) pa_nil)))) pss_nil)
      (PSs.nox (pss_cons (ps_for PassesOwn.never rfl (pi_range2 rfl m_range (pa_cons pe_int (pa_cons (pe_callB call_len_str (by rfl) m_len PySem.boot_len (pa_cons (pv 1) pa_nil)) pa_nil))) (pg_name (i := 2) sc_least_beginning.nd rfl (Or.inl rfl)) (pss_one (ps_if (pt_cmpR (op_eqD hr.units) (pe_call G_meant hr (by rfl) D_meant.g D_meant.F.kp D_meant.b .nil pass0 (pa_cons (pv 0) (pa_cons (pe_slice sl_str (pv 1) po_none (po_some (pv 2))) pa_nil))) (pe_lst (pa_cons (pv 1) pa_nil)) (nomark _)) (pss_one (ps_ret (pe_slice sl_str (pv 1) po_none (po_some (pv 2))))) pss_nil)))
      (pss_one (ps_ret (pv 1))))), ?_⟩
    have hn := tn.le
    have hnl : n.length ≤ sizeLine := Nat.le_trans hn (by decide)
    refine ⟨_, rfl, .ref l, rfl, l, _, rfl, .inl (SqL.of el), rfl, strs_flat _, _, rfl, ite2 (fun e => ?_) (fun e => ?_)⟩
    · have hm : n ∉ ys := fun h => by
        have e' : (!inV (.str n) (ys.map V.str)) = true := e
        rw [inV_strs, decide_eq_true h] at e'
        cases e'
      exact ⟨_, rfl, by show 1 ≤ 1000; decide, fun a na => err_out (fun H' d sm nd ed => qx hm H' d sm nd ed) a na⟩
    have hm : n ∈ ys := by
      by_cases h : n ∈ ys
      · exact h
      · refine absurd ?_ e
        show (!inV (.str n) (ys.map V.str)) = true
        rw [inV_strs, decide_eq_false h]
        rfl
    obtain ⟨hn0, tn13⟩ := ok.2.1 n hm
    have q := q hm
    refine ⟨.str n, rfl, n, rfl, hnl, 1, (n.length : Int), rfl, ⟨by decide, by decide, by omega, by omega⟩, for_range (lo := 1) (n := ((n.length : Int) - 1).toNat) (fun i σ H' => Same H H' ∧ (∀ j, 1 ≤ j → j < 1 + i → ¬ Means ys (headS n j) [n]) ∧ i + 1 ≤ n.length ∧ ∃ x2, σ = [some (.ref l), some (.str n), x2])
      ⟨Same.refl _, (fun j h1 h2 => absurd h2 (by omega)), by omega, none, rfl⟩ ?_ ?_⟩
    · rintro i σ H0 hi ⟨sm, hno, hil, x2, rfl⟩
      have ehd : cutS n none (some (1 + (i : Int))) = headS n (1 + i) := by
        unfold headS
        congr 1
      have th : Tq B8 14 (headS n (1 + i)) := ((tn13.cut none (some ((1 + i : Nat) : Int))).mono (by decide) (fun _ h => h))
      refine ⟨.ref l, rfl, _, rfl, _, rfl, 1 + (i : Int), rfl, n, rfl, hnl, ?_⟩
      rw [ehd]
      refine ⟨l, ys, headS n (1 + i), rfl, sm _ _ el, ok, th, fun H1 o out s1 no eo hout => ?_⟩
      refine ⟨_, rfl, by show 1 ≤ sizeLine; decide, fun p np => ?_⟩
      have eo1 : (upd H1 p (.lst ([n].map V.str))) o = some (.lst (out.map V.str)) := by
        rw [upd_ne (ne_of_none eo np)]
        exact eo
      have S1 : Same H (upd H1 p (.lst ([n].map V.str))) := (sm.trans s1).trans (same_upd np)
      refine ⟨_, _, .lst (SqL.of eo1) (dp_strs _), .lst (SqL.of upd_same) (dp_strs [n]), shaped_strs _ (hout.ok ok th), shaped_strs [n] (fun y hy => by rw [List.mem_singleton.mp hy]; exact strOk_of tn.pl), _, rfl, ?_⟩
      rw [eqv_strs]
      by_cases ho : out = [n]
      · rw [decide_eq_true ho]
        subst ho
        refine ⟨_, rfl, _, rfl, 1 + (i : Int), rfl, n, rfl, hnl, ?_⟩
        rw [ehd]
        exact q _ _ S1 ⟨1 + i, by omega, by omega, rfl, hout, hno⟩
      · rw [decide_eq_false ho]
        refine ⟨S1, fun j h1 h2 => ?_, by omega, _, rfl⟩
        by_cases hj : j < 1 + i
        · exact hno j h1 hj
        · have : j = 1 + i := by omega
          subst this
          exact fun h => ho (hout.one h)
    · rintro σ H0 ⟨sm, hno, hil, x2, rfl⟩
      refine ⟨_, rfl, q _ _ sm ⟨n.length, by omega, Nat.le_refl _, (head_full n).symm, means_self hm hn0, fun j h1 h2 => hno j h1 (by omega)⟩⟩
end
end WB

set_option Elab.async false
set_option linter.all false
set_option maxRecDepth 100000
set_option maxHeartbeats 4000000
namespace WB
open PySem PySem.Spec PyProof.Rows L2 WG L2H
open TL (tl)
/-! ### the caught error looked at -/
/-- the classes of the tuple in _law_is_other -/
structure Others (K : PySem.W.Frag) (mg : Str → Option Value) (D : Addr) (C1 C2 C3 C4 C5 C6 C7 C8 C9 : Addr) : Prop where
  g1 : mg "BadDefault" = some (.ref C1)
  g2 : mg "Clash" = some (.ref C2)
  g3 : mg "Fault" = some (.ref C3)
  g4 : mg "NoCommand" = some (.ref C4)
  g5 : mg "NoMaker" = some (.ref C5)
  g6 : mg "NoOption" = some (.ref C6)
  g7 : mg "NoPlace" = some (.ref C7)
  g8 : mg "NoRow" = some (.ref C8)
  g9 : mg "Unmade" = some (.ref C9)
  no : ∀ c ∈ [Value.ref C1, .ref C2, .ref C3, .ref C4, .ref C5, .ref C6, .ref C7, .ref C8, .ref C9], PySem.W.kitOne K (.ref D) c = some false
section
variable {P : Program} {w : World} {K : PySem.W.Frag} {mg : Str → Option Value} {base : Heap}
def ZC (cls : Value) (d : Option Addr) : Obj → Prop := fun o => Zc cls d o ∧ ∃ vs, o.data = .fields vs
def spOther (D : Addr) (cls : Value) (d : Option Addr) : Addr → Sp := fun a vs H Q _ => ∃ (dd : Addr) (fs : List (Str × V)), vs = [.ref a] ∧ cls = .ref D ∧ d = some dd ∧ H dd = some (.xd fs) ∧ ∀ H', Same H H' → Q (.bl false) H'
theorem ok_other {D f : Addr} {fd : FuncData} {k : Nat} {C1 C2 C3 C4 C5 C6 C7 C8 C9 : Addr} (F : Fun K "_law_is_other" "_law_is_other" st_is_other f fd) (O : Others K mg D C1 C2 C3 C4 C5 C6 C7 C8 C9) (TC : ExcC K D) (m_isinstance : mg "isinstance" = none) (cls : Value) (d : Option Addr) :
    FnP P w K mg base (k + 1) f fd ["_law_e"] (ZC cls d) (spOther D cls d) := by
  refine fnP_of F sc_is_other (fun a vs H Q E h => ?_) (fun cdv A outer s H vs Q E p hz hr h => ?_)
  · obtain ⟨dd, fs, rfl, _⟩ := h
    rfl
  · obtain ⟨dd, fs, rfl, rfl, rfl, hd, q⟩ := h
    have hz2 : ZIs D (some dd) p.2 := hz
    refine ⟨_, pss_one (ps_ret (pe_callB (call_isP hz2) (by rfl) m_isinstance (by decide +kernel) (pa_cons (pv 0) (pa_cons (pe_tup (pa_cons (pe_glob (v := .ref C1) rfl O.g1 rfl) (pa_cons (pe_glob (v := .ref C2) rfl O.g2 rfl) (pa_cons (pe_glob (v := .ref C3) rfl O.g3 rfl) (pa_cons (pe_glob (v := .ref C4) rfl O.g4 rfl) (pa_cons (pe_glob (v := .ref C5) rfl O.g5 rfl) (pa_cons (pe_glob (v := .ref C6) rfl O.g6 rfl) (pa_cons (pe_glob (v := .ref C7) rfl O.g7 rfl) (pa_cons (pe_glob (v := .ref C8) rfl O.g8 rfl) (pa_cons (pe_glob (v := .ref C9) rfl O.g9 rfl) pa_nil)))))))))) pa_nil)))), ?_⟩
    refine ⟨_, rfl, by show 9 ≤ sizeLine; decide, fun tp nt => ?_⟩
    have hd2 : (upd H tp (.tup [.ref C1, .ref C2, .ref C3, .ref C4, .ref C5, .ref C6, .ref C7, .ref C8, .ref C9])) dd = some (.xd fs) := by
      rw [upd_ne (ne_of_none hd nt)]
      exact hd
    exact ⟨tp, _, _, false, rfl, upd_same, .cons (.own _) (.cons (.own _) (.cons (.own _) (.cons (.own _) (.cons (.own _) (.cons (.own _) (.cons (.own _) (.cons (.own _) (.cons (.own _) .nil)))))))), TC, ⟨fs, hd2⟩, kitAny_no O.no, q _ (same_upd nt)⟩
/-- what may be asked of a caught NoName -/
structure CaughtT (K : PySem.W.Frag) (CN BE : Addr) : Prop where
  x : XfC K CN
  c : ExcC K CN
  e : PySem.W.exmOne K (.ref CN) (.ref CN) = some true
  eb : PySem.W.exmOne K (.ref CN) (.ref BE) = some true
  v : PySem.W.kitOne K (.ref CN) (.type "ValueError") = some true
  n : PySem.W.kitOne K (.ref CN) (.ref CN) = some true
def tbLeast (CN : Addr) (W : WX) : TS := tDrop (tCallS (spLeast CN) (WE W) (tCons (tVar 0) (tCons (tVar 1) tNil)))
def tsKinds (K : PySem.W.Frag) (CN : Addr) : Addr → Value → Option Addr → TS := fun a cls d =>
  tSeq (tAsg (tLst (tCons (tCB (rIsD K a cls d) (tCons (tVar 3) (tCons (tC (.ref CN)) tNil))) (tCons (tCB (rIsD K a cls d) (tCons (tVar 3) (tCons (tC (.ty "ValueError")) tNil))) tNil))) (gName 2))
    (tDrop (tBM K "list" rAppend (tVar 2) (tCons (tCallP a (spOther CN cls d) (tCons (tVar 3) tNil)) tNil)))
def tsWho (CN : Addr) : Addr → Value → Option Addr → TS := fun a cls d => tAsg (tXf a cls d CN "who" (tVar 3)) (gName 2)
def spRefused : Sp := fun vs H Q _ => ∃ (l : Addr) (ys : List Str) (n : Str), vs = [.ref l, .str n] ∧ H l = some (.lst (ys.map V.str)) ∧ NmsOk ys ∧ Tq B8 30 n ∧ n ∉ ys ∧ ∀ H', Same H H' → Q (.bl true) H'
theorem ok_refused {CN BE f fL fO fE : Addr} {fd fdL fdO fdE : FuncData} {k : Nat} (F : Fun K "_law_refused" "_law_refused" st_refused f fd) (D_least_beginning : Df K mg "least_beginning" st_least_beginning ["names", "name"] fL fdL) (G_least : FnOk P w K mg base (L2.CX P w) (k + 3) fL fdL ["names", "name"] (spLeast CN))
    (D_other : Df K mg "_law_is_other" st_is_other ["_law_e"] fO fdO) (G_other : ∀ cls d, FnP P w K mg base (k + 3) fO fdO ["_law_e"] (ZC cls d) (spOther CN cls d)) (CT : CaughtT K CN BE) (gN : mg "NoName" = some (.ref CN)) (gB : mg "BenchError" = some (.ref BE)) (m_isinstance : mg "isinstance" = none) (m_ValueError : mg "ValueError" = none) :
    FnOk P w K mg base CX0 (k + 4) f fd ["_law_names_here", "_law_thing"] spRefused := by
  refine F.ok sc_refused (fun vs H Q E h => ?_) (fun cdv A outer s H vs Q E hr h => ?_)
  · obtain ⟨l, ys, n, rfl, _⟩ := h
    rfl
  · obtain ⟨l, ys, n, rfl, el, ok, tn, hno, q⟩ := h
    refine ⟨_, PSs.nox (pss_cons (ps_set (i := 2) sc_refused.nd rfl (.inl rfl) (pe_lst pa_nil))
      (pss_cons (ps_try_as (i := 3) (tb := tbLeast CN) (ts := tsKinds K CN) (Wout := fun _ _ _ _ => False) rfl rfl sc_refused.nd rfl rfl ⟨rfl, by decide, Or.inl gB⟩ takes0
          (fun W pn xe tk _ => pss_one (ps_expr (by exact (pe_callS G_least hr (by rfl) D_least_beginning.g D_least_beginning.F.kp D_least_beginning.b (fun σ => passAt tk σ) (by exact (pa_cons (pv 0) (pa_cons (pv 1) pa_nil)))))))
          (fun a oe cls d pn hz hf => pss_cons (ps_set (i := 2) sc_refused.nd rfl (Or.inl rfl) (by exact (pe_lst (pa_cons (pe_callB (call_isD hz hf) (by rfl) m_isinstance (by decide +kernel) (pa_cons (pv 3) (pa_cons (pe_glob (v := .ref CN) rfl gN rfl) pa_nil))) (pa_cons (pe_callB (call_isD hz hf) (by rfl) m_isinstance (by decide +kernel) (pa_cons (pv 3) (pa_cons (pe_bltn (v := .ty "ValueError") (by rfl) m_ValueError (by decide +kernel) rfl) pa_nil))) pa_nil)))))
            (pss_one (ps_expr (by exact (pe_bm PySem.F.plainAttrs_list PySem.F.slot_list_append PySem.F.type_list_append mt_append (pv 2) (pa_cons (pe_callP (G_other cls d) ⟨(roomH_of hr).dp, (roomH_of hr).un⟩ ⟨hz, hf⟩ (by rfl) D_other.g D_other.F.kp D_other.b (pa_cons (pv 3) pa_nil)) pa_nil)))))))
      (pss_one (ps_ret (pe_cmpR (op_eqD hr.units) (pv 2) (pe_lst (pa_cons pe_bl (pa_cons pe_bl (pa_cons pe_bl pa_nil)))) (nomark _)))))), ?_⟩
    refine ⟨Nat.zero_le _, fun l0 n0 => ?_⟩
    first | refine go n0 fun H1 s1 e1 => ?_ | refine goT n0 fun H1 s1 e1 => ?_
    refine ⟨_, rfl, _, rfl, l, ys, n, rfl, s1 _ _ el, ok, tn, fun hm => absurd hm hno, fun _ H2 d s2 nd ed => ⟨true, CT.eb, fun _ a0 na0 => ?_, fun r => Bool.noConfusion r⟩⟩
    refine ⟨.ref a0, rfl, CN, d, _, .ref CN, .ref CN, true, rfl, rfl, ed, CT.c, rfl, fun u hu => hu, CT.n, ?_⟩
    refine ⟨.ref a0, rfl, CN, d, _, .ty "ValueError", .type "ValueError", true, rfl, rfl, ed, CT.c, rfl, fun u hu => hu, CT.v, ?_⟩
    refine ⟨by show 2 ≤ sizeLine; decide, fun l1 n1 => ?_⟩
    have s3' : Same H2 (upd H2 l1 (.lst [.bl true, .bl true])) := same_upd n1
    have e3' : (upd H2 l1 (.lst [.bl true, .bl true])) l1 = some (.lst [.bl true, .bl true]) := upd_same
    refine ⟨.ref l1, rfl, .inl ⟨rfl, _, SqL.of e3'⟩, .ref a0, rfl, d, _, rfl, rfl, rfl, s3' _ _ ed, fun H4 s4 => ?_⟩
    refine ⟨l1, _, _, rfl, rfl, s4 _ _ e3', by show 2 < sizeLine; decide, ?_⟩
    refine goU fun H5 u5 e5 => ?_
    have S5 : Same H H5 := fun b o e => u5 b o (ne_of_none ((s1.trans s2) b o e) n1) (s4 _ _ (s3' _ _ ((s1.trans s2) b o e)))
    refine ⟨.ref l1, rfl, by show 3 ≤ sizeLine; decide, fun p np => ?_⟩
    have e6 : (upd H5 p (.lst [.bl true, .bl true, .bl false])) l1 = some (.lst [.bl true, .bl true, .bl false]) := by
      rw [upd_ne (ne_of_none e5 np)]
      exact e5
    refine ⟨_, _, .lst (SqL.of e6) (.cons (.bl _) (.cons (.bl _) (.cons (.bl _) .nil))), .lst (SqL.of upd_same) (.cons (.bl _) (.cons (.bl _) (.cons (.bl _) .nil))), by decide +kernel, by decide +kernel, ?_⟩
    rw [show PyData.eqv (.list [.bool true, .bool true, .bool false]) (.list [.bool true, .bool true, .bool false]) = true from by decide +kernel]
    exact q _ (S5.trans (same_upd np))
def spWho : Sp := fun vs H Q _ => ∃ (l : Addr) (ys : List Str) (n : Str), vs = [.ref l, .str n] ∧ H l = some (.lst (ys.map V.str)) ∧ NmsOk ys ∧ Tq B8 30 n ∧ n ∉ ys ∧ ∀ H', Same H H' → Q (.str n) H'
theorem ok_who {CN BE f fL fE : Addr} {fd fdL fdE : FuncData} {k : Nat} (F : Fun K "_law_who" "_law_who" st_who f fd) (D_least_beginning : Df K mg "least_beginning" st_least_beginning ["names", "name"] fL fdL) (G_least : FnOk P w K mg base (L2.CX P w) (k + 3) fL fdL ["names", "name"] (spLeast CN))
    (CT : CaughtT K CN BE) (TE : ErrT K mg "NoName" CN fE fdE) : FnOk P w K mg base CX0 (k + 4) f fd ["_law_names_here", "_law_thing"] spWho := by
  refine F.ok sc_who (fun vs H Q E h => ?_) (fun cdv A outer s H vs Q E hr h => ?_)
  · obtain ⟨l, ys, n, rfl, _⟩ := h
    rfl
  · obtain ⟨l, ys, n, rfl, el, ok, tn, hno, q⟩ := h
    refine ⟨_, PSs.nox (pss_cons (ps_set (i := 2) sc_who.nd rfl (.inl rfl) pe_non)
      (pss_cons (ps_try_as (i := 3) (tb := tbLeast CN) (ts := tsWho CN) (Wout := fun _ _ _ _ => False) rfl rfl sc_who.nd rfl rfl ⟨rfl, by decide, Or.inl TE.g⟩ takes0
          (fun W pn xe tk _ => pss_one (ps_expr (by exact (pe_callS G_least hr (by rfl) D_least_beginning.g D_least_beginning.F.kp D_least_beginning.b (fun σ => passAt tk σ) (by exact (pa_cons (pv 0) (pa_cons (pv 1) pa_nil)))))))
          (fun a oe cls d pn hz hf => pss_one (ps_set (i := 2) sc_who.nd rfl (Or.inl rfl) (by exact (pe_xf CT.x TE.nf hz hf (pv 3))))))
      (pss_one (ps_ret (pv 2))))), ?_⟩
    refine ⟨_, rfl, _, rfl, l, ys, n, rfl, el, ok, tn, fun hm => absurd hm hno, fun _ H2 d s2 nd ed => ⟨true, CT.e, fun _ a0 na0 => ?_, fun r => Bool.noConfusion r⟩⟩
    refine ⟨.ref a0, rfl, rfl, rfl, d, _, .str n, rfl, ed, who_look, ?_⟩
    exact ⟨_, rfl, q _ s2⟩
end
end WB

set_option Elab.async false
set_option linter.all false
set_option maxRecDepth 100000
set_option maxHeartbeats 4000000
namespace WB
open PySem PySem.Spec PyProof.Rows L2 WG
open TL (tl)
abbrev st_right : Stmt := topS 26
theorem sc_right : FnScope ["_law_names_here", "_law_name", "_law_handed", "_law_least", "_law_size"] ["_law_names_here", "_law_name"] (defScope st_right) := ⟨rfl, rfl, rfl, by decide +kernel, rfl, by decide +kernel, by decide +kernel⟩
abbrev st_law : Stmt := topS 27
theorem sc_law : FnScope ["_law_script", "_law_k", "_law_pot_here", "_law_names_here", "_law_name", "_law_thing"] ["_law_script"] (defScope st_law) := ⟨rfl, rfl, rfl, by decide +kernel, rfl, by decide +kernel, by decide +kernel⟩
section
variable {P : Program} {w : World} {K : PySem.W.Frag} {mg : Str → Option Value} {base : Heap}
theorem passF {X : Cx} : Passes (L2.CX X.prog X.w) X (fun _ _ _ => False) := by
  intro pins σ H s e s' I h
  obtain ⟨_, _, _, _, _, _, _, _, _, _, _, _, f⟩ := h
  exact False.elim f
theorem head_len {n : Str} {m : Nat} (h : m ≤ n.length) : (headS n m).length = m := by
  have e := congrArg List.length (tl_head n m)
  rw [← TL.len_tl, List.length_take, ← TL.len_tl] at e
  rw [e]
  exact Nat.min_eq_left h
def spRight : Sp := fun vs H Q _ => ∃ (l : Addr) (ys : List Str) (n : Str), vs = [.ref l, .str n] ∧ H l = some (.lst (ys.map V.str)) ∧ NmsOk ys ∧ n ∈ ys ∧ ∀ H', Same H H' → Q (.bl true) H'
theorem ok_right {CN f fL fW : Addr} {fd fdL fdW : FuncData} {k : Nat} (F : Fun K "_law_right" "_law_right" st_right f fd) (D_least_beginning : Df K mg "least_beginning" st_least_beginning ["names", "name"] fL fdL) (G_least : FnOk P w K mg base (L2.CX P w) (k + 3) fL fdL ["names", "name"] (spLeast CN))
    (D_w_meant : Df K mg "_law_meant" st_w_meant ["_law_names_here", "_law_beginning"] fW fdW) (m_len : mg "len" = none) (m_range : mg "range" = none) (m_sorted : mg "sorted" = none) (m_list : mg "list" = none) (m_str : mg "str" = none) (m_isinstance : mg "isinstance" = none) (m_any : mg "any" = none) :
    FnOk P w K mg base CX0 (k + 4) f fd ["_law_names_here", "_law_name"] spRight := by
  have G_meant : FnOk P w K mg base CX0 (k + 3) fW fdW ["_law_names_here", "_law_beginning"] spLMeant := ok_lmeant D_w_meant.F m_len m_sorted
  have G_w_meant := G_meant
  refine F.ok sc_right (fun vs H Q E h => ?_) (fun cdv A outer s H vs Q E hr h => ?_)
  · obtain ⟨l, ys, n, rfl, _⟩ := h
    rfl
  · obtain ⟨l, ys, n, rfl, el, ok, hm, q⟩ := h
    refine ⟨_, pss_cons (ps_set (i := 2) sc_right.nd rfl (.inl rfl) (pe_callTy call_list_of (by rfl) m_list (by decide +kernel) (pa_cons (pv 0) pa_nil)))
      (pss_cons (ps_set (i := 3) sc_right.nd rfl (.inl rfl) (pe_call G_least hr (by rfl) D_least_beginning.g D_least_beginning.F.kp D_least_beginning.b .nil passF (pa_cons (pv 2) (pa_cons (pv 1) pa_nil))))
      (pss_cons (ps_if (PW.pt (pw_or (pt_not (pt_val (pe_callB call_isi (by rfl) m_isinstance (by decide +kernel) (pa_cons (pv 3) (pa_cons (pe_bltn (v := .ty "str") (by rfl) m_str (by decide +kernel) rfl) pa_nil))))) (pw_or (pt_cmpR op_eq (pv 3) pe_str (nomark _)) (pw_or (pt_cmpR op_ne (pe_slice sl_str (pv 1) po_none (po_some (pe_callB call_len_str (by rfl) m_len PySem.boot_len (pa_cons (pv 3) pa_nil)))) (pv 3) (nomark _)) (pw_or1 (pt_cmpR (op_neD hr.units) (pv 2) (pv 0) (nomark _))))))) (pss_one (ps_ret pe_bl)) pss_nil)
      (pss_cons (ps_if (pt_cmpR (op_neD hr.units) (pe_call G_w_meant hr (by rfl) D_w_meant.g D_w_meant.F.kp D_w_meant.b .nil pass0 (pa_cons (pv 0) (pa_cons (pv 3) pa_nil))) (pe_lst (pa_cons (pv 1) pa_nil)) (nomark _)) (pss_one (ps_ret pe_bl)) pss_nil)
      (pss_one (ps_ret (pe_not (pe_callB (cr_any rfl) (by rfl) m_any (by decide +kernel) (pa_cons (pe_lc (own := [("_law_size", 4)]) (g := gName 4) (tt := tYes) rfl sc_right.nd (pi_range2 rfl m_range (pa_cons pe_int (pa_cons (pe_callB call_len_str (by rfl) m_len PySem.boot_len (pa_cons (pv 3) pa_nil)) pa_nil))) (blkOk_by (N := ["_law_names_here", "_law_name", "_law_handed", "_law_least", "_law_size"]) (sc := defScope st_right) (by decide +kernel)) (fun _ _ _ _ _ => (pg_name (i := 4) sc_right.nd rfl (Or.inl rfl))) (fun _ _ _ _ _ => pts_nil) (fun _ _ _ _ _ => (pe_cmpR (r := rEqD K) (op_eqD hr.units) (pe_call G_w_meant hr (by rfl) D_w_meant.g D_w_meant.F.kp D_w_meant.b .nil pass0 (pa_cons (pv 0) (pa_cons (pe_slice sl_str (pv 1) po_none (po_some (pv 4))) pa_nil))) (pe_lst (pa_cons (pv 1) pa_nil)) (nomark _)))) pa_nil)))))))), ?_⟩
    obtain ⟨hn0, tn⟩ := ok.2.1 n hm
    have hnl : n.length ≤ sizeLine := Nat.le_trans tn.le (by decide)
    have hn13 := tn.le
    have te : tl (Str.ofString "") = [] := by decide +kernel
    refine ⟨.ref l, rfl, l, _, rfl, .inl (SqL.of el), fun h1 n1 => ?_⟩
    first | refine go n1 fun H1 s1 e1 => ?_ | refine goT n1 fun H1 s1 e1 => ?_
    refine ⟨.ref h1, rfl, _, rfl, h1, ys, n, rfl, e1, ok, tn.mono (by decide) (fun _ h => h), fun _ H2 y s2 hL => ?_, fun hx => absurd hm hx⟩
    obtain ⟨m, hm1, hm2, rfl, hM, hno⟩ := hL
    have ly := head_len hm2
    have th : ∀ j, Tq B8 14 (headS n j) := fun j => (tn.cut none (some (j : Int))).mono (by decide) (fun _ h => h)
    have lyl : (headS n m).length ≤ sizeLine := Nat.le_trans (th m).le (by decide)
    have S2 := s1.trans s2
    refine ⟨_, rfl, _, _, _, _, true, rfl, ClsV.ty "str", TyX.base (TyOf.str _), kit_ty (by decide +kernel), _, rfl, ?_⟩
    refine ⟨_, rfl, rfl, _, rfl, ?_⟩
    rw [decide_eq_false (show ¬ V.str (headS n m) = V.str (Str.ofString "") from fun e => by
      have := congrArg tl (V.str.inj e)
      rw [te] at this
      have h2 := congrArg List.length this
      rw [← TL.len_tl, ly] at h2
      have : m = 0 := h2
      omega)]
    refine ⟨_, rfl, _, rfl, _, rfl, lyl, _, rfl, n, rfl, hnl, _, rfl, rfl, _, rfl, ?_⟩
    rw [ly]
    rw [show (!decide (V.str (cutS n none (some (m : Int))) = V.str (headS n m))) = false from by rw [decide_eq_true (show V.str (cutS n none (some (m : Int))) = V.str (headS n m) from rfl)]; rfl]
    refine ⟨_, rfl, _, rfl, _, _, .lst (SqL.of (s2 _ _ e1)) (dp_strs _), .lst (SqL.of (S2 _ _ el)) (dp_strs _), shaped_strs _ ok.ok, shaped_strs _ ok.ok, _, rfl, ?_⟩
    rw [eqv_strs, decide_eq_true rfl]
    refine ⟨_, rfl, _, rfl, l, ys, headS n m, rfl, S2 _ _ el, ok, th m, fun H3 o out s3 no eo hout => ?_⟩
    have eout : out = [n] := hout.one hM
    subst eout
    have okn : ∀ y ∈ [n], PyData.strOk y = true := fun y hy => by
      rw [List.mem_singleton.mp hy]
      exact strOk_of tn.pl
    refine ⟨_, rfl, by show 1 ≤ sizeLine; decide, fun p np => ?_⟩
    have eo1 : (upd H3 p (.lst ([n].map V.str))) o = some (.lst ([n].map V.str)) := by
      rw [upd_ne (ne_of_none eo np)]
      exact eo
    refine ⟨_, _, .lst (SqL.of eo1) (dp_strs [n]), .lst (SqL.of upd_same) (dp_strs [n]), shaped_strs _ okn, shaped_strs _ okn, _, rfl, ?_⟩
    rw [eqv_strs, decide_eq_true rfl]
    have S4 : Same H (upd H3 p (.lst [V.str n])) := (S2.trans s3).trans (same_upd np)
    revert S4
    generalize upd H3 p (.lst [V.str n]) = H4
    intro S4
    refine ⟨_, rfl, _, rfl, lyl, 1, _, rfl, ⟨by decide, by decide, by omega, by omega⟩, fun D nD => ?_⟩
    refine lc_range (lo := 1) (n := (((headS n m).length : Int) - 1).toNat) (fun i Hc => Same H4 Hc ∧ i + 1 ≤ m ∧ Hc D = some (.lst ((List.replicate i false).map V.bl))) ⟨same_upd nD, by omega, upd_same⟩ (fun i Hc hi ⟨sc, him, eD⟩ => ?_) (fun Hc ⟨sc, him, eD⟩ => ?_)
    · have him2 : i + 1 < m := by
        rw [ly] at hi
        omega
      have ehd : cutS n none (some (1 + (i : Int))) = headS n (1 + i) := by
        unfold headS
        congr 1
      refine ⟨rfl, _, rfl, _, rfl, _, rfl, 1 + (i : Int), rfl, n, rfl, hnl, ?_⟩
      rw [ehd]
      refine ⟨l, ys, headS n (1 + i), rfl, sc _ _ (S4 _ _ el), ok, th _, fun H5 o5 out s5 no5 eo5 hout5 => ?_⟩
      have hne : out ≠ [n] := fun e => hno (1 + i) (by omega) (by omega) (by rw [← e]; exact hout5)
      refine ⟨_, rfl, by show 1 ≤ sizeLine; decide, fun p6 np6 => ?_⟩
      have eo6 : (upd H5 p6 (.lst ([n].map V.str))) o5 = some (.lst (out.map V.str)) := by
        rw [upd_ne (ne_of_none eo5 np6)]
        exact eo5
      have eD6 : (upd H5 p6 (.lst ([n].map V.str))) D = some (.lst ((List.replicate i false).map V.bl)) := by
        rw [upd_ne (ne_of_none (s5 _ _ eD) np6)]
        exact s5 _ _ eD
      refine ⟨_, _, .lst (SqL.of eo6) (dp_strs _), .lst (SqL.of upd_same) (dp_strs [n]), shaped_strs _ (hout5.ok ok (th _)), shaped_strs _ okn, ?_⟩
      rw [eqv_strs, decide_eq_false hne]
      refine ⟨_, eD6, ?_, ?_, by omega, ?_⟩
      · rw [List.length_map, List.length_replicate]
        exact small1000 (by omega)
      · intro b o' e
        rw [upd_ne (ne_of_none e nD), upd_ne (ne_of_none (s5 _ _ (sc _ _ e)) np6)]
        exact s5 _ _ (sc _ _ e)
      · rw [upd_same, List.replicate_succ', List.map_append]
        rfl
    · refine ⟨D, _, rfl, SqL.of eD, _, rfl, ?_⟩
      rw [show (!(List.replicate (((headS n m).length : Int) - 1).toNat false).any id) = true from by simp]
      exact q _ (S4.trans sc)
def spLaw (K : PySem.W.Frag) : Sp := fun vs H Q _ => ∃ (a : Addr) (ns : List Int), vs = [.ref a] ∧ SqL K H a (ns.map V.int) ∧ ns.length ≤ 63 ∧ ∀ H', Q (.bl true) H'
theorem ok_law {f fC fP fD fS fT fN fR fF fWh : Addr} {fd fdC fdP fdD fdS fdT fdN fdR fdF fdWh : FuncData} {k : Nat} (F : Fun K "law" "law" st_law f fd)
    (D_cell : Df K mg "_law_cell" sCell ["_law_script", "_law_k"] fC fdC) (D_pot : Df K mg "_law_pot" sPot ["_law_script", "_law_k"] fP fdP) (D_draw : Df K mg "_law_draw" sDraw ["_law_pot_here", "_law_many"] fD fdD)
    (D_signs : Df K mg "_law_signs" sSigns [] fS fdS) (D_text : Df K mg "_law_text" sText ["_law_pot_here", "_law_most", "_law_signs_here"] fT fdT) (D_names : Df K mg "_law_names" st_names ["_law_pot_here", "_law_most"] fN fdN)
    (D_right : Df K mg "_law_right" st_right ["_law_names_here", "_law_name"] fR fdR) (G_right : FnOk P w K mg base CX0 (k + 3) fR fdR ["_law_names_here", "_law_name"] spRight)
    (D_refused : Df K mg "_law_refused" st_refused ["_law_names_here", "_law_thing"] fF fdF) (G_refused : FnOk P w K mg base CX0 (k + 3) fF fdF ["_law_names_here", "_law_thing"] spRefused)
    (D_who : Df K mg "_law_who" st_who ["_law_names_here", "_law_thing"] fWh fdWh) (G_who : FnOk P w K mg base CX0 (k + 3) fWh fdWh ["_law_names_here", "_law_thing"] spWho)
    (m_len : mg "len" = none) (m_max : mg "max" = none) (m_min : mg "min" = none) (m_divmod : mg "divmod" = none) (m_range : mg "range" = none) (m_all : mg "all" = none) :
    FnOk P w K mg base CX0 (k + 4) f fd ["_law_script"] (spLaw K) := by
  have G_pot : FnOk P w K mg base CX0 (k + 3) fP fdP ["_law_script", "_law_k"] (spPot K) := ok_pot D_pot.F D_cell m_len m_max
  have G_draw : FnOk P w K mg base CX0 (k + 3) fD fdD ["_law_pot_here", "_law_many"] spDraw := ok_draw D_draw.F m_divmod
  have G_names : FnOk P w K mg base CX0 (k + 3) fN fdN ["_law_pot_here", "_law_most"] spNames := ok_names D_names.F D_draw D_signs D_text m_divmod m_len m_range
  refine F.ok sc_law (fun vs H Q E h => ?_) (fun cdv A outer s H vs Q E hr h => ?_)
  · obtain ⟨a, ns, rfl, _⟩ := h
    rfl
  · obtain ⟨a, ns, rfl, hS, hlen, q⟩ := h
    refine ⟨_, pss_cons (ps_for PassesOwn.never rfl (pi_range1 rfl m_range (pa_cons (pe_callB (call_max2 rfl) (by rfl) m_max (by decide +kernel) (pa_cons pe_int (pa_cons (pe_callB (call_min2 rfl) (by rfl) m_min (by decide +kernel) (pa_cons (pe_callB call_len_seq (by rfl) m_len PySem.boot_len (pa_cons (pv 0) pa_nil)) (pa_cons pe_int pa_nil))) pa_nil))) pa_nil)) (pg_name (i := 1) sc_law.nd rfl (Or.inl rfl)) (pss_cons (ps_set (i := 2) sc_law.nd rfl (.inl rfl) (pe_call G_pot hr (by rfl) D_pot.g D_pot.F.kp D_pot.b .nil pass0 (pa_cons (pv 0) (pa_cons (pv 1) pa_nil))))
      (pss_cons (ps_set (i := 3) sc_law.nd rfl (.inr rfl) (pe_call G_names hr (by rfl) D_names.g D_names.F.kp D_names.b .nil pass0 (pa_cons (pv 2) (pa_cons pe_int pa_nil))))
      (pss_cons (ps_if (pt_cmpR (op_eqD hr.units) (pv 3) (pe_lst pa_nil) (nomark _)) (pss_one (ps_set (i := 3) sc_law.nd rfl (.inr rfl) (pe_lst (pa_cons pe_str pa_nil)))) pss_nil)
      (pss_cons (ps_if (pt_not (pt_val (pe_callB (cr_all rfl) (by rfl) m_all (by decide +kernel) (pa_cons (pe_lc (own := [("_law_name", 4)]) (g := gName 4) (tt := tYes) rfl sc_law.nd (pi_list (pv 3)) (blkOk_by (N := ["_law_script", "_law_k", "_law_pot_here", "_law_names_here", "_law_name", "_law_thing"]) (sc := defScope st_law) (by decide +kernel)) (fun _ _ _ _ _ => (pg_name (i := 4) sc_law.nd rfl (Or.inl rfl))) (fun _ _ _ _ _ => pts_nil) (fun _ _ _ _ _ => (pe_call G_right hr (by rfl) D_right.g D_right.F.kp D_right.b .nil pass0 (pa_cons (pv 3) (pa_cons (pv 4) pa_nil))))) pa_nil)))) (pss_one (ps_ret pe_bl)) pss_nil)
      (pss_cons (ps_set (i := 4) sc_law.nd rfl (.inl rfl) (pe_ix ix_list (pv 3) (pe_call G_draw hr (by rfl) D_draw.g D_draw.F.kp D_draw.b .nil pass0 (pa_cons (pv 2) (pa_cons (pe_callB call_len_seq (by rfl) m_len PySem.boot_len (pa_cons (pv 3) pa_nil)) pa_nil))) (fun _ _ => rfl)))
      (pss_cons (ps_for PassesOwn.never rfl (pi_list (pe_lst (pa_cons (pe_op op_add_str (pv 4) (pe_op op_mul_str pe_str pe_int)) (pa_cons (pe_slice sl_str (pv 4) po_none (po_some (pe_call G_draw hr (by rfl) D_draw.g D_draw.F.kp D_draw.b .nil pass0 (pa_cons (pv 2) (pa_cons (pe_callB call_len_str (by rfl) m_len PySem.boot_len (pa_cons (pv 4) pa_nil)) pa_nil))))) (pa_cons (pe_op op_add_str (pv 4) pe_str) (pa_cons pe_str pa_nil)))))) (pg_name (i := 5) sc_law.nd rfl (Or.inl rfl)) (pss_cons (ps_if (pt_cmpR op_in_seq (pv 5) (pv 3) (by rfl)) (pss_one ps_continue) pss_nil)
      (pss_one (ps_if (PW.pt (pw_or (pt_not (pt_val (pe_call G_refused hr (by rfl) D_refused.g D_refused.F.kp D_refused.b .nil pass0 (pa_cons (pv 3) (pa_cons (pv 5) pa_nil))))) (pw_or1 (pt_cmpR op_ne (pe_call G_who hr (by rfl) D_who.g D_who.F.kp D_who.b .nil pass0 (pa_cons (pv 3) (pa_cons (pv 5) pa_nil))) (pv 5) (nomark _))))) (pss_one (ps_ret pe_bl)) pss_nil))))
      (pss_one (ps_if (pt_not (pt_val (pe_call G_right hr (by rfl) D_right.g D_right.F.kp D_right.b .nil pass0 (pa_cons (pv 3) (pa_cons (pv 4) pa_nil))))) (pss_one (ps_ret pe_bl)) pss_nil)))))))))
      (pss_one (ps_ret pe_bl)), ?_⟩
    have la : (Str.ofString "a").length = 1 := by decide +kernel
    have ta : Tq B8 1 (Str.ofString "a") := ⟨by rw [la]; exact Nat.le_refl 1, by decide +kernel⟩
    have lx : (Str.ofString "x").length = 1 := by decide +kernel
    have tx : ∀ c ∈ tl (Str.ofString "x"), c < 256 := by decide +kernel
    refine ⟨.ref a, rfl, a, _, rfl, .inl hS, _, 4, rfl, 1, _, rfl, _, rfl, ?_, ?_, for_range (lo := 0) (n := _) (fun i σ H' => Same H H' ∧ ∃ x1 x2 x3 x4 x5, σ = [some (.ref a), x1, x2, x3, x4, x5])
      ⟨Same.refl _, none, none, none, none, none, rfl⟩ ?_ ?_⟩
    · split <;> split <;> omega
    · split <;> split <;> omega
    · rintro i σ H0 hi ⟨sm, x1, x2, x3, x4, x5, rfl⟩
      refine ⟨.ref a, rfl, .int (0 + (i : Int)), rfl, a, ns, _, rfl, sm.seq hS, by omega, fun H1 p s1 np p1 => ?_⟩
      refine ⟨.ref p, rfl, p, 24, rfl, p1, by decide, by decide, fun H2 l ys b2 p2 nl nlp el hl hys hnd => ?_⟩
      have S2 : Same H0 H2 := fun b o e => b2 b o (ne_of_none e np) (s1 b o e)
      dsimp only [tSeq, tAsg, tC, gName]
      refine ts_gen (t := tIfS _ _ _) (fun σ' H' => Same H0 H' ∧ Pot H' p ∧ ∃ (l' : Addr) (zs : List Str), l' ≠ p ∧ H' l' = some (.lst (zs.map V.str)) ∧ NmsOk zs ∧ zs ≠ [] ∧ σ' = [some (.ref a), some (.int (0 + (i : Int))), some (.ref p), some (.ref l'), x4, x5]) (fun κ c => ?_) ?_
      · refine ⟨.ref l, rfl, Nat.zero_le _, fun a1 m1' => ?_⟩
        first | refine goT m1' fun H3 s3 e3 => ?_ | refine go m1' fun H3 s3 e3 => ?_
        refine ⟨_, _, .lst (SqL.of (s3 _ _ el)) (dp_strs _), .lst (SqL.of e3) .nil, shaped_strs _ (fun y hy => strOk_of (hys y hy).2.pl), by decide +kernel, _, rfl, ite2 (fun e => ?_) (fun e => ?_)⟩
        · refine ⟨by show 1 ≤ sizeLine; decide, fun l' nl' => ?_⟩
          have nlp' : l' ≠ p := ((p2.same s3).ne nl').symm
          refine c _ _ ⟨(S2.trans s3).trans (same_upd nl'), (p2.same s3).new nl', l', [Str.ofString "a"], nlp', upd_same, ⟨by decide, fun y hy => ?_, List.pairwise_singleton _ _⟩, (fun h => nomatch h), rfl⟩
          rw [List.mem_singleton.mp hy]
          exact ⟨by rw [la]; decide, ta.mono (by decide) (fun _ h => h)⟩
        · refine c _ _ ⟨S2.trans s3, p2.same s3, l, ys, nlp, s3 _ _ el, ⟨by omega, hys, hnd⟩, fun h => e (by rw [eqv_nil, h]; rfl), rfl⟩
      rintro σ3 H3 ⟨sm3, p3, l', zs, nlp', el', ok, hne, rfl⟩
      have hpos : 0 < zs.length := List.length_pos_iff.mpr hne
      refine ⟨.ref l', rfl, l', rfl, ⟨_, SqL.of el'⟩, fun D nD => ?_⟩
      refine lc_list (K := K) (a := l') (xs := zs.map V.str) (fun i Hc => Same H3 Hc ∧ Hc D = some (.lst ((List.replicate i true).map V.bl))) ⟨same_upd nD, upd_same⟩ (fun i Hc _ ⟨sc, _⟩ => SqL.of (sc _ _ el')) (fun j x Hc hx ⟨sc, eD⟩ => ?_) (fun Hc ⟨sc, eD⟩ => ?_)
      · have hj : j < 24 := by
          rcases List.getElem?_eq_some_iff.mp hx with ⟨h, _⟩
          rw [List.length_map] at h
          have := ok.1
          omega
        rw [List.getElem?_map] at hx
        obtain ⟨y, ey, rfl⟩ := Option.map_eq_some_iff.mp hx
        refine ⟨rfl, _, rfl, _, rfl, l', zs, y, rfl, sc _ _ el', ok, List.mem_of_getElem? ey, fun H9 s9 => ?_⟩
        refine ⟨_, s9 _ _ eD, ?_, ?_, ?_⟩
        · rw [List.length_map, List.length_replicate]
          exact small1000 (by omega)
        · intro b o' e
          rw [upd_ne (ne_of_none e nD)]
          exact s9 _ _ (sc b o' e)
        · rw [upd_same, List.replicate_succ', List.map_append]
          rfl
      refine ⟨D, _, rfl, SqL.of eD, _, rfl, ?_⟩
      rw [show (List.replicate (zs.map V.str).length true).all id = true from by simp]
      have pc : Pot Hc p := p3.same sc
      have elc := sc _ _ el'
      refine ⟨.ref l', rfl, .ref p, rfl, .ref l', rfl, l', _, rfl, .inl (SqL.of elc), p, (zs.map V.str).length, rfl, pc, by rw [List.length_map]; omega, by rw [List.length_map]; have := ok.1; omega, fun H5 j b5 p5 j0 j1 => ?_⟩
      rw [List.length_map] at j1
      obtain ⟨n, hnm, hne'⟩ := at_strs zs j j0 j1
      obtain ⟨hn0, tn⟩ := ok.2.1 n hnm
      have hn13 := tn.le
      have hnl : n.length ≤ sizeLine := Nat.le_trans hn13 (by decide)
      have el5 := b5 _ _ nlp' elc
      have S5 : Same H0 H5 := fun b o e => b5 b o (ne_of_none e np) (sc _ _ (sm3 _ _ e))
      refine ⟨l', _, j, .str n, rfl, rfl, SqL.of el5, hne', ?_⟩
      refine ⟨_, rfl, _, 13, rfl, rfl, by decide, by rw [lx]; decide, fun y1 hy1 => ?_⟩
      have ly1 : y1.length = 13 := by
        have tx1 : tl (Str.ofString "x") = [120] := by decide +kernel
        rw [TL.len_tl, hy1, tx1]
        rfl
      have ty1 : Tq B8 13 y1 := ⟨by omega, fun c hc => by
        rw [hy1] at hc
        obtain ⟨g, hg, hc2⟩ := List.mem_flatten.mp hc
        rw [(List.mem_replicate.mp hg).2] at hc2
        exact tx c hc2⟩
      refine ⟨n, y1, rfl, rfl, Nat.le_of_lt (small1000 (by omega)), ?_⟩
      refine ⟨_, rfl, .ref p, rfl, _, rfl, n, rfl, hnl, p, (n.length : Int), rfl, p5, by omega, by omega, fun H6 d6 b6 p6 d60 d61 => ?_⟩
      refine ⟨d6, rfl, n, rfl, hnl, ?_⟩
      refine ⟨_, rfl, n, _, rfl, rfl, Nat.le_of_lt (small1000 (by rw [la]; omega)), by show 4 ≤ sizeLine; decide, fun L nL => ?_⟩
      have t1 : Tq B8 30 (n ++ y1) := (tn.app ty1).mono (by decide) (fun _ h => h)
      have t2 : Tq B8 30 (cutS n none (some d6)) := (tn.cut none (some d6)).mono (by decide) (fun _ h => h)
      have t3 : Tq B8 30 (n ++ Str.ofString "a") := (tn.app ta).mono (by decide) (fun _ h => h)
      have t4 : Tq B8 30 (Str.ofString "") := ⟨by decide +kernel, by decide +kernel⟩
      have tall : ∀ y ∈ [n ++ y1, cutS n none (some d6), n ++ Str.ofString "a", Str.ofString ""], Tq B8 30 y := by
        intro y hy
        rcases List.mem_cons.mp hy with h | h
        · rw [h]; exact t1
        · rcases List.mem_cons.mp h with h | h
          · rw [h]; exact t2
          · rcases List.mem_cons.mp h with h | h
            · rw [h]; exact t3
            · rw [List.mem_singleton.mp h]; exact t4
      have tallV : ∀ (i : Nat) (x : V), [V.str (n ++ y1), V.str (cutS n none (some d6)), V.str (n ++ Str.ofString "a"), V.str (Str.ofString "")][i]? = some x → ∃ y : Str, x = .str y ∧ Tq B8 30 y := by
        intro i x hx
        have hx2 : ([n ++ y1, cutS n none (some d6), n ++ Str.ofString "a", Str.ofString ""].map V.str)[i]? = some x := hx
        rw [List.getElem?_map] at hx2
        obtain ⟨y, ey, rfl⟩ := Option.map_eq_some_iff.mp hx2
        exact ⟨y, rfl, tall y (List.mem_of_getElem? ey)⟩
      have s7' : Same H6 (upd H6 L (.lst [V.str (n ++ y1), V.str (cutS n none (some d6)), V.str (n ++ Str.ofString "a"), V.str (Str.ofString "")])) := same_upd nL
      have e7' : (upd H6 L (.lst [V.str (n ++ y1), V.str (cutS n none (some d6)), V.str (n ++ Str.ofString "a"), V.str (Str.ofString "")])) L = some (.lst [V.str (n ++ y1), V.str (cutS n none (some d6)), V.str (n ++ Str.ofString "a"), V.str (Str.ofString "")]) := upd_same
      refine ⟨L, rfl, ⟨_, SqL.of e7'⟩, ?_⟩
      revert s7' e7'
      generalize [V.str (n ++ y1), V.str (cutS n none (some d6)), V.str (n ++ Str.ofString "a"), V.str (Str.ofString "")] = tv at tallV
      generalize upd H6 L (.lst tv) = H7
      intro s7 e7
      have S7 : Same H0 H7 := fun b o e => s7 _ _ (b6 b o (ne_of_none e np) (S5 _ _ e))
      have el7 : H7 l' = some (.lst (zs.map V.str)) := s7 _ _ (b6 _ _ nlp' el5)
      refine for_list (K := K) (a := L) (xs := tv) (fun m σ H' => Same H7 H' ∧ ∃ y5, σ = [some (.ref a), some (.int (0 + (i : Int))), some (.ref p), some (.ref l'), some (.str n), y5]) ⟨Same.refl _, _, rfl⟩ (fun m σ H' _ ⟨sc7, _⟩ => SqL.of (sc7 _ _ e7)) ?_ ?_
      · rintro m x σ H8 hx ⟨sm8, y5, rfl⟩
        obtain ⟨y, rfl, ty⟩ := tallV m x hx
        have el8 := sm8 _ _ el7
        refine ⟨_, rfl, .ref l', rfl, l', _, rfl, .inl (SqL.of el8), rfl, strs_flat _, _, rfl, ite2 (fun e => ?_) (fun e => ?_)⟩
        · exact ⟨sm8, _, rfl⟩
        · have hno : y ∉ zs := fun h => e (by
            show inV (.str y) (zs.map V.str) = true
            rw [inV_strs]
            exact decide_eq_true h)
          refine ⟨_, rfl, _, rfl, l', zs, y, rfl, el8, ok, ty, hno, fun H9 s9 => ?_⟩
          refine ⟨_, rfl, ?_⟩
          refine ⟨_, rfl, _, rfl, l', zs, y, rfl, s9 _ _ el8, ok, ty, hno, fun H10 s10 => ?_⟩
          refine ⟨_, rfl, rfl, _, rfl, ?_⟩
          rw [show (!decide (V.str y = V.str y)) = false from by simp]
          exact ⟨(sm8.trans s9).trans s10, _, rfl⟩
      · rintro σ H8 ⟨sm8, y5, rfl⟩
        refine ⟨_, rfl, _, rfl, l', zs, n, rfl, sm8 _ _ el7, ok, hnm, fun H9 s9 => ?_⟩
        refine ⟨_, rfl, ?_⟩
        exact ⟨sm.trans ((S7.trans sm8).trans s9), _, _, _, _, _, rfl⟩
    · rintro σ H0 ⟨sm, x1, x2, x3, x4, x5, rfl⟩
      exact q _
end
end WB

set_option Elab.async false
set_option linter.all false
set_option maxRecDepth 100000
set_option maxHeartbeats 4000000
namespace WB
open PySem PySem.Spec PyProof.Rows L2 WG
open TL (tl)
theorem df_mk {K : PySem.W.Frag} {h : Heap} {mg : Str → Option Value} {x : Str} {st : Stmt} {ps : List Str} {f : Addr} {oc : Value} {od an : Option Addr} {osl : Array (Option Value)} {kV doc pm cdv ct : Value} (X : K.In h) (G : h.Ns mainGlobals mg)
    (a : PySem.W.nsIn K mainGlobals x = some (some (.ref f))) (l : K.lookup f = some ⟨oc, od, .func (PySem.W.fnOf x x (defArgs st) (defBody st) (defScope st) .none kV doc pm an cdv ct), osl⟩)
    (c : PySem.W.codeIn K cdv x = true) (k : PySem.W.keepIn K (.ref f) = true)
    (b : ∀ (kV doc pm : Value) (an : Option Addr) (cdv ct : Value) (us : List Value), us.length = ps.length → bindArgs (PySem.W.fnOf x x (defArgs st) (defBody st) (defScope st) .none kV doc pm an cdv ct) ⟨us, []⟩ = pure (ps.zip us)) :
    Df K mg x st ps f (PySem.W.fnOf x x (defArgs st) (defBody st) (defScope st) .none kV doc pm an cdv ct) := by
  have F := fun_mk (st := st) l c k
  exact ⟨F, F.binds b, PySem.W.mg_of X G a⟩
theorem all_mk {l : PySem.W.OpenLaw} {w : World} {K : PySem.W.Frag} {h : Heap} {mg : Str → Option Value} {fa : Addr} (X : K.In h) (G : h.Ns mainGlobals mg) (hfa : mg "law" = some (.ref fa))
    {fCell : Addr} {odCell anCell : Option Addr} {slCell : Array (Option Value)} {ocCell kVCell dcCell pmCell cdCell ctCell : Value} {fPot : Addr} {odPot anPot : Option Addr} {slPot : Array (Option Value)} {ocPot kVPot dcPot pmPot cdPot ctPot : Value} {fDraw : Addr} {odDraw anDraw : Option Addr} {slDraw : Array (Option Value)} {ocDraw kVDraw dcDraw pmDraw cdDraw ctDraw : Value} {fSigns : Addr} {odSigns anSigns : Option Addr} {slSigns : Array (Option Value)} {ocSigns kVSigns dcSigns pmSigns cdSigns ctSigns : Value} {fText : Addr} {odText anText : Option Addr} {slText : Array (Option Value)} {ocText kVText dcText pmText cdText ctText : Value} {fNames : Addr} {odNames anNames : Option Addr} {slNames : Array (Option Value)} {ocNames kVNames dcNames pmNames cdNames ctNames : Value} {fWMeant : Addr} {odWMeant anWMeant : Option Addr} {slWMeant : Array (Option Value)} {ocWMeant kVWMeant dcWMeant pmWMeant cdWMeant ctWMeant : Value} {fOther : Addr} {odOther anOther : Option Addr} {slOther : Array (Option Value)} {ocOther kVOther dcOther pmOther cdOther ctOther : Value} {fRefused : Addr} {odRefused anRefused : Option Addr} {slRefused : Array (Option Value)} {ocRefused kVRefused dcRefused pmRefused cdRefused ctRefused : Value} {fWho : Addr} {odWho anWho : Option Addr} {slWho : Array (Option Value)} {ocWho kVWho dcWho pmWho cdWho ctWho : Value} {fRight : Addr} {odRight anRight : Option Addr} {slRight : Array (Option Value)} {ocRight kVRight dcRight pmRight cdRight ctRight : Value} {fMeant : Addr} {odMeant anMeant : Option Addr} {slMeant : Array (Option Value)} {ocMeant kVMeant dcMeant pmMeant cdMeant ctMeant : Value} {fLeast : Addr} {odLeast anLeast : Option Addr} {slLeast : Array (Option Value)} {ocLeast kVLeast dcLeast pmLeast cdLeast ctLeast : Value} {CN BE : Addr} {nmU qU : Str} {NU : Addr} {bsU : List Value} {snU : List Str} {subU : List Value} {abU : Bool} {colU : Option Bool} {ddU : Option Addr} {m0 m1 m2 m3 m5 : Option Value} {fE : Addr} {odE anE : Option Addr} {slE : Array (Option Value)} {ocE kVE dcE pmE cdE ctE : Value} {C1 C2 C3 C4 C5 C6 C7 C8 C9 : Addr} {fLaw : Addr} {odLaw anLaw : Option Addr} {slLaw : Array (Option Value)} {ocLaw kVLaw dcLaw pmLaw cdLaw ctLaw : Value}
    (aCell : PySem.W.nsIn K mainGlobals "_law_cell" = some (some (.ref fCell)))
    (lCell : K.lookup fCell = some ⟨ocCell, odCell, .func (PySem.W.fnOf "_law_cell" "_law_cell" (defArgs sCell) (defBody sCell) (defScope sCell) .none kVCell dcCell pmCell anCell cdCell ctCell), slCell⟩)
    (cCell : PySem.W.codeIn K cdCell "_law_cell" = true)
    (kCell : PySem.W.keepIn K (.ref fCell) = true)
    (aPot : PySem.W.nsIn K mainGlobals "_law_pot" = some (some (.ref fPot)))
    (lPot : K.lookup fPot = some ⟨ocPot, odPot, .func (PySem.W.fnOf "_law_pot" "_law_pot" (defArgs sPot) (defBody sPot) (defScope sPot) .none kVPot dcPot pmPot anPot cdPot ctPot), slPot⟩)
    (cPot : PySem.W.codeIn K cdPot "_law_pot" = true)
    (kPot : PySem.W.keepIn K (.ref fPot) = true)
    (aDraw : PySem.W.nsIn K mainGlobals "_law_draw" = some (some (.ref fDraw)))
    (lDraw : K.lookup fDraw = some ⟨ocDraw, odDraw, .func (PySem.W.fnOf "_law_draw" "_law_draw" (defArgs sDraw) (defBody sDraw) (defScope sDraw) .none kVDraw dcDraw pmDraw anDraw cdDraw ctDraw), slDraw⟩)
    (cDraw : PySem.W.codeIn K cdDraw "_law_draw" = true)
    (kDraw : PySem.W.keepIn K (.ref fDraw) = true)
    (aSigns : PySem.W.nsIn K mainGlobals "_law_signs" = some (some (.ref fSigns)))
    (lSigns : K.lookup fSigns = some ⟨ocSigns, odSigns, .func (PySem.W.fnOf "_law_signs" "_law_signs" (defArgs sSigns) (defBody sSigns) (defScope sSigns) .none kVSigns dcSigns pmSigns anSigns cdSigns ctSigns), slSigns⟩)
    (cSigns : PySem.W.codeIn K cdSigns "_law_signs" = true)
    (kSigns : PySem.W.keepIn K (.ref fSigns) = true)
    (aText : PySem.W.nsIn K mainGlobals "_law_text" = some (some (.ref fText)))
    (lText : K.lookup fText = some ⟨ocText, odText, .func (PySem.W.fnOf "_law_text" "_law_text" (defArgs sText) (defBody sText) (defScope sText) .none kVText dcText pmText anText cdText ctText), slText⟩)
    (cText : PySem.W.codeIn K cdText "_law_text" = true)
    (kText : PySem.W.keepIn K (.ref fText) = true)
    (aNames : PySem.W.nsIn K mainGlobals "_law_names" = some (some (.ref fNames)))
    (lNames : K.lookup fNames = some ⟨ocNames, odNames, .func (PySem.W.fnOf "_law_names" "_law_names" (defArgs st_names) (defBody st_names) (defScope st_names) .none kVNames dcNames pmNames anNames cdNames ctNames), slNames⟩)
    (cNames : PySem.W.codeIn K cdNames "_law_names" = true)
    (kNames : PySem.W.keepIn K (.ref fNames) = true)
    (aWMeant : PySem.W.nsIn K mainGlobals "_law_meant" = some (some (.ref fWMeant)))
    (lWMeant : K.lookup fWMeant = some ⟨ocWMeant, odWMeant, .func (PySem.W.fnOf "_law_meant" "_law_meant" (defArgs st_w_meant) (defBody st_w_meant) (defScope st_w_meant) .none kVWMeant dcWMeant pmWMeant anWMeant cdWMeant ctWMeant), slWMeant⟩)
    (cWMeant : PySem.W.codeIn K cdWMeant "_law_meant" = true)
    (kWMeant : PySem.W.keepIn K (.ref fWMeant) = true)
    (aOther : PySem.W.nsIn K mainGlobals "_law_is_other" = some (some (.ref fOther)))
    (lOther : K.lookup fOther = some ⟨ocOther, odOther, .func (PySem.W.fnOf "_law_is_other" "_law_is_other" (defArgs st_is_other) (defBody st_is_other) (defScope st_is_other) .none kVOther dcOther pmOther anOther cdOther ctOther), slOther⟩)
    (cOther : PySem.W.codeIn K cdOther "_law_is_other" = true)
    (kOther : PySem.W.keepIn K (.ref fOther) = true)
    (aRefused : PySem.W.nsIn K mainGlobals "_law_refused" = some (some (.ref fRefused)))
    (lRefused : K.lookup fRefused = some ⟨ocRefused, odRefused, .func (PySem.W.fnOf "_law_refused" "_law_refused" (defArgs st_refused) (defBody st_refused) (defScope st_refused) .none kVRefused dcRefused pmRefused anRefused cdRefused ctRefused), slRefused⟩)
    (cRefused : PySem.W.codeIn K cdRefused "_law_refused" = true)
    (kRefused : PySem.W.keepIn K (.ref fRefused) = true)
    (aWho : PySem.W.nsIn K mainGlobals "_law_who" = some (some (.ref fWho)))
    (lWho : K.lookup fWho = some ⟨ocWho, odWho, .func (PySem.W.fnOf "_law_who" "_law_who" (defArgs st_who) (defBody st_who) (defScope st_who) .none kVWho dcWho pmWho anWho cdWho ctWho), slWho⟩)
    (cWho : PySem.W.codeIn K cdWho "_law_who" = true)
    (kWho : PySem.W.keepIn K (.ref fWho) = true)
    (aRight : PySem.W.nsIn K mainGlobals "_law_right" = some (some (.ref fRight)))
    (lRight : K.lookup fRight = some ⟨ocRight, odRight, .func (PySem.W.fnOf "_law_right" "_law_right" (defArgs st_right) (defBody st_right) (defScope st_right) .none kVRight dcRight pmRight anRight cdRight ctRight), slRight⟩)
    (cRight : PySem.W.codeIn K cdRight "_law_right" = true)
    (kRight : PySem.W.keepIn K (.ref fRight) = true)
    (aMeant : PySem.W.nsIn K mainGlobals "meant" = some (some (.ref fMeant)))
    (lMeant : K.lookup fMeant = some ⟨ocMeant, odMeant, .func (PySem.W.fnOf "meant" "meant" (defArgs st_meant) (defBody st_meant) (defScope st_meant) .none kVMeant dcMeant pmMeant anMeant cdMeant ctMeant), slMeant⟩)
    (cMeant : PySem.W.codeIn K cdMeant "meant" = true)
    (kMeant : PySem.W.keepIn K (.ref fMeant) = true)
    (aLeast : PySem.W.nsIn K mainGlobals "least_beginning" = some (some (.ref fLeast)))
    (lLeast : K.lookup fLeast = some ⟨ocLeast, odLeast, .func (PySem.W.fnOf "least_beginning" "least_beginning" (defArgs st_least_beginning) (defBody st_least_beginning) (defScope st_least_beginning) .none kVLeast dcLeast pmLeast anLeast cdLeast ctLeast), slLeast⟩)
    (cLeast : PySem.W.codeIn K cdLeast "least_beginning" = true)
    (kLeast : PySem.W.keepIn K (.ref fLeast) = true)
    (aB : PySem.W.nsIn K mainGlobals "BenchError" = some (some (.ref BE)))
    (aN : PySem.W.nsIn K mainGlobals "NoName" = some (some (.ref CN)))
    (xN : K.lookup CN = some (excClassObj nmU qU CN NU bsU [.ref BE, .type "ValueError", .type "Exception", .type "BaseException", .type "object"] true snU subU abU colU ddU m0 m1 m2 m3 m5 "ValueError.__new__"))
    (aE : PySem.W.findIn K (.ref CN) "__init__" = some (some (.ref fE)))
    (lE : K.lookup fE = some ⟨ocE, odE, .func (PySem.W.fnOf "__init__" "NoName.__init__" (defArgs st_err) (defBody st_err) (defScope st_err) .none kVE dcE pmE anE cdE ctE), slE⟩)
    (cE : PySem.W.codeIn K cdE "NoName.__init__" = true)
    (kE : PySem.W.keepIn K (.ref fE) = true)
    (tE : PySem.W.typeIn K (.ref fE) = some (.type "function"))
    (saN : PySem.W.findIn K (.ref CN) "__setattr__" = some (some (.builtin "object.__setattr__")))
    (gaN : PySem.W.findIn K (.ref CN) "__getattribute__" = some (some (.builtin "BaseException.__getattribute__")))
    (ggN : PySem.W.findIn K (.ref CN) "__getattr__" = some none)
    (nfN : PySem.W.findIn K (.ref CN) "who" = some none)
    (hcN : PySem.W.findIn K (.ref CN) "__class__" = some (some (.builtin "object.__class__")))
    (kN : PySem.W.keepIn K (.ref CN) = true)
    (eN : PySem.W.subIn K (.ref CN) (.type "BaseException") = some true)
    (eB : PySem.W.subIn K (.ref BE) (.type "BaseException") = some true)
    (tN : PySem.W.typeIn K (.ref CN) = some (.type "type"))
    (hdN : PySem.W.hasDictIn K CN = true)
    (sN : PySem.W.subIn K (.ref CN) (.ref CN) = some true)
    (spN : PySem.W.specialIn K (.builtin "object.__class__") "__get__" = some (some (.builtin "getset_descriptor.__get__")))
    (tkN : PySem.W.takesIn K (.builtin "object.__class__") = some true)
    (moN : PySem.W.mroIn K CN (.type "object") = some true)
    (tB : PySem.W.typeIn K (.ref BE) = some (.type "type"))
    (hdB : PySem.W.hasDictIn K BE = true)
    (sB : PySem.W.subIn K (.ref CN) (.ref BE) = some true)
    (sV : PySem.W.subIn K (.ref CN) (.type "ValueError") = some true)
    (oa1 : PySem.W.nsIn K mainGlobals "BadDefault" = some (some (.ref C1)))
    (oh1 : PySem.W.hasDictIn K C1 = true)
    (ot1 : PySem.W.typeIn K (.ref C1) = some (.type "type"))
    (os1 : PySem.W.subIn K (.ref CN) (.ref C1) = some false)
    (oa2 : PySem.W.nsIn K mainGlobals "Clash" = some (some (.ref C2)))
    (oh2 : PySem.W.hasDictIn K C2 = true)
    (ot2 : PySem.W.typeIn K (.ref C2) = some (.type "type"))
    (os2 : PySem.W.subIn K (.ref CN) (.ref C2) = some false)
    (oa3 : PySem.W.nsIn K mainGlobals "Fault" = some (some (.ref C3)))
    (oh3 : PySem.W.hasDictIn K C3 = true)
    (ot3 : PySem.W.typeIn K (.ref C3) = some (.type "type"))
    (os3 : PySem.W.subIn K (.ref CN) (.ref C3) = some false)
    (oa4 : PySem.W.nsIn K mainGlobals "NoCommand" = some (some (.ref C4)))
    (oh4 : PySem.W.hasDictIn K C4 = true)
    (ot4 : PySem.W.typeIn K (.ref C4) = some (.type "type"))
    (os4 : PySem.W.subIn K (.ref CN) (.ref C4) = some false)
    (oa5 : PySem.W.nsIn K mainGlobals "NoMaker" = some (some (.ref C5)))
    (oh5 : PySem.W.hasDictIn K C5 = true)
    (ot5 : PySem.W.typeIn K (.ref C5) = some (.type "type"))
    (os5 : PySem.W.subIn K (.ref CN) (.ref C5) = some false)
    (oa6 : PySem.W.nsIn K mainGlobals "NoOption" = some (some (.ref C6)))
    (oh6 : PySem.W.hasDictIn K C6 = true)
    (ot6 : PySem.W.typeIn K (.ref C6) = some (.type "type"))
    (os6 : PySem.W.subIn K (.ref CN) (.ref C6) = some false)
    (oa7 : PySem.W.nsIn K mainGlobals "NoPlace" = some (some (.ref C7)))
    (oh7 : PySem.W.hasDictIn K C7 = true)
    (ot7 : PySem.W.typeIn K (.ref C7) = some (.type "type"))
    (os7 : PySem.W.subIn K (.ref CN) (.ref C7) = some false)
    (oa8 : PySem.W.nsIn K mainGlobals "NoRow" = some (some (.ref C8)))
    (oh8 : PySem.W.hasDictIn K C8 = true)
    (ot8 : PySem.W.typeIn K (.ref C8) = some (.type "type"))
    (os8 : PySem.W.subIn K (.ref CN) (.ref C8) = some false)
    (oa9 : PySem.W.nsIn K mainGlobals "Unmade" = some (some (.ref C9)))
    (oh9 : PySem.W.hasDictIn K C9 = true)
    (ot9 : PySem.W.typeIn K (.ref C9) = some (.type "type"))
    (os9 : PySem.W.subIn K (.ref CN) (.ref C9) = some false)
    (z_len : PySem.W.nsIn K mainGlobals "len" = some none)
    (z_max : PySem.W.nsIn K mainGlobals "max" = some none)
    (z_min : PySem.W.nsIn K mainGlobals "min" = some none)
    (z_divmod : PySem.W.nsIn K mainGlobals "divmod" = some none)
    (z_range : PySem.W.nsIn K mainGlobals "range" = some none)
    (z_sorted : PySem.W.nsIn K mainGlobals "sorted" = some none)
    (z_list : PySem.W.nsIn K mainGlobals "list" = some none)
    (z_isinstance : PySem.W.nsIn K mainGlobals "isinstance" = some none)
    (z_str : PySem.W.nsIn K mainGlobals "str" = some none)
    (z_all : PySem.W.nsIn K mainGlobals "all" = some none)
    (z_any : PySem.W.nsIn K mainGlobals "any" = some none)
    (z_ValueError : PySem.W.nsIn K mainGlobals "ValueError" = some none)
    (aLaw : PySem.W.nsIn K mainGlobals "law" = some (some (.ref fLaw)))
    (lLaw : K.lookup fLaw = some ⟨ocLaw, odLaw, .func (PySem.W.fnOf "law" "law" (defArgs st_law) (defBody st_law) (defScope st_law) .none kVLaw dcLaw pmLaw anLaw cdLaw ctLaw), slLaw⟩)
    (cLaw : PySem.W.codeIn K cdLaw "law" = true)
    (kLaw : PySem.W.keepIn K (.ref fLaw) = true) :
    ∃ fd : FuncData, (∀ (s : Shared) (v : Value), BindsTo s fd ⟨[v], []⟩ [("_law_script", v)]) ∧ ∀ base : Heap, K.In base → base.Ns mainGlobals mg → FnOk l.prog w K mg base CX0 5 fa fd ["_law_script"] (spLaw K) := by
  have e := hfa.symm.trans (PySem.W.mg_of X G aLaw)
  cases e
  have g0 : ∀ {x : Str}, PySem.W.nsIn K mainGlobals x = some none → mg x = none := fun {x} z => PySem.W.mg_none_of X G z
  have DCell := df_mk (st := sCell) (ps := ["_law_script", "_law_k"]) X G aCell lCell cCell kCell fun _ _ _ _ _ _ us hl => match us, hl with | [_, _], _ => rfl
  have DPot := df_mk (st := sPot) (ps := ["_law_script", "_law_k"]) X G aPot lPot cPot kPot fun _ _ _ _ _ _ us hl => match us, hl with | [_, _], _ => rfl
  have DDraw := df_mk (st := sDraw) (ps := ["_law_pot_here", "_law_many"]) X G aDraw lDraw cDraw kDraw fun _ _ _ _ _ _ us hl => match us, hl with | [_, _], _ => rfl
  have DSigns := df_mk (st := sSigns) (ps := []) X G aSigns lSigns cSigns kSigns fun _ _ _ _ _ _ us hl => match us, hl with | [], _ => rfl
  have DText := df_mk (st := sText) (ps := ["_law_pot_here", "_law_most", "_law_signs_here"]) X G aText lText cText kText fun _ _ _ _ _ _ us hl => match us, hl with | [_, _, _], _ => rfl
  have DNames := df_mk (st := st_names) (ps := ["_law_pot_here", "_law_most"]) X G aNames lNames cNames kNames fun _ _ _ _ _ _ us hl => match us, hl with | [_, _], _ => rfl
  have DWMeant := df_mk (st := st_w_meant) (ps := ["_law_names_here", "_law_beginning"]) X G aWMeant lWMeant cWMeant kWMeant fun _ _ _ _ _ _ us hl => match us, hl with | [_, _], _ => rfl
  have DOther := df_mk (st := st_is_other) (ps := ["_law_e"]) X G aOther lOther cOther kOther fun _ _ _ _ _ _ us hl => match us, hl with | [_], _ => rfl
  have DRefused := df_mk (st := st_refused) (ps := ["_law_names_here", "_law_thing"]) X G aRefused lRefused cRefused kRefused fun _ _ _ _ _ _ us hl => match us, hl with | [_, _], _ => rfl
  have DWho := df_mk (st := st_who) (ps := ["_law_names_here", "_law_thing"]) X G aWho lWho cWho kWho fun _ _ _ _ _ _ us hl => match us, hl with | [_, _], _ => rfl
  have DRight := df_mk (st := st_right) (ps := ["_law_names_here", "_law_name"]) X G aRight lRight cRight kRight fun _ _ _ _ _ _ us hl => match us, hl with | [_, _], _ => rfl
  have DMeant := df_mk (st := st_meant) (ps := ["names", "beginning"]) X G aMeant lMeant cMeant kMeant fun _ _ _ _ _ _ us hl => match us, hl with | [_, _], _ => rfl
  have DLeast := df_mk (st := st_least_beginning) (ps := ["names", "name"]) X G aLeast lLeast cLeast kLeast fun _ _ _ _ _ _ us hl => match us, hl with | [_, _], _ => rfl
  have FLaw := fun_mk (st := st_law) lLaw cLaw kLaw
  have FE := fun_mk (st := st_err) lE cE kE
  have bE := FE.binds (ps := ["self", "who"]) fun _ _ _ _ _ _ us hl => match us, hl with | [_, _], _ => rfl
  have TE : ErrT K mg "NoName" CN fE _ := ⟨⟨⟨nmU, qU, NU, bsU, _, snU, subU, abU, colU, ddU, m0, m1, m2, m3, m5, xN, rfl⟩, saN, eN, tN, kN⟩, aE, tE, nfN, PySem.W.mg_of X G aN, bE⟩
  have TC : ExcC K CN := ⟨gaN, ggN, eN, hdN, hcN, spN, tkN, moN⟩
  have CT : CaughtT K CN BE := ⟨⟨gaN, ggN, eN, hdN⟩, TC, PySem.W.exm_ref eN hdN tN sN, PySem.W.exm_ref eB hdB tB sB, kit_subT (by decide +kernel) sV, kit_subR hdN tN sN sN⟩
  have OO : Others K mg CN C1 C2 C3 C4 C5 C6 C7 C8 C9 := ⟨PySem.W.mg_of X G oa1, PySem.W.mg_of X G oa2, PySem.W.mg_of X G oa3, PySem.W.mg_of X G oa4, PySem.W.mg_of X G oa5, PySem.W.mg_of X G oa6, PySem.W.mg_of X G oa7, PySem.W.mg_of X G oa8, PySem.W.mg_of X G oa9, fun c hc => by
    simp only [List.mem_cons, List.not_mem_nil, or_false] at hc
    rcases hc with rfl | rfl | rfl | rfl | rfl | rfl | rfl | rfl | rfl
    · exact kit_subR oh1 ot1 os1 sN
    · exact kit_subR oh2 ot2 os2 sN
    · exact kit_subR oh3 ot3 os3 sN
    · exact kit_subR oh4 ot4 os4 sN
    · exact kit_subR oh5 ot5 os5 sN
    · exact kit_subR oh6 ot6 os6 sN
    · exact kit_subR oh7 ot7 os7 sN
    · exact kit_subR oh8 ot8 os8 sN
    · exact kit_subR oh9 ot9 os9 sN⟩
  refine ⟨PySem.W.fnOf "law" "law" (defArgs st_law) (defBody st_law) (defScope st_law) .none kVLaw dcLaw pmLaw anLaw cdLaw ctLaw, fun s v => ?_, fun base _ _ => ?_⟩
  · exact .of_eq rfl
  · have GL : FnOk l.prog w K mg base (L2.CX l.prog w) 3 fLeast _ ["names", "name"] (spLeast CN) := ok_least DLeast.F FE TE DMeant (g0 z_len) (g0 z_range) (g0 z_sorted)
    have GO : ∀ cls d, WG.FnP l.prog w K mg base 3 fOther _ ["_law_e"] (ZC cls d) (spOther CN cls d) := fun cls d => ok_other DOther.F OO TC (g0 z_isinstance) cls d
    exact ok_law (k := 1) FLaw DCell DPot DDraw DSigns DText DNames DRight (ok_right DRight.F DLeast GL DWMeant (g0 z_len) (g0 z_range) (g0 z_sorted) (g0 z_list) (g0 z_str) (g0 z_isinstance) (g0 z_any)) DRefused (ok_refused (fE := fE) (fdE := default) DRefused.F DLeast GL DOther GO CT (PySem.W.mg_of X G aN) (PySem.W.mg_of X G aB) (g0 z_isinstance) (g0 z_ValueError)) DWho (ok_who DWho.F DLeast GL CT TE) (g0 z_len) (g0 z_max) (g0 z_min) (g0 z_divmod) (g0 z_range) (g0 z_all)
end WB

open PySem PySem.W PyProof.Rows
set_option maxRecDepth 100000
set_option Elab.async false
set_option maxHeartbeats 0 in
theorem PySem.Challenge.cw_wordbench_k24_whole_least_beginnings_holds : PySem.Challenge.rw_wordbench_k24_whole_least_beginnings.Holds := by
  w_on; o_law; k_head; (case hw => w_witness2)
  k_fill
  refine L2.walk_of (l := PySem.Challenge.rw_wordbench_k24_whole_least_beginnings) (n := 63) (k := 5) (x := "_law_script") (CX := fun _ => L2.CX0) (sp := fun w => WB.spLaw _) rfl (by decide) rfl ⟨rfl, by decide, by decide⟩ (fun w h Y => PySem.W.kIn_of Y) ?F (fun _ _ a ns hl _ hS => ⟨a, ns, rfl, hS, hl, fun _ => rfl⟩) (fun _ _ _ _ _ h => h)
  case F =>
    intro w mg fa h KX G hmg
    refine' WB.all_mk KX G hmg ?aCell ?lCell ?cCell ?kCell ?aPot ?lPot ?cPot ?kPot ?aDraw ?lDraw ?cDraw ?kDraw ?aSigns ?lSigns ?cSigns ?kSigns ?aText ?lText ?cText ?kText ?aNames ?lNames ?cNames ?kNames ?aWMeant ?lWMeant ?cWMeant ?kWMeant ?aOther ?lOther ?cOther ?kOther ?aRefused ?lRefused ?cRefused ?kRefused ?aWho ?lWho ?cWho ?kWho ?aRight ?lRight ?cRight ?kRight ?aMeant ?lMeant ?cMeant ?kMeant ?aLeast ?lLeast ?cLeast ?kLeast ?aB ?aN ?xN ?aE ?lE ?cE ?kE ?tE ?saN ?gaN ?ggN ?nfN ?hcN ?kN ?eN ?eB ?tN ?hdN ?sN ?spN ?tkN ?moN ?tB ?hdB ?sB ?sV ?oa1 ?oh1 ?ot1 ?os1 ?oa2 ?oh2 ?ot2 ?os2 ?oa3 ?oh3 ?ot3 ?os3 ?oa4 ?oh4 ?ot4 ?os4 ?oa5 ?oh5 ?ot5 ?os5 ?oa6 ?oh6 ?ot6 ?os6 ?oa7 ?oh7 ?ot7 ?os7 ?oa8 ?oh8 ?ot8 ?os8 ?oa9 ?oh9 ?ot9 ?os9 ?z_len ?z_max ?z_min ?z_divmod ?z_range ?z_sorted ?z_list ?z_isinstance ?z_str ?z_all ?z_any ?z_ValueError ?aLaw ?lLaw ?cLaw ?kLaw
    (case aCell => k_is)
    (case lCell => k_is)
    (case cCell => k_is)
    (case kCell => k_is)
    (case aPot => k_is)
    (case lPot => k_is)
    (case cPot => k_is)
    (case kPot => k_is)
    (case aDraw => k_is)
    (case lDraw => k_is)
    (case cDraw => k_is)
    (case kDraw => k_is)
    (case aSigns => k_is)
    (case lSigns => k_is)
    (case cSigns => k_is)
    (case kSigns => k_is)
    (case aText => k_is)
    (case lText => k_is)
    (case cText => k_is)
    (case kText => k_is)
    (case aNames => k_is)
    (case lNames => k_is)
    (case cNames => k_is)
    (case kNames => k_is)
    (case aWMeant => k_is)
    (case lWMeant => k_is)
    (case cWMeant => k_is)
    (case kWMeant => k_is)
    (case aOther => k_is)
    (case lOther => k_is)
    (case cOther => k_is)
    (case kOther => k_is)
    (case aRefused => k_is)
    (case lRefused => k_is)
    (case cRefused => k_is)
    (case kRefused => k_is)
    (case aWho => k_is)
    (case lWho => k_is)
    (case cWho => k_is)
    (case kWho => k_is)
    (case aRight => k_is)
    (case lRight => k_is)
    (case cRight => k_is)
    (case kRight => k_is)
    (case aMeant => k_is)
    (case lMeant => k_is)
    (case cMeant => k_is)
    (case kMeant => k_is)
    (case aLeast => k_is)
    (case lLeast => k_is)
    (case cLeast => k_is)
    (case kLeast => k_is)
    (case aB => k_is)
    (case aN => k_is)
    (case xN => k_is)
    (case aE => k_is)
    (case lE => k_is)
    (case cE => k_is)
    (case kE => k_is)
    (case tE => k_is)
    (case saN => k_is)
    (case gaN => k_is)
    (case ggN => k_is)
    (case nfN => k_is)
    (case hcN => k_is)
    (case kN => k_is)
    (case eN => k_is)
    (case eB => k_is)
    (case tN => k_is)
    (case hdN => k_is)
    (case sN => k_is)
    (case spN => k_is)
    (case tkN => k_is)
    (case moN => k_is)
    (case tB => k_is)
    (case hdB => k_is)
    (case sB => k_is)
    (case sV => k_is)
    (case oa1 => k_is)
    (case oh1 => k_is)
    (case ot1 => k_is)
    (case os1 => k_is)
    (case oa2 => k_is)
    (case oh2 => k_is)
    (case ot2 => k_is)
    (case os2 => k_is)
    (case oa3 => k_is)
    (case oh3 => k_is)
    (case ot3 => k_is)
    (case os3 => k_is)
    (case oa4 => k_is)
    (case oh4 => k_is)
    (case ot4 => k_is)
    (case os4 => k_is)
    (case oa5 => k_is)
    (case oh5 => k_is)
    (case ot5 => k_is)
    (case os5 => k_is)
    (case oa6 => k_is)
    (case oh6 => k_is)
    (case ot6 => k_is)
    (case os6 => k_is)
    (case oa7 => k_is)
    (case oh7 => k_is)
    (case ot7 => k_is)
    (case os7 => k_is)
    (case oa8 => k_is)
    (case oh8 => k_is)
    (case ot8 => k_is)
    (case os8 => k_is)
    (case oa9 => k_is)
    (case oh9 => k_is)
    (case ot9 => k_is)
    (case os9 => k_is)
    (case z_len => k_is)
    (case z_max => k_is)
    (case z_min => k_is)
    (case z_divmod => k_is)
    (case z_range => k_is)
    (case z_sorted => k_is)
    (case z_list => k_is)
    (case z_isinstance => k_is)
    (case z_str => k_is)
    (case z_all => k_is)
    (case z_any => k_is)
    (case z_ValueError => k_is)
    (case aLaw => k_is)
    (case lLaw => k_is)
    (case cLaw => k_is)
    (case kLaw => k_is)
