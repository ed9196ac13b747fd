import PyProof.Rows.All
import Wide.All
import OpenK.AllK
import Wide.FinOn
import PySem.Challenge.RW_wordbench_k23_what_is_meant
import HandS.ForMost
import HandS.IsInst
import HandS.Style
set_option Elab.async false
set_option linter.all false
set_option maxRecDepth 100000
set_option maxHeartbeats 4000000
namespace WB
open PySem PySem.Spec PyProof.Rows L2
open TL (tl)
def topS (i : Nat) : Stmt := PySem.Challenge.pw_wordbench_k23_what_is_meant.main.body.getD i (.Pass ⟨0, 0, 0, 0⟩)
abbrev st_cell : Stmt := topS 3
theorem sc_cell : FnScope ["_law_script", "_law_k"] ["_law_script", "_law_k"] (defScope st_cell) := ⟨rfl, rfl, rfl, by decide +kernel, rfl, by decide +kernel, by decide +kernel⟩
abbrev st_pot : Stmt := topS 4
theorem sc_pot : FnScope ["_law_script", "_law_k", "_law_cell_here"] ["_law_script", "_law_k"] (defScope st_pot) := ⟨rfl, rfl, rfl, by decide +kernel, rfl, by decide +kernel, by decide +kernel⟩
abbrev st_draw : Stmt := topS 5
theorem sc_draw : FnScope ["_law_pot_here", "_law_many", "_law_digit"] ["_law_pot_here", "_law_many"] (defScope st_draw) := ⟨rfl, rfl, rfl, by decide +kernel, rfl, by decide +kernel, by decide +kernel⟩
abbrev sCell := st_cell
abbrev sPot := st_pot
abbrev sDraw := st_draw
abbrev scCell := sc_cell
abbrev scPot := sc_pot
abbrev scDraw := sc_draw
/-- a def of the top: its object, how it binds, its name -/
structure Df (K : PySem.W.Frag) (mg : Str → Option Value) (x : Str) (st : Stmt) (ps : List Str) (f : Addr) (fd : FuncData) : Prop where
  F : Fun K x x st f fd
  b : Binds K fd ps []
  g : mg x = some (.ref f)
/-! ### heaps -/
theorem same_upd {H : Hp} {p : Addr} {o : HO} (h : H p = none) : Same H (upd H p o) := fun b x e => by
  rw [upd_ne (ne_of_none e h)]
  exact e
/-- all that was tracked but at p is as it was -/
def But (p : Addr) (H H' : Hp) : Prop := ∀ b o, b ≠ p → H b = some o → H' b = some o
theorem But.refl (p : Addr) (H : Hp) : But p H H := fun _ _ _ h => h
theorem But.trans {p : Addr} {H H1 H2 : Hp} (a : But p H H1) (b : But p H1 H2) : But p H H2 := fun c o n h => b c o n (a c o n h)
theorem But.of_same {p : Addr} {H H' : Hp} (a : Same H H') : But p H H' := fun c o _ h => a c o h
theorem But.upd (p : Addr) (H : Hp) (o : HO) : But p H (upd H p o) := fun c u n h => by
  rw [upd_ne n]
  exact h
theorem But.new {p : Addr} {H : Hp} {q : Addr} {o : HO} (h : H q = none) : But p H (L2.upd H q o) := But.of_same (same_upd h)
/-- at p a pot stands -/
def Pot (H : Hp) (p : Addr) : Prop := ∃ a b : Int, H p = some (.lst [.int a, .int b]) ∧ 0 ≤ b ∧ b < 2147483648
theorem Pot.some {H : Hp} {p : Addr} (h : Pot H p) : ∃ o, H p = some o := by
  obtain ⟨a, b, e, _⟩ := h
  exact ⟨_, e⟩
theorem Pot.ne {H : Hp} {p q : Addr} (h : Pot H p) (n : H q = none) : p ≠ q := by
  obtain ⟨a, b, e, _⟩ := h
  exact ne_of_none e n
theorem Pot.new {H : Hp} {p q : Addr} {o : HO} (h : Pot H p) (n : H q = none) : Pot (L2.upd H q o) p := by
  have ne := h.ne n
  obtain ⟨a, b, e, h1, h2⟩ := h
  refine ⟨a, b, ?_, h1, h2⟩
  rw [upd_ne ne]
  exact e
/-! ### texts of some signs -/
structure Tq (p : Nat → Prop) (n : Nat) (y : Str) : Prop where
  le : y.length ≤ n
  pl : ∀ c ∈ tl y, p c
theorem Tq.mono {p q : Nat → Prop} {n m : Nat} {y : Str} (h : Tq p n y) (e : n ≤ m) (f : ∀ c, p c → q c) : Tq q m y := ⟨Nat.le_trans h.le e, fun c hc => f c (h.pl c hc)⟩
theorem Tq.app {p : Nat → Prop} {n m : Nat} {x y : Str} (h : Tq p n x) (k : Tq p m y) : Tq p (n + m) (x ++ y) := by
  refine ⟨?_, fun c hc => ?_⟩
  · rw [Str.length_append]
    exact Nat.add_le_add h.le k.le
  · rw [TL.tl_append] at hc
    exact (List.mem_append.mp hc).elim (h.pl c) (k.pl c)
theorem Tq.cut {p : Nat → Prop} {n : Nat} {x : Str} (h : Tq p n x) (lo hi : Option Int) : Tq p n (cutS x lo hi) := by
  refine ⟨Nat.le_trans (cutS_length x lo hi) h.le, fun c hc => h.pl c ?_⟩
  have e : c ∈ (x.cps.toList.drop _).take _ := hc
  exact List.mem_of_mem_drop (List.mem_of_mem_take e)
theorem Tq.sign {p : Nat → Prop} {c : Nat} (h : p c) : Tq p 1 ⟨#[c]⟩ := by
  refine ⟨Nat.le_refl 1, fun d hd => ?_⟩
  have e : d ∈ [c] := hd
  rw [List.mem_singleton.mp e]
  exact h
theorem mem_joinL (S : List Nat) : ∀ (ps : List (List Nat)) (c : Nat), c ∈ TL.joinL S ps → c ∈ S ∨ ∃ p ∈ ps, c ∈ p
  | [], c, h => by cases h
  | [p], c, h => .inr ⟨p, List.mem_singleton.mpr rfl, h⟩
  | p :: q :: r, c, h => by
    rcases List.mem_append.mp (show c ∈ p ++ (S ++ TL.joinL S (q :: r)) from h) with h | h
    · exact .inr ⟨p, List.mem_cons_self, h⟩
    · rcases List.mem_append.mp h with h | h
      · exact .inl h
      · rcases mem_joinL S (q :: r) c h with h | ⟨p', hp, hc⟩
        · exact .inl h
        · exact .inr ⟨p', List.mem_cons_of_mem _ hp, hc⟩
theorem sum_most {p : Nat → Prop} (m : Nat) : ∀ ys : List Str, (∀ y ∈ ys, Tq p m y) → (ys.map (·.length)).sum ≤ ys.length * m
  | [], _ => Nat.zero_le _
  | y :: r, h => by
    have h1 := sum_most m r fun z hz => h z (List.mem_cons_of_mem _ hz)
    have h2 := (h y List.mem_cons_self).le
    rw [List.map_cons, List.sum_cons, List.length_cons, Nat.succ_mul]
    omega
theorem Tq.join {p : Nat → Prop} {sep : Str} {k m n : Nat} {ys : List Str} (hs : Tq p k sep) (h : ∀ y ∈ ys, Tq p m y) (hn : ys.length * m + ys.length * k ≤ n) : Tq p n (Txt.join sep ys) := by
  refine ⟨?_, fun c hc => ?_⟩
  · rw [TL.join_eq]
    have e := StrLaws.join_length_le sep ys
    have e2 := sum_most m ys h
    have e3 : ys.length * sep.length ≤ ys.length * k := Nat.mul_le_mul_left _ hs.le
    omega
  · rw [TL.join_eq, TL.tl_join] at hc
    rcases mem_joinL _ _ c hc with h1 | ⟨p, hp, h1⟩
    · exact hs.pl c h1
    · obtain ⟨y, hy, rfl⟩ := List.mem_map.mp hp
      exact (h y hy).pl c h1
section
variable {P : Program} {w : World} {K : PySem.W.Frag} {mg : Str → Option Value} {base : Heap}
/-! ### _law_cell -/
def spCell (K : PySem.W.Frag) : Sp := fun vs H Q _ => ∃ (a : Addr) (ns : List Int) (k : Int), vs = [.ref a, .int k] ∧ SqL K H a (ns.map V.int) ∧ 0 ≤ k ∧ ∀ z : Int, Q (.int z) H
theorem ok_cell {f : Addr} {fd : FuncData} {k : Nat} (F : Fun K "_law_cell" "_law_cell" sCell f fd) (mL : mg "len" = none) : FnOk P w K mg base CX0 (k + 1) f fd ["_law_script", "_law_k"] (spCell K) := by
  refine F.ok scCell (fun vs H Q E h => ?_) (fun cdv A outer s H vs Q E hr h => ?_)
  · obtain ⟨a, ns, k, rfl, _⟩ := h
    rfl
  · obtain ⟨a, ns, k, rfl, hS, hk, q⟩ := h
    refine ⟨_, pss_one (ps_ret (pe_ifExp (pt_cmpR op_lt (pv 1) (pe_callB call_len_seq (by rfl) mL PySem.boot_len (pa_cons (pv 0) pa_nil)) (nomark _)) (pe_ix ix_list (pv 0) (pv 1) (fun _ _ => rfl)) pe_int)), ?_⟩
    refine ⟨.int k, rfl, .ref a, rfl, a, _, rfl, .inl hS, k, _, rfl, rfl, _, rfl, ite2 (fun e => ?_) (fun e => q 0)⟩
    have e1 := of_decide_eq_true e
    obtain ⟨n, rfl⟩ := Int.eq_ofNat_of_zero_le hk
    rw [List.length_map] at e1
    have hn : n < ns.length := by omega
    exact ⟨.ref a, rfl, .int n, rfl, a, _, _, .int ns[n], rfl, rfl, hS, atI_nat (j := n) (by rw [List.getElem?_map, List.getElem?_eq_getElem hn]; rfl), q _⟩
/-! ### _law_pot -/
def spPot (K : PySem.W.Frag) : Sp := fun vs H Q _ => ∃ (a : Addr) (ns : List Int) (k : Int), vs = [.ref a, .int k] ∧ SqL K H a (ns.map V.int) ∧ 0 ≤ k ∧
  ∀ H' p, Same H H' → H p = none → Pot H' p → Q (.ref p) H'
theorem ok_pot {f fC : Addr} {fd fdC : FuncData} {k : Nat} (F : Fun K "_law_pot" "_law_pot" sPot f fd) (C : Df K mg "_law_cell" sCell ["_law_script", "_law_k"] fC fdC) (mL : mg "len" = none) (mM : mg "max" = none) :
    FnOk P w K mg base CX0 (k + 2) f fd ["_law_script", "_law_k"] (spPot K) := by
  have GC : FnOk P w K mg base CX0 (k + 1) fC fdC ["_law_script", "_law_k"] (spCell K) := ok_cell C.F mL
  refine F.ok scPot (fun vs H Q E h => ?_) (fun cdv A outer s H vs Q E hr h => ?_)
  · obtain ⟨a, ns, k, rfl, _⟩ := h
    rfl
  · obtain ⟨a, ns, k, rfl, hS, hk, q⟩ := h
    refine ⟨_, pss_cons (ps_set (i := 2) scPot.nd rfl (.inl rfl) (pe_call GC hr (by rfl) C.g C.F.kp C.b .nil pass0 (pa_cons (pv 0) (pa_cons (pv 1) pa_nil))))
      (pss_one (ps_ret (pe_lst (pa_cons (pe_callB (call_max2 rfl) (by rfl) mM (by decide +kernel) (pa_cons pe_int (pa_cons (pe_op op_sub (pv 2) (pe_op op_pow pe_int pe_int)) pa_nil)))
        (pa_cons (pe_op op_mod (pe_op op_add (pe_op op_add (pe_op op_mul (pe_op op_mod (pv 2) pe_int) pe_int) (pe_op op_mul pe_int (pv 1))) pe_int) pe_int) pa_nil))))), ?_⟩
    refine ⟨.ref a, rfl, .int k, rfl, a, ns, k, rfl, hS, hk, fun z => ?_⟩
    refine ⟨.int z, rfl, 10, 18, rfl, rfl, ⟨by decide, by decide, by decide⟩, z, _, rfl, rfl, 0, _, rfl, ?_⟩
    refine ⟨.int z, rfl, z, 2147483629, rfl, rfl, (by show (0 : Int) < 2147483629; decide), _, 48271, rfl, rfl, .inr ⟨by decide, by decide⟩, .int k, rfl, 7919, k, rfl, rfl, .inl ⟨by decide, by decide⟩, _, _, rfl, rfl, _, 31, rfl, rfl, _, 2147483629, rfl, rfl, (by show (0 : Int) < 2147483629; decide), ?_⟩
    refine ⟨by show 2 ≤ sizeLine; decide, fun p hp => q _ p (same_upd hp) hp ⟨_, _, upd_same, Int.emod_nonneg _ (by decide), ?_⟩⟩
    exact Int.lt_trans (Int.emod_lt_of_pos _ (by decide)) (by decide)
/-! ### _law_draw -/
def spDraw : Sp := fun vs H Q _ => ∃ (p : Addr) (m : Int), vs = [.ref p, .int m] ∧ Pot H p ∧ 0 < m ∧ m ≤ 1000 ∧ ∀ H' (d : Int), But p H H' → Pot H' p → 0 ≤ d → d < m → Q (.int d) H'
theorem ok_draw {f : Addr} {fd : FuncData} {k : Nat} (F : Fun K "_law_draw" "_law_draw" sDraw f fd) (mD : mg "divmod" = none) : FnOk P w K mg base CX0 (k + 1) f fd ["_law_pot_here", "_law_many"] spDraw := by
  refine F.ok scDraw (fun vs H Q E h => ?_) (fun cdv A outer s H vs Q E hr h => ?_)
  · obtain ⟨p, m, rfl, _⟩ := h
    rfl
  · obtain ⟨p, m, rfl, ⟨a, b, hp, hb0, hb1⟩, hm0, hm1, q⟩ := h
    refine ⟨_, pss_cons (ps_if (pt_cmpR op_gt (pe_ix ix_list (pv 0) pe_int (fun _ _ => rfl)) pe_int (nomark _))
        (pss_cons (ps_asg (pe_callB call_divmod (by rfl) mD (by decide +kernel) (pa_cons (pe_ix ix_list (pv 0) pe_int (fun _ _ => rfl)) (pa_cons (pv 1) pa_nil)))
            (pg_tup rfl (pgs_cons (pg_sub (pv 0) pe_int set_list) (pgs_cons (pg_name (i := 2) scDraw.nd rfl (.inl rfl)) pgs_nil))))
          (pss_one (ps_ret (pv 2)))) pss_nil)
      (pss_cons (ps_asg (pe_op op_mod (pe_op op_add (pe_op op_mul (pe_ix ix_list (pv 0) pe_int (fun _ _ => rfl)) pe_int) pe_int) pe_int) (pg_sub (pv 0) pe_int set_list))
      (pss_one (ps_ret (pe_op op_mod (pe_op op_fdiv (pe_op op_mod (pe_op op_pow (pe_ix ix_list (pv 0) pe_int (fun _ _ => rfl)) pe_int) pe_int) pe_int) (pv 1))))), ?_⟩
    refine ⟨.ref p, rfl, p, _, 0, .int a, rfl, rfl, SqL.of hp, atI_nat (j := 0) rfl, a, 0, rfl, rfl, _, rfl, ite2 (fun e => ?_) (fun e => ?_)⟩
    · refine ⟨.ref p, rfl, p, _, 0, .int a, rfl, rfl, SqL.of hp, atI_nat (j := 0) rfl, .int m, rfl, a, m, rfl, ⟨hm0, by omega⟩, fun t nt => ?_⟩
      have npt : p ≠ t := ne_of_none hp nt
      have hp1 : (upd H t (.tup [.int (a / m), .int (a % m)])) p = some (.lst [.int a, .int b]) := by
        rw [upd_ne npt]
        exact hp
      refine ⟨t, _, rfl, SqT.of upd_same, rfl, _, _, rfl, .ref p, rfl, p, _, 0, 0, rfl, rfl, hp1, rfl, _, _, rfl, rfl, ?_⟩
      refine ⟨.int (a % m), rfl, q _ _ ((But.new nt).trans (But.upd _ _ _)) ⟨a / m, b, upd_same, hb0, hb1⟩ (Int.emod_nonneg _ (by omega)) (Int.emod_lt_of_pos _ hm0)⟩
    · refine ⟨.ref p, rfl, p, _, 1, .int b, rfl, rfl, SqL.of hp, atI_nat (j := 1) rfl, b, 39373, rfl, rfl, .inr ⟨by decide, by decide⟩, _, 8191, rfl, rfl, _, 2147483587, rfl, rfl, (by show (0 : Int) < 2147483587; decide), ?_⟩
      refine ⟨.ref p, rfl, p, _, 1, 1, rfl, rfl, hp, rfl, ?_⟩
      have c0 : 0 ≤ (b * 39373 + 8191) % 2147483587 := Int.emod_nonneg _ (by decide)
      have c1 : (b * 39373 + 8191) % 2147483587 < 2147483587 := Int.emod_lt_of_pos _ (by decide)
      refine ⟨.ref p, rfl, p, _, 1, .int ((b * 39373 + 8191) % 2147483587), rfl, rfl, SqL.of upd_same, atI_nat (j := 1) rfl, (b * 39373 + 8191) % 2147483587, 2, rfl, rfl, ⟨by decide, by decide, by omega⟩, _, 2147483543, rfl, rfl, (by show (0 : Int) < 2147483543; decide), _, 13, rfl, rfl, ⟨by decide, by decide⟩, .int m, rfl, _, m, rfl, rfl, hm0, ?_⟩
      exact q _ _ (But.upd _ _ _) ⟨a, _, upd_same, c0, by omega⟩ (Int.emod_nonneg _ (by omega)) (Int.emod_lt_of_pos _ hm0)
end
theorem at_strs (ys : List Str) (d : Int) (h0 : 0 ≤ d) (h1 : d < (ys.length : Int)) : ∃ y ∈ ys, atI (ys.map V.str) d = some (.str y) := by
  obtain ⟨n, rfl⟩ := Int.eq_ofNat_of_zero_le h0
  have hn : n < ys.length := by omega
  exact ⟨ys[n], List.getElem_mem hn, atI_nat (by rw [List.getElem?_map, List.getElem?_eq_getElem hn]; rfl)⟩
theorem at_ints (ys : List Int) (d : Int) (h0 : 0 ≤ d) (h1 : d < (ys.length : Int)) : ∃ y ∈ ys, atI (ys.map V.int) d = some (.int y) := by
  obtain ⟨n, rfl⟩ := Int.eq_ofNat_of_zero_le h0
  have hn : n < ys.length := by omega
  exact ⟨ys[n], List.getElem_mem hn, atI_nat (by rw [List.getElem?_map, List.getElem?_eq_getElem hn]; rfl)⟩
theorem at_any (ys : List V) (d : Int) (h0 : 0 ≤ d) (h1 : d < (ys.length : Int)) : ∃ y ∈ ys, atI ys d = some y := by
  obtain ⟨n, rfl⟩ := Int.eq_ofNat_of_zero_le h0
  have hn : n < ys.length := by omega
  exact ⟨ys[n], List.getElem_mem hn, atI_nat (List.getElem?_eq_getElem hn)⟩
theorem go {R : Hp → Prop} {H : Hp} {a : Addr} {o : HO} (n : H a = none) (h : ∀ H', Same H H' → H' a = some o → R H') : R (upd H a o) := h _ (same_upd n) upd_same
theorem goT {α : Type} {R : Hp → α → Prop} {Q : α} {H : Hp} {a : Addr} {o : HO} (n : H a = none) (h : ∀ H', Same H H' → H' a = some o → R H' Q) : R (upd H a o) Q := h _ (same_upd n) upd_same
theorem goU {R : Hp → Prop} {H : Hp} {a : Addr} {o : HO} (h : ∀ H', But a H H' → H' a = some o → R H') : R (upd H a o) := h _ (But.upd _ _ _) upd_same
theorem ev_use {t : TE} {σ : L2.St} {H : Hp} {v : V} {R : VK} (e : ∀ R : VK, R v H → t σ H R) (c : R v H) : t σ H R := e R c
theorem ev_gen {t : TE} {σ : L2.St} {H : Hp} (D : V → Hp → Prop) {R : VK} (e : ∀ R : VK, (∀ v H', D v H' → R v H') → t σ H R) (c : ∀ v H', D v H' → R v H') : t σ H R := e R c
theorem ts_gen {t : TS} {κ : L2.Ends} {σ : L2.St} {H : Hp} (D : L2.St → Hp → Prop) (e : ∀ κ : L2.Ends, (∀ σ' H', D σ' H' → κ.nx σ' H') → t κ σ H) (c : ∀ σ' H', D σ' H' → κ.nx σ' H') : t κ σ H := e κ c
theorem dp_strs {K : PySem.W.Frag} {H : Hp} : ∀ ys : List Str, DpAll K H (ys.map V.str) (ys.map PyData.str)
  | [] => .nil
  | y :: r => .cons (.str y) (dp_strs r)
theorem strOk_of {z : Str} (h : ∀ c ∈ tl z, c < 256) : PyData.strOk z = true := by
  unfold PyData.strOk
  rw [← Array.all_toList]
  exact List.all_eq_true.mpr fun c hc => decide_eq_true (Nat.lt_trans (h c hc) (by decide))
theorem lay_strs : ∀ ys : List Str, (∀ y ∈ ys, PyData.strOk y = true) → PyData.canLayAll0 (ys.map PyData.str) = true ∧ PyData.depthAll (ys.map PyData.str) = 0
  | [], _ => ⟨by simp [PyData.canLayAll0], by simp [PyData.depthAll]⟩
  | y :: r, h => by
    obtain ⟨h1, h2⟩ := lay_strs r fun z hz => h z (List.mem_cons_of_mem _ hz)
    rw [List.map_cons]
    exact ⟨by simp [PyData.canLayAll0, PyData.canLay0, h1, h y List.mem_cons_self], by simp [PyData.depthAll, PyData.depth, h2]⟩
theorem shaped_strs (ys : List Str) (h : ∀ y ∈ ys, PyData.strOk y = true) : SeqAt.shaped (.list (ys.map PyData.str)) = true := by
  obtain ⟨h1, h2⟩ := lay_strs ys h
  unfold SeqAt.shaped
  simp [PyData.canLay0, PyData.depth, h1, h2]
theorem eqv_nil (ds : List PyData) : PyData.eqv (.list ds) (.list []) = ds.isEmpty := by
  cases ds with
  | nil => simp [PyData.eqv, PyData.eqvAll]
  | cons d r => simp [PyData.eqv, PyData.eqvAll]
theorem strs_flat (ys : List Str) : (ys.map V.str).all flatV = true := by
  rw [List.all_map]
  exact List.all_eq_true.mpr fun _ _ => rfl
theorem eqvAll_strs : ∀ xs ys : List Str, PyData.eqvAll (xs.map PyData.str) (ys.map PyData.str) = decide (xs = ys)
  | [], [] => by simp [PyData.eqvAll]
  | [], y :: r => by simp [PyData.eqvAll]
  | x :: r, [] => by simp [PyData.eqvAll]
  | x :: r, y :: t => by
    rw [List.map_cons, List.map_cons]
    simp only [PyData.eqvAll, PyData.eqv]
    rw [eqvAll_strs r t]
    by_cases h : x = y
    · subst h
      by_cases h2 : r = t
      · subst h2
        simp
      · simp [h2]
    · simp [h]
theorem eqv_strs (xs ys : List Str) : PyData.eqv (.list (xs.map PyData.str)) (.list (ys.map PyData.str)) = decide (xs = ys) := by
  simp only [PyData.eqv]
  exact eqvAll_strs xs ys
theorem inV_strs (z : Str) (ys : List Str) : inV (.str z) (ys.map V.str) = decide (z ∈ ys) := by
  unfold inV
  rw [List.any_map]
  induction ys with
  | nil => rfl
  | cons y r ih =>
    rw [List.any_cons, ih]
    show (decide (y = z) || decide (z ∈ r)) = _
    by_cases h : y = z
    · subst h
      simp
    · have h2 : ¬ z = y := fun e => h e.symm
      simp [h, h2]
theorem tl_cut_to (x : Str) (k : Nat) : tl (cutS x none (some (k : Int))) = (tl x).take k := by
  show ((((tl x).drop (HT.sIx x.length 0 none)).take (HT.sIx x.length x.length (some (k : Int)) - HT.sIx x.length 0 none)).toArray).toList = _
  rw [HT.sIx_none, HT.sIx_nat, List.drop_zero, Nat.sub_zero]
  show (tl x).take (min k x.length) = _
  rw [TL.len_tl, ← List.take_take, List.take_length]
theorem tl_cut_from (x : Str) (k : Nat) : tl (cutS x (some (k : Int)) none) = (tl x).drop k := by
  show ((((tl x).drop (HT.sIx x.length 0 (some (k : Int)))).take (HT.sIx x.length x.length none - HT.sIx x.length 0 (some (k : Int)))).toArray).toList = _
  rw [HT.sIx_none, HT.sIx_nat]
  show ((tl x).drop (min k x.length)).take (x.length - min k x.length) = _
  have hl := TL.len_tl x
  by_cases h : k ≤ x.length
  · rw [Nat.min_eq_left h, List.take_of_length_le (by rw [List.length_drop]; omega)]
  · rw [Nat.min_eq_right (by omega), List.drop_of_length_le (by omega), List.drop_of_length_le (by omega), List.take_nil]
theorem fold_toList : ∀ (l : List (Array Nat)) (acc : Array Nat), (l.foldl (· ++ ·) acc).toList = acc.toList ++ (l.map Array.toList).flatten
  | [], acc => by simp
  | x :: l, acc => by
    rw [List.foldl_cons, fold_toList l]
    simp
theorem mul_tl (z : Str) (n : Nat) : (Txt.mul z (n : Int)).cps.toList = (List.replicate n z.cps.toList).flatten := by
  unfold Txt.mul
  by_cases h1 : (n : Int) < 1
  · have e : n = 0 := by omega
    subst e
    rw [if_pos h1]
    rfl
  · rw [if_neg h1]
    by_cases h2 : ((n : Int) == 1 || z.length == 0) = true
    · rw [if_pos h2]
      rcases Bool.or_eq_true_iff.mp h2 with e | e
      · have e1 : n = 1 := by
          have := eq_of_beq e
          omega
        subst e1
        simp
      · have e1 : z.cps.toList = [] := List.length_eq_zero_iff.mp (by
          have := eq_of_beq e
          simpa [Str.length] using this)
        rw [e1]
        simp
    · rw [if_neg h2]
      show ((List.replicate (n : Int).toNat z.cps).foldl (· ++ ·) #[]).toList = _
      rw [fold_toList, Int.toNat_natCast, List.map_replicate]
      rfl
theorem op_mul_str {X : Cx} : OpR X (binaryOp .Mult) (fun x y H Q => ∃ (z : Str) (n : Nat), x = .str z ∧ y = .int (n : Int) ∧ n ≤ 1000 ∧ z.length ≤ 1000 ∧ ∀ y : Str, tl y = (List.replicate n (tl z)).flatten → Q (.str y) H) := by
  intro pins s σ H x y v u Q I rx ry h
  obtain ⟨z, n, rfl, rfl, hn, hz, q⟩ := h
  obtain ⟨tx, rfl⟩ := rx
  obtain ⟨ty, rfl⟩ := ry
  have pw : z.length * n ≤ 1000000 := Nat.le_trans (Nat.mul_le_mul hz hn) (by decide)
  refine PySem.SB.mul ⟨?_, fun h1 h2 => ?_, fun h1 h2 => ?_⟩ fun t' k => ⟨.str _, H, I.tok k, ⟨t', rfl⟩, q _ ?_⟩
  · rw [decide_eq_false (by omega), decide_eq_false (by omega)]
    rfl
  · have e : (1000 : Int) ≤ (2 ^ 63 - 1) / (n : Int) := by
      have h3 : (0 : Int) < n := by omega
      exact (Int.le_ediv_iff_mul_le h3).mpr (by omega)
    omega
  · rw [Int.toNat_natCast]
    exact decide_eq_false (by show ¬ sizeLine < _; have : sizeLine = 16777216 := sizeLine_eq; omega)
  · exact mul_tl z n
theorem tt_use {t : TT} {σ : L2.St} {H : Hp} {b : Bool} {R : Bool → Hp → Prop} (e : ∀ R : Bool → Hp → Prop, R b H → t σ H R) (c : R b H) : t σ H R := e R c
theorem str_ext {a b : Str} (h : tl a = tl b) : a = b := by
  cases a; cases b
  exact congrArg Str.mk (Array.toList_inj.mp h)
abbrev B8 : Nat → Prop := fun c => c < 256
theorem Pot.same {H H' : Hp} {p : Addr} (h : Pot H p) (s : Same H H') : Pot H' p := by
  obtain ⟨x, y, e, h1, h2⟩ := h
  exact ⟨x, y, s _ _ e, h1, h2⟩
end WB

set_option Elab.async false
set_option linter.all false
set_option maxRecDepth 100000
set_option maxHeartbeats 4000000
namespace WB
open PySem PySem.Spec PyProof.Rows L2
open TL (tl)
abbrev st_signs : Stmt := topS 6
theorem sc_signs : FnScope ["_law_letters"] [] (defScope st_signs) := ⟨rfl, rfl, rfl, by decide +kernel, rfl, by decide +kernel, by decide +kernel⟩
abbrev st_text : Stmt := topS 7
theorem sc_text : FnScope ["_law_pot_here", "_law_most", "_law_signs_here", "_law_k"] ["_law_pot_here", "_law_most", "_law_signs_here"] (defScope st_text) := ⟨rfl, rfl, rfl, by decide +kernel, rfl, by decide +kernel, by decide +kernel⟩
abbrev sSigns := st_signs
abbrev sText := st_text
abbrev scSigns := sc_signs
abbrev scText := sc_text
section
variable {P : Program} {w : World} {K : PySem.W.Frag} {mg : Str → Option Value} {base : Heap}
/-! ### _law_signs -/
def signs2 : Str := Str.ofString " !\"#$&'()*+,-./0123456789:;<=>?@" ++ Str.ofString "[\\]^_`{|}~abcdefghijklmnopqrstuvwxyzABCDEFGHIJKLMNOPQRSTUVWXYZ"
def spSigns : Sp := fun vs H Q _ => vs = [] ∧ Q (.str signs2) H
theorem ok_signs {f : Addr} {fd : FuncData} {k : Nat} (F : Fun K "_law_signs" "_law_signs" sSigns f fd) : FnOk P w K mg base CX0 (k + 1) f fd [] spSigns := by
  refine F.ok scSigns (fun vs H Q E h => ?_) (fun cdv A outer s H vs Q E hr h => ?_)
  · obtain ⟨rfl, _⟩ := h
    rfl
  · obtain ⟨rfl, q⟩ := h
    refine ⟨_, pss_cons (ps_set (i := 0) scSigns.nd rfl (.inl rfl) pe_str) (pss_one (ps_ret (pe_op op_add_str (pe_op op_add_str pe_str (pv 0)) (pe_upper (pv 0))))), ?_⟩
    refine ⟨_, rfl, _, _, rfl, rfl, ?_, _, rfl, ⟨_, rfl⟩, _, rfl, rfl, ?_, _, _, rfl, rfl, ?_, (congrArg (fun z => Q (.str z) H) (by decide +kernel)).mp q⟩ <;> decide +kernel
/-! ### _law_text -/
def spText : Sp := fun vs H Q _ => ∃ (p : Addr) (m : Int) (z : Str), vs = [.ref p, .int m, .str z] ∧ Pot H p ∧ 0 ≤ m ∧ m ≤ 100 ∧ 0 < z.length ∧ z.length ≤ 200 ∧
  ∀ H' (y : Str), But p H H' → Pot H' p → Tq (· ∈ tl z) m.toNat y → Q (.str y) H'
theorem ok_text {f fD : Addr} {fd fdD : FuncData} {k : Nat} (F : Fun K "_law_text" "_law_text" sText f fd) (D : Df K mg "_law_draw" sDraw ["_law_pot_here", "_law_many"] fD fdD) (mD : mg "divmod" = none) (mL : mg "len" = none) (mR : mg "range" = none) :
    FnOk P w K mg base CX0 (k + 2) f fd ["_law_pot_here", "_law_most", "_law_signs_here"] spText := by
  have GD : FnOk P w K mg base CX0 (k + 1) fD fdD ["_law_pot_here", "_law_many"] spDraw := ok_draw D.F mD
  refine F.ok scText (fun vs H Q E h => ?_) (fun cdv A outer s H vs Q E hr h => ?_)
  · obtain ⟨p, m, z, rfl, _⟩ := h
    rfl
  · obtain ⟨p, m, z, rfl, hp, hm0, hm1, hz0, hz1, q⟩ := h
    refine ⟨_, pss_one (ps_ret (pe_join pe_str (pe_lc (own := [("_law_k", 3)]) (g := gName 3) (tt := tYes) rfl scText.nd
      (pi_range1 rfl mR (pa_cons (pe_call GD hr (by rfl) D.g D.F.kp D.b .nil pass0 (pa_cons (pv 0) (pa_cons (pe_op op_add (pv 1) pe_int) pa_nil))) pa_nil))
      (blkOk_by (N := ["_law_pot_here", "_law_most", "_law_signs_here", "_law_k"]) (sc := defScope sText) (by decide +kernel))
      (fun _ _ _ _ _ => pg_name (i := 3) scText.nd rfl (Or.inl rfl)) (fun _ _ _ _ _ => pts_nil)
      (fun _ _ _ _ _ => pe_ix ix_str (pv 2) (pe_call GD hr (by rfl) D.g D.F.kp D.b .nil pass0 (pa_cons (pv 0) (pa_cons (pe_callB call_len_str (by rfl) mL PySem.boot_len (pa_cons (pv 2) pa_nil)) pa_nil))) (fun _ _ => rfl))))), ?_⟩
    refine ⟨⟨_, rfl⟩, .ref p, rfl, .int m, rfl, m, 1, rfl, rfl, p, m + 1, rfl, hp, by omega, by omega, fun H1 d b1 p1 d0 d1 => ?_⟩
    refine ⟨d, rfl, by omega, by omega, fun T nT => ?_⟩
    have npT : p ≠ T := p1.ne nT
    refine lc_range (lo := 0) (n := d.toNat) (fun i Hc => But p H1 Hc ∧ Pot Hc p ∧ ∃ ys : List Str, Hc T = some (.lst (ys.map V.str)) ∧ ys.length = i ∧ ∀ y ∈ ys, Tq (· ∈ tl z) 1 y)
      ⟨But.new nT, p1.new nT, [], upd_same, rfl, fun y hy => by cases hy⟩ (fun i Hc hi ⟨bc, pc, ys, eT, el, e1⟩ => ?_) (fun Hc ⟨bc, pc, ys, eT, el, e1⟩ => ?_)
    · refine ⟨rfl, ?_⟩
      have hzl : z.length ≤ sizeLine := Nat.le_trans hz1 (by decide)
      refine ⟨.str z, rfl, .ref p, rfl, .str z, rfl, z, rfl, hzl, p, z.length, rfl, pc, by omega, by omega, fun H4 j b4 p4 j0 j1 => ?_⟩
      obtain ⟨n, rfl⟩ := Int.eq_ofNat_of_zero_le j0
      have hn : n < z.cps.toList.length := by
        have e : z.cps.toList.length = z.length := by simp [Str.length]
        omega
      have eT4 : H4 T = some (.lst (ys.map V.str)) := b4 T _ npT.symm eT
      refine ⟨z, n, z.cps.toList[n], rfl, rfl, hzl, atI_nat (List.getElem?_eq_getElem hn), ys.map V.str, eT4, ?_, ?_, ?_, ys ++ [⟨#[z.cps.toList[n]]⟩], ?_, ?_, ?_⟩
      · rw [List.length_map, el]
        exact small1000 (by omega)
      · exact fun b o nb e => by
          rw [upd_ne (ne_of_none e nT)]
          exact b4 b o nb (bc b o nb e)
      · obtain ⟨x, y, e, h1, h2⟩ := p4
        refine ⟨x, y, ?_, h1, h2⟩
        rw [upd_ne npT]
        exact e
      · rw [upd_same, List.map_append]
        rfl
      · rw [List.length_append, el]
        rfl
      · intro y hy
        rcases List.mem_append.mp hy with hy | hy
        · exact e1 y hy
        · rw [List.mem_singleton.mp hy]
          exact Tq.sign (List.getElem_mem hn)
    · have e0 : (Str.ofString "").length = 0 := by decide +kernel
      have es := sum_most 1 ys e1
      refine ⟨_, T, ys, rfl, rfl, .inl (SqL.of eT), ?_, q _ _ (b1.trans bc) pc ?_⟩
      · rw [e0]
        omega
      · exact Tq.join ⟨by rw [e0]; exact Nat.le_refl 0, fun c hc => by cases hc⟩ e1 (by omega)
end
end WB

set_option Elab.async false
set_option linter.all false
set_option maxRecDepth 100000
set_option maxHeartbeats 4000000
namespace WB
open PySem PySem.Spec PyProof.Rows L2
open TL (tl)
abbrev st_names : Stmt := topS 8
theorem sc_names : FnScope ["_law_pot_here", "_law_most", "_law_letters", "_law_found", "_law_k", "_law_name"] ["_law_pot_here", "_law_most"] (defScope st_names) := ⟨rfl, rfl, rfl, by decide +kernel, rfl, by decide +kernel, by decide +kernel⟩
section
variable {P : Program} {w : World} {K : PySem.W.Frag} {mg : Str → Option Value} {base : Heap}
theorem names_sets : ∀ y ∈ [Str.ofString "ab", Str.ofString "no-a", Str.ofString "abcdefghijklmnopqrstuvwxyz0123456789-", signs2], 0 < y.length ∧ y.length ≤ 200 ∧ ∀ c ∈ tl y, c < 256 := by decide +kernel
theorem cut_len (x : Str) : (cutS x none (some 13)).length = min 13 x.length := by
  have h := tl_cut_to x 13
  have h2 := congrArg List.length h
  rw [← TL.len_tl, List.length_take, ← TL.len_tl] at h2
  exact h2
theorem cut_pos {x : Str} (h : 0 < x.length) : 0 < (cutS x none (some 13)).length := by
  rw [cut_len]
  omega
theorem cut_le13 (x : Str) : (cutS x none (some 13)).length ≤ 13 := by
  rw [cut_len]
  omega
def spNames : Sp := fun vs H Q _ => ∃ (p : Addr) (m : Int), vs = [.ref p, .int m] ∧ Pot H p ∧ 0 ≤ m ∧ m ≤ 24 ∧ ∀ H' l (ys : List Str), But p H H' → Pot H' p → H l = none → l ≠ p → H' l = some (.lst (ys.map V.str)) → (ys.length : Int) ≤ m → (∀ y ∈ ys, 0 < y.length ∧ Tq B8 13 y) → ys.Nodup → Q (.ref l) H'
theorem ok_names {f fD fS fT : Addr} {fd fdD fdS fdT : FuncData} {k : Nat} (F : Fun K "_law_names" "_law_names" st_names f fd) (D_draw : Df K mg "_law_draw" sDraw ["_law_pot_here", "_law_many"] fD fdD) (D_signs : Df K mg "_law_signs" sSigns [] fS fdS)
    (D_text : Df K mg "_law_text" sText ["_law_pot_here", "_law_most", "_law_signs_here"] fT fdT) (m_divmod : mg "divmod" = none) (m_len : mg "len" = none) (m_range : mg "range" = none) :
    FnOk P w K mg base CX0 (k + 3) f fd ["_law_pot_here", "_law_most"] spNames := by
  have G_draw : FnOk P w K mg base CX0 (k + 2) fD fdD ["_law_pot_here", "_law_many"] spDraw := ok_draw D_draw.F m_divmod
  have G_signs : FnOk P w K mg base CX0 (k + 2) fS fdS [] spSigns := ok_signs D_signs.F
  have G_text : FnOk P w K mg base CX0 (k + 2) fT fdT ["_law_pot_here", "_law_most", "_law_signs_here"] spText := ok_text D_text.F D_draw m_divmod m_len m_range
  refine F.ok sc_names (fun vs H Q E h => ?_) (fun cdv A outer s H vs Q E hr h => ?_)
  · obtain ⟨p, m, rfl, _⟩ := h
    rfl
  · obtain ⟨p, m, rfl, hp, m0, m1, q⟩ := h
    refine ⟨_, pss_cons (ps_set (i := 2) sc_names.nd rfl (.inl rfl) (pe_ix ix_list (pe_lst (pa_cons pe_str (pa_cons pe_str (pa_cons pe_str (pa_cons (pe_call0 G_signs hr (by rfl) D_signs.g D_signs.F.kp D_signs.b .nil pass0) pa_nil))))) (pe_call G_draw hr (by rfl) D_draw.g D_draw.F.kp D_draw.b .nil pass0 (pa_cons (pv 0) (pa_cons pe_int pa_nil))) (fun _ _ => rfl)))
      (pss_cons (ps_set (i := 3) sc_names.nd rfl (.inl rfl) (pe_lst pa_nil))
      (pss_cons (ps_for PassesOwn.never rfl (pi_range1 rfl m_range (pa_cons (pe_call G_draw hr (by rfl) D_draw.g D_draw.F.kp D_draw.b .nil pass0 (pa_cons (pv 0) (pa_cons (pe_op op_add (pv 1) pe_int) pa_nil))) pa_nil)) (pg_name (i := 4) sc_names.nd rfl (Or.inl rfl)) (pss_cons (ps_set (i := 5) sc_names.nd rfl (.inl rfl) (pe_op op_add_str (pe_ix ix_str (pv 2) (pe_call G_draw hr (by rfl) D_draw.g D_draw.F.kp D_draw.b .nil pass0 (pa_cons (pv 0) (pa_cons (pe_callB call_len_str (by rfl) m_len PySem.boot_len (pa_cons (pv 2) pa_nil)) pa_nil))) (fun _ _ => rfl)) (pe_call G_text hr (by rfl) D_text.g D_text.F.kp D_text.b .nil pass0 (pa_cons (pv 0) (pa_cons (pe_ix ix_list (pe_lst (pa_cons pe_int (pa_cons pe_int pa_nil))) (pe_call G_draw hr (by rfl) D_draw.g D_draw.F.kp D_draw.b .nil pass0 (pa_cons (pv 0) (pa_cons pe_int pa_nil))) (fun _ _ => rfl)) (pa_cons (pv 2) pa_nil))))))
      (pss_cons (ps_if (PW.pt (pw_and (pt_cmpR (op_neD hr.units) (pv 3) (pe_lst pa_nil) (nomark _)) (pw_and1 (pt_cmpR op_eq (pe_call G_draw hr (by rfl) D_draw.g D_draw.F.kp D_draw.b .nil pass0 (pa_cons (pv 0) (pa_cons pe_int pa_nil))) pe_int (nomark _))))) (pss_one (ps_set (i := 5) sc_names.nd rfl (.inl rfl) (pe_slice sl_str (pe_op op_add_str (pe_ix ix_list (pv 3) (pe_call G_draw hr (by rfl) D_draw.g D_draw.F.kp D_draw.b .nil pass0 (pa_cons (pv 0) (pa_cons (pe_callB call_len_seq (by rfl) m_len PySem.boot_len (pa_cons (pv 3) pa_nil)) pa_nil))) (fun _ _ => rfl)) (pe_call G_text hr (by rfl) D_text.g D_text.F.kp D_text.b .nil pass0 (pa_cons (pv 0) (pa_cons pe_int (pa_cons (pv 2) pa_nil))))) po_none (po_some pe_int)))) pss_nil)
      (pss_one (ps_if (pt_cmpR op_notIn_seq (pv 5) (pv 3) (by rfl)) (pss_one (ps_expr (pe_bm PySem.F.plainAttrs_list PySem.F.slot_list_append PySem.F.type_list_append mt_append (pv 3) (pa_cons (pv 5) pa_nil)))) pss_nil)))))
      (pss_one (ps_ret (pv 3))))), ?_⟩
    let L4 : List Str := [Str.ofString "ab", Str.ofString "no-a", Str.ofString "abcdefghijklmnopqrstuvwxyz0123456789-", signs2]
    refine ⟨rfl, by show 4 ≤ sizeLine; decide, fun l1 n1 => ?_⟩
    have p1 := hp.new (o := .lst (L4.map V.str)) n1
    have nl1 := hp.ne n1
    refine ⟨.ref p, rfl, p, 4, rfl, p1, by decide, by decide, fun H2 d2 b2 p2 d20 d21 => ?_⟩
    obtain ⟨sg, sgm, sge⟩ := at_strs L4 d2 d20 (by show d2 < 4; exact d21)
    obtain ⟨hz0, hz1, hz2⟩ := names_sets sg sgm
    have bb2 : But p H H2 := (But.new n1).trans b2
    refine ⟨l1, _, d2, .str sg, rfl, rfl, SqL.of (b2 _ _ nl1.symm upd_same), sge, ?_⟩
    refine ⟨Nat.zero_le _, fun l nl => ?_⟩
    have nlp : l ≠ p := (p2.ne nl).symm
    have fr : H l = none := by
      cases e : H l with
      | none => rfl
      | some o =>
        rw [bb2 l o nlp e] at nl
        cases nl
    first | refine go nl fun H3 s3 e3 => ?_ | refine goT nl fun H3 s3 e3 => ?_
    have p3 : Pot H3 p := p2.same s3
    refine ⟨.ref p, rfl, .int m, rfl, m, 1, rfl, rfl, p, m + 1, rfl, p3, by omega, by omega, fun H4 d b4 p4 d0 d1 => ?_⟩
    have hzl : sg.length ≤ sizeLine := Nat.le_trans hz1 (by decide)
    refine ⟨d, rfl, by omega, by omega, for_range (lo := 0) (n := d.toNat) (fun i σ H' => But p H H' ∧ Pot H' p ∧ ∃ (ys : List Str) (x4 x5 : Option V), σ = [some (.ref p), some (.int m), some (.str sg), some (.ref l), x4, x5] ∧ H' l = some (.lst (ys.map V.str)) ∧ ys.length ≤ i ∧ (∀ y ∈ ys, 0 < y.length ∧ Tq B8 13 y) ∧ ys.Nodup)
      ⟨(bb2.trans (But.of_same s3)).trans b4, p4, [], none, none, rfl, b4 _ _ nlp e3, Nat.le_refl 0, (fun y hy => by cases hy), List.nodup_nil⟩ ?_ ?_⟩
    · rintro i σ H5 hi ⟨b5, p5, ys, x4, x5, rfl, el, hlen, hys, hnd⟩
      -- a name
      refine ⟨_, rfl, .ref p, rfl, _, rfl, sg, rfl, hzl, p, sg.length, rfl, p5, by omega, by omega, fun H6 j b6 p6 j0 j1 => ?_⟩
      obtain ⟨n, rfl⟩ := Int.eq_ofNat_of_zero_le j0
      have hn : n < sg.cps.toList.length := by
        have e : sg.cps.toList.length = sg.length := by simp [Str.length]
        omega
      refine ⟨sg, n, sg.cps.toList[n], rfl, rfl, hzl, atI_nat (List.getElem?_eq_getElem hn), ?_⟩
      refine ⟨.ref p, rfl, by decide +kernel, fun l2 n2 => ?_⟩
      have p7 := p6.new (o := .lst ([(2 : Int), 12].map V.int)) n2
      have nl2 := p6.ne n2
      refine ⟨.ref p, rfl, p, 2, rfl, p7, by decide, by decide, fun H8 d8 b8 p8 d80 d81 => ?_⟩
      obtain ⟨mo, mom, moe⟩ := at_ints [(2 : Int), 12] d8 d80 (by show d8 < 2; exact d81)
      have hmo : 0 ≤ mo ∧ mo ≤ 12 := (by decide : ∀ y ∈ [(2 : Int), 12], 0 ≤ y ∧ y ≤ 12) mo mom
      refine ⟨l2, _, d8, .int mo, rfl, rfl, SqL.of (b8 _ _ nl2.symm upd_same), moe, _, rfl, p, mo, sg, rfl, p8, hmo.1, by omega, hz0, hz1, fun H9 y b9 p9 ty => ?_⟩
      have t1 : Tq B8 13 (⟨#[sg.cps.toList[n]]⟩ ++ y : Str) := by
        have h1 : Tq B8 1 (⟨#[sg.cps.toList[n]]⟩ : Str) := Tq.sign (hz2 _ (List.getElem_mem hn))
        have h2 : Tq B8 mo.toNat y := ty.mono (Nat.le_refl _) hz2
        exact (h1.app h2).mono (by omega) (fun _ h => h)
      have t0 : 0 < (⟨#[sg.cps.toList[n]]⟩ ++ y : Str).length := by
        rw [Str.length_append]
        have : (⟨#[sg.cps.toList[n]]⟩ : Str).length = 1 := rfl
        omega
      have bb9 : But p H5 H9 := ((b6.trans (But.new n2)).trans b8).trans b9
      refine ⟨_, y, rfl, rfl, ?_, ?_⟩
      · have := ty.le
        have : (⟨#[sg.cps.toList[n]]⟩ : Str).length = 1 := rfl
        exact Nat.le_of_lt (small1000 (by omega))
      dsimp only [tSeq, tAsg, tC, gName]
      generalize (⟨#[sg.cps.toList[n]]⟩ ++ y : Str) = nm1 at t1 t0
      have el9 : H9 l = some (.lst (ys.map V.str)) := bb9 _ _ nlp el
      refine ts_gen (t := tIfS _ _ _) (fun σ' H' => But p H5 H' ∧ Pot H' p ∧ ∃ nm : Str, 0 < nm.length ∧ Tq B8 13 nm ∧ σ' = [some (.ref p), some (.int m), some (.str sg), some (.ref l), some (.int (0 + (i : Int))), some (.str nm)]) (fun κ c => ?_) ?_
      · refine ⟨.ref l, rfl, Nat.zero_le _, fun a1 m1' => ?_⟩
        first | refine goT m1' fun H10 s10 e10 => ?_ | refine go m1' fun H10 s10 e10 => ?_
        have p10 : Pot H10 p := p9.same s10
        have bb10 : But p H5 H10 := bb9.trans (But.of_same s10)
        have el10 := s10 _ _ el9
        refine ⟨_, _, .lst (SqL.of el10) (dp_strs _), .lst (SqL.of e10) .nil, shaped_strs _ (fun y hy => strOk_of (hys y hy).2.pl), by decide +kernel, _, rfl, ite2 (fun e => ?_) (fun e => ?_)⟩
        · have hne : ys ≠ [] := fun c => by
            rw [eqv_nil, c] at e
            cases e
          refine ⟨.ref p, rfl, p, 3, rfl, p10, by decide, by decide, fun H11 d11 b11 p11 d110 d111 => ⟨rfl, _, rfl, ite2 (fun e => ?_) (fun e => ?_)⟩⟩
          · have el11 := b11 _ _ nlp el10
            have hpos : 0 < ys.length := List.length_pos_iff.mpr hne
            refine ⟨.ref l, rfl, .ref p, rfl, .ref l, rfl, l, _, rfl, .inl (SqL.of el11), p, (ys.map V.str).length, rfl, p11, by rw [List.length_map]; omega, by rw [List.length_map]; omega, fun H12 j12 b12 p12 j120 j121 => ?_⟩
            rw [List.length_map] at j121
            obtain ⟨z, hzm, hze⟩ := at_strs ys j12 j120 j121
            refine ⟨l, _, j12, .str z, rfl, rfl, SqL.of (b12 _ _ nlp el11), hze, ?_⟩
            refine ⟨.ref p, rfl, .str sg, rfl, p, 3, sg, rfl, p12, by decide, by decide, hz0, hz1, fun H13 y13 b13 p13 t13 => ?_⟩
            have tz := (hys z hzm).2
            have t13' : Tq B8 3 y13 := t13.mono (Nat.le_refl _) hz2
            have tall : Tq B8 16 (z ++ y13) := (tz.app t13')
            refine ⟨z, y13, rfl, rfl, Nat.le_of_lt (small1000 (by have := tz.le; have := t13'.le; omega)), 13, rfl, _, rfl, Nat.le_trans tall.le (by decide), ?_⟩
            refine c _ _ ⟨((bb10.trans b11).trans b12).trans b13, p13, cutS (z ++ y13) none (some 13), ?_, ?_, rfl⟩
            · exact cut_pos (by rw [Str.length_append]; have := (hys z hzm).1; omega)
            · exact ⟨cut_le13 _, (tall.cut none (some 13)).pl⟩
          · exact c _ _ ⟨bb10.trans b11, p11, nm1, t0, t1, rfl⟩
        · exact c _ _ ⟨bb10, p10, nm1, t0, t1, rfl⟩
      rintro σ6 H14 ⟨bb14, p14, nm, hn0, tn, rfl⟩
      have el14 := bb14 _ _ nlp el
      refine ⟨_, rfl, .ref l, rfl, l, _, rfl, .inl (SqL.of el14), rfl, strs_flat _, _, rfl, ite2 (fun e => ?_) (fun e => ?_)⟩
      · have hnin : nm ∉ ys := fun c => by
          have e' : (!inV (.str nm) (ys.map V.str)) = true := e
          rw [inV_strs, decide_eq_true c] at e'
          cases e'
        refine ⟨.ref l, rfl, .inl ⟨rfl, _, SqL.of el14⟩, _, rfl, l, _, _, rfl, rfl, el14, by rw [List.length_map]; exact small1000 (by omega), ?_⟩
        refine goU fun H15 u15 e15 => ?_
        refine ⟨fun b o nb e => u15 b o (ne_of_none e fr) (bb14 b o nb (b5 b o nb e)), ?_, ys ++ [nm], _, _, rfl, ?_, ?_, ?_, ?_⟩
        · obtain ⟨x, y, e, h1, h2⟩ := p14
          exact ⟨x, y, u15 _ _ (fun z => nlp z.symm) e, h1, h2⟩
        · rw [e15, List.map_append]
          rfl
        · rw [List.length_append]
          have : [nm].length = 1 := rfl
          omega
        · intro z hz
          rcases List.mem_append.mp hz with h | h
          · exact hys z h
          · rw [List.mem_singleton.mp h]
            exact ⟨hn0, tn⟩
        · exact List.nodup_append.mpr ⟨hnd, List.pairwise_singleton _ _, fun a ha b hb c => hnin (by rw [← List.mem_singleton.mp hb, ← c]; exact ha)⟩
      · exact ⟨b5.trans bb14, p14, ys, _, _, rfl, el14, by omega, hys, hnd⟩
    · rintro σ H5 ⟨b5, p5, ys, x4, x5, rfl, el, hlen, hys, hnd⟩
      exact ⟨_, rfl, q _ l ys b5 p5 fr nlp el (by omega) hys hnd⟩
end
end WB

set_option Elab.async false
set_option linter.all false
set_option maxRecDepth 100000
set_option maxHeartbeats 4000000
namespace WB
open PySem PySem.Spec PyProof.Rows L2
open TL (tl)
abbrev st_beginning : Stmt := topS 9
theorem sc_beginning : FnScope ["_law_pot_here", "_law_names_here", "_law_way", "_law_name"] ["_law_pot_here", "_law_names_here"] (defScope st_beginning) := ⟨rfl, rfl, rfl, by decide +kernel, rfl, by decide +kernel, by decide +kernel⟩
section
variable {P : Program} {w : World} {K : PySem.W.Frag} {mg : Str → Option Value} {base : Heap}
def NmsOk (ys : List Str) : Prop := ys.length ≤ 24 ∧ (∀ y ∈ ys, 0 < y.length ∧ Tq B8 13 y) ∧ ys.Nodup
theorem NmsOk.ok {ys : List Str} (h : NmsOk ys) : ∀ y ∈ ys, PyData.strOk y = true := fun y hy => strOk_of (h.2.1 y hy).2.pl
def spBeg : Sp := fun vs H Q _ => ∃ (p l : Addr) (ys : List Str), vs = [.ref p, .ref l] ∧ Pot H p ∧ l ≠ p ∧ H l = some (.lst (ys.map V.str)) ∧ NmsOk ys ∧ ∀ H' (y : Str), But p H H' → Pot H' p → Tq B8 14 y → Q (.str y) H'
theorem ok_beginning {f fD fT : Addr} {fd fdD fdT : FuncData} {k : Nat} (F : Fun K "_law_beginning" "_law_beginning" st_beginning f fd) (D_draw : Df K mg "_law_draw" sDraw ["_law_pot_here", "_law_many"] fD fdD)
    (D_text : Df K mg "_law_text" sText ["_law_pot_here", "_law_most", "_law_signs_here"] fT fdT) (m_divmod : mg "divmod" = none) (m_len : mg "len" = none) (m_range : mg "range" = none) :
    FnOk P w K mg base CX0 (k + 3) f fd ["_law_pot_here", "_law_names_here"] spBeg := by
  have G_draw : FnOk P w K mg base CX0 (k + 2) fD fdD ["_law_pot_here", "_law_many"] spDraw := ok_draw D_draw.F m_divmod
  have G_text : FnOk P w K mg base CX0 (k + 2) fT fdT ["_law_pot_here", "_law_most", "_law_signs_here"] spText := ok_text D_text.F D_draw m_divmod m_len m_range
  refine F.ok sc_beginning (fun vs H Q E h => ?_) (fun cdv A outer s H vs Q E hr h => ?_)
  · obtain ⟨p, l, ys, rfl, _⟩ := h
    rfl
  · obtain ⟨p, l, ys, rfl, hp, nlp, el, ok, q⟩ := h
    refine ⟨_, pss_cons (ps_set (i := 2) sc_beginning.nd rfl (.inl rfl) (pe_call G_draw hr (by rfl) D_draw.g D_draw.F.kp D_draw.b .nil pass0 (pa_cons (pv 0) (pa_cons pe_int pa_nil))))
      (pss_cons (ps_if (PW.pt (pw_or (pt_cmpR (op_eqD hr.units) (pv 1) (pe_lst pa_nil) (nomark _)) (pw_or1 (pt_cmpR op_eq (pv 2) pe_int (nomark _))))) (pss_one (ps_ret (pe_call G_text hr (by rfl) D_text.g D_text.F.kp D_text.b .nil pass0 (pa_cons (pv 0) (pa_cons pe_int (pa_cons pe_str pa_nil)))))) pss_nil)
      (pss_cons (ps_set (i := 3) sc_beginning.nd rfl (.inl rfl) (pe_ix ix_list (pv 1) (pe_call G_draw hr (by rfl) D_draw.g D_draw.F.kp D_draw.b .nil pass0 (pa_cons (pv 0) (pa_cons (pe_callB call_len_seq (by rfl) m_len PySem.boot_len (pa_cons (pv 1) pa_nil)) pa_nil))) (fun _ _ => rfl)))
      (pss_cons (ps_if (pt_cmpR op_lt (pv 2) pe_int (nomark _)) (pss_one (ps_ret (pe_slice sl_str (pv 3) po_none (po_some (pe_call G_draw hr (by rfl) D_draw.g D_draw.F.kp D_draw.b .nil pass0 (pa_cons (pv 0) (pa_cons (pe_op op_add (pe_callB call_len_str (by rfl) m_len PySem.boot_len (pa_cons (pv 3) pa_nil)) pe_int) pa_nil))))))) pss_nil)
      (pss_one (ps_ret (pe_ix ix_list (pe_lst (pa_cons (pe_op op_add_str (pv 3) pe_str) (pa_cons (pe_slice sl_str (pv 3) (po_some pe_int) po_none) pa_nil))) (pe_op op_sub (pv 2) pe_int) (fun _ _ => rfl))))))), ?_⟩
    obtain ⟨hlen, hys, hnd⟩ := ok
    have five : 0 < (Str.ofString "ab-no").length ∧ (Str.ofString "ab-no").length ≤ 200 ∧ ∀ c ∈ tl (Str.ofString "ab-no"), c < 256 := by decide +kernel
    refine ⟨.ref p, rfl, p, 6, rfl, hp, by decide, by decide, fun H1 way b1 p1 w0 w1 => ?_⟩
    have el1 := b1 _ _ nlp el
    refine ⟨.ref l, rfl, Nat.zero_le _, fun a1 n1 => ?_⟩
    first | refine goT n1 fun H2 s2 e2 => ?_ | refine go n1 fun H2 s2 e2 => ?_
    have p2 : Pot H2 p := p1.same s2
    have bb2 : But p H H2 := b1.trans (But.of_same s2)
    have el2 := s2 _ _ el1
    refine ⟨_, _, .lst (SqL.of el2) (dp_strs _), .lst (SqL.of e2) .nil, shaped_strs _ (fun y hy => strOk_of (hys y hy).2.pl), by decide +kernel, _, rfl, ite2 (fun e => ?_) (fun e => ?_)⟩
    · exact ⟨.ref p, rfl, p, 5, _, rfl, p2, by decide, by decide, five.1, five.2.1, fun H3 y b3 p3 ty => q _ _ (bb2.trans b3) p3 (ty.mono (by decide) five.2.2)⟩
    have hne : ys ≠ [] := fun c => e (by rw [eqv_nil, c]; rfl)
    refine ⟨_, rfl, rfl, _, rfl, ite2 (fun e => ?_) (fun e => ?_)⟩
    · exact ⟨.ref p, rfl, p, 5, _, rfl, p2, by decide, by decide, five.1, five.2.1, fun H3 y b3 p3 ty => q _ _ (bb2.trans b3) p3 (ty.mono (by decide) five.2.2)⟩
    have hpos : 0 < ys.length := List.length_pos_iff.mpr hne
    refine ⟨.ref l, rfl, .ref p, rfl, .ref l, rfl, l, _, rfl, .inl (SqL.of el2), p, (ys.map V.str).length, rfl, p2, by rw [List.length_map]; omega, by rw [List.length_map]; omega, fun H3 j b3 p3 j0 j1 => ?_⟩
    rw [List.length_map] at j1
    obtain ⟨z, hzm, hze⟩ := at_strs ys j j0 j1
    obtain ⟨hz0, tz⟩ := hys z hzm
    have hzl : z.length ≤ sizeLine := Nat.le_trans tz.le (by decide)
    have h13 := tz.le
    refine ⟨l, _, j, .str z, rfl, rfl, SqL.of (b3 _ _ nlp el2), hze, ?_⟩
    refine ⟨_, rfl, way, 4, rfl, rfl, _, rfl, ite2 (fun e => ?_) (fun e => ?_)⟩
    · refine ⟨.str z, rfl, .ref p, rfl, .str z, rfl, z, rfl, hzl, _, 1, rfl, rfl, p, (z.length : Int) + 1, rfl, p3, by omega, by omega, fun H4 j4 b4 p4 j40 j41 => ?_⟩
      exact ⟨j4, rfl, z, rfl, hzl, q _ _ ((bb2.trans b3).trans b4) p4 ((tz.cut none (some j4)).mono (by decide) (fun _ h => h))⟩
    have hw : ¬ way < 4 := fun c => e (decide_eq_true c)
    have la : (Str.ofString "a").length = 1 := by decide +kernel
    have ta : Tq B8 1 (Str.ofString "a") := ⟨by rw [la]; exact Nat.le_refl 1, by decide +kernel⟩
    refine ⟨.str z, rfl, z, _, rfl, rfl, Nat.le_of_lt (small1000 (by rw [la]; omega)), .str z, rfl, 1, rfl, z, rfl, hzl, by show 2 ≤ sizeLine; decide, fun l2 n2 => ?_⟩
    refine ⟨.int way, rfl, way, 4, rfl, rfl, ?_⟩
    have hh : way = 4 ∨ way = 5 := by omega
    rcases hh with rfl | rfl
    · exact ⟨l2, _, _, _, rfl, rfl, SqL.of upd_same, atI_nat (j := 0) rfl, q _ _ ((bb2.trans b3).trans (But.new n2)) (p3.new n2) (tz.app ta)⟩
    · exact ⟨l2, _, _, _, rfl, rfl, SqL.of upd_same, atI_nat (j := 1) rfl, q _ _ ((bb2.trans b3).trans (But.new n2)) (p3.new n2) ((tz.cut (some 1) none).mono (by decide) (fun _ h => h))⟩
end
end WB

set_option Elab.async false
set_option linter.all false
set_option maxRecDepth 100000
set_option maxHeartbeats 4000000
namespace WB
open PySem PySem.Spec PyProof.Rows L2
open TL (tl)
/-! ### one way to be sorted -/
def leS (a b : Str) : Prop := ¬ b.cps.toList < a.cps.toList
theorem leS_anti {a b : Str} (h : leS a b) (k : leS b a) : a = b := by
  have e : a.cps.toList = b.cps.toList := List.le_antisymm (List.not_lt.mp h) (List.not_lt.mp k)
  cases a; cases b
  exact congrArg Str.mk (Array.toList_inj.mp e)
theorem leS_trans {a b c : Str} (h : leS a b) (k : leS b c) : leS a c := List.not_lt.mpr (List.le_trans (List.not_lt.mp h) (List.not_lt.mp k))
theorem rising_all : ∀ (l : List Str) (p : Str), risingS p l = true → (∀ x ∈ l, leS p x) ∧ l.Pairwise leS
  | [], p, _ => ⟨fun x hx => (by cases hx), .nil⟩
  | y :: r, p, h => by
    have h' : (!ltCps y.cps.toList p.cps.toList && risingS y r) = true := h
    obtain ⟨h1, h2⟩ := Bool.and_eq_true_iff.mp h'
    have py : leS p y := by
      rw [ltCps_eq] at h1
      intro c
      rw [decide_eq_true c] at h1
      cases h1
    obtain ⟨k1, k2⟩ := rising_all r y h2
    refine ⟨fun x hx => ?_, .cons k1 k2⟩
    rcases List.mem_cons.mp hx with e | e
    · rw [e]
      exact py
    · exact leS_trans py (k1 x e)
theorem sorted_pw {l : List Str} (h : sortedS l = true) : l.Pairwise leS := by
  cases l with
  | nil => exact .nil
  | cons x r =>
    obtain ⟨k1, k2⟩ := rising_all r x h
    exact .cons k1 k2
theorem pw_eq : ∀ {l m : List Str}, l.Perm m → l.Pairwise leS → m.Pairwise leS → l = m
  | [], m, h, _, _ => by rw [List.nil_perm.mp h]
  | a :: r, [], h, _, _ => by cases List.perm_nil.mp h
  | a :: r, b :: t, h, k1, k2 => by
    obtain ⟨a1, a2⟩ := List.pairwise_cons.mp k1
    obtain ⟨b1, b2⟩ := List.pairwise_cons.mp k2
    have e : a = b := by
      rcases List.mem_cons.mp (h.mem_iff.mp List.mem_cons_self : a ∈ b :: t) with e | e
      · exact e
      · rcases List.mem_cons.mp (h.mem_iff.mpr List.mem_cons_self : b ∈ a :: r) with e2 | e2
        · exact e2.symm
        · exact leS_anti (a1 b e2) (b1 a e)
    subst e
    rw [pw_eq (List.perm_cons a |>.mp h) a2 b2]
theorem sorted_one {l m : List Str} (h : l.Perm m) (k1 : sortedS l = true) (k2 : sortedS m = true) : l = m := pw_eq h (sorted_pw k1) (sorted_pw k2)
/-! ### what a beginning means -/
def begins (b y : Str) : Bool := decide ((tl y).take b.length = tl b)
/-- out is what b means of the names -/
def Means (ys : List Str) (b : Str) (out : List Str) : Prop :=
  if b = Str.ofString "" then out = [] else if b ∈ ys then out = [b] else out.Perm (ys.filter (begins b)) ∧ sortedS out = true
theorem Means.one {ys : List Str} {b : Str} {o1 o2 : List Str} (h : Means ys b o1) (k : Means ys b o2) : o1 = o2 := by
  unfold Means at h k
  split at h
  · rename_i e
    rw [if_pos e] at k
    rw [h, k]
  · rename_i e
    rw [if_neg e] at k
    split at h
    · rename_i e2
      rw [if_pos e2] at k
      rw [h, k]
    · rename_i e2
      rw [if_neg e2] at k
      exact sorted_one (h.1.trans k.1.symm) h.2 k.2
theorem Means.perm {ys zs : List Str} {b : Str} {o : List Str} (h : Means ys b o) (p : ys.Perm zs) : Means zs b o := by
  unfold Means at h ⊢
  split at h
  · rename_i e
    rw [if_pos e]
    exact h
  · rename_i e
    rw [if_neg e]
    split at h
    · rename_i e2
      rw [if_pos (p.mem_iff.mp e2)]
      exact h
    · rename_i e2
      rw [if_neg (fun c => e2 (p.mem_iff.mpr c))]
      exact ⟨h.1.trans (p.filter _), h.2⟩
abbrev st_w_meant : Stmt := topS 10
theorem sc_w_meant : FnScope ["_law_names_here", "_law_beginning_here", "_law_name"] ["_law_names_here", "_law_beginning_here"] (defScope st_w_meant) := ⟨rfl, rfl, rfl, by decide +kernel, rfl, by decide +kernel, by decide +kernel⟩
section
variable {P : Program} {w : World} {K : PySem.W.Frag} {mg : Str → Option Value} {base : Heap}
def spLMeant : Sp := fun vs H Q _ => ∃ (l : Addr) (ys : List Str) (b : Str), vs = [.ref l, .str b] ∧ H l = some (.lst (ys.map V.str)) ∧ NmsOk ys ∧ Tq B8 14 b ∧ ∀ H' o out, Same H H' → H o = none → H' o = some (.lst (out.map V.str)) → Means ys b out → Q (.ref o) H'
theorem ok_lmeant {f : Addr} {fd : FuncData} {k : Nat} (F : Fun K "_law_meant" "_law_meant" st_w_meant f fd) (m_len : mg "len" = none) (m_sorted : mg "sorted" = none) :
    FnOk P w K mg base CX0 (k + 1) f fd ["_law_names_here", "_law_beginning_here"] spLMeant := by
  refine F.ok sc_w_meant (fun vs H Q E h => ?_) (fun cdv A outer s H vs Q E hr h => ?_)
  · obtain ⟨l, ys, b, rfl, _⟩ := h
    rfl
  · obtain ⟨l, ys, b, rfl, el, ok, tb, q⟩ := h
    refine ⟨_, pss_cons (ps_if (pt_cmpR op_eq (pv 1) pe_str (nomark _)) (pss_one (ps_ret (pe_lst pa_nil))) pss_nil)
      (pss_cons (ps_if (pt_cmpR op_in_seq (pv 1) (pv 0) (by rfl)) (pss_one (ps_ret (pe_lst (pa_cons (pv 1) pa_nil)))) pss_nil)
      (pss_one (ps_ret (pe_callB cr_sortedS (by rfl) m_sorted (by decide +kernel) (pa_cons (pe_lc (own := [("_law_name", 2)]) (g := gName 2) rfl sc_w_meant.nd (pi_list (pv 0)) (blkOk_by (N := ["_law_names_here", "_law_beginning_here", "_law_name"]) (sc := defScope st_w_meant) (by decide +kernel)) (fun _ _ _ _ _ => (pg_name (i := 2) sc_w_meant.nd rfl (Or.inl rfl))) (fun _ _ _ _ _ => pts_one (pt_cmpR op_eq (pe_slice sl_str (pv 2) po_none (po_some (pe_callB call_len_str (by rfl) m_len PySem.boot_len (pa_cons (pv 1) pa_nil)))) (pv 1) (nomark _))) (fun _ _ _ _ _ => (pv 2))) pa_nil))))), ?_⟩
    refine ⟨_, rfl, rfl, _, rfl, ite2 (fun e => ?_) (fun e => ?_)⟩
    · have eb : b = Str.ofString "" := V.str.inj (of_decide_eq_true e)
      refine ⟨Nat.zero_le _, fun o no => ?_⟩
      exact q _ o [] (same_upd no) no upd_same (by unfold Means; rw [if_pos eb])
    have nb : b ≠ Str.ofString "" := fun c => e (decide_eq_true (by rw [c]))
    refine ⟨_, rfl, .ref l, rfl, l, _, rfl, .inl (SqL.of el), rfl, strs_flat _, _, rfl, ite2 (fun e => ?_) (fun e => ?_)⟩
    · have hm : b ∈ ys := by
        have e' : inV (.str b) (ys.map V.str) = true := e
        rw [inV_strs] at e'
        exact of_decide_eq_true e'
      refine ⟨_, rfl, by show 1 ≤ sizeLine; decide, fun o no => ?_⟩
      exact q _ o [b] (same_upd no) no upd_same (by unfold Means; rw [if_neg nb, if_pos hm])
    have hm : b ∉ ys := fun c => e (by
      show inV (.str b) (ys.map V.str) = true
      rw [inV_strs]
      exact decide_eq_true c)
    refine ⟨.ref l, rfl, l, rfl, ⟨_, SqL.of el⟩, fun D nD => ?_⟩
    refine lc_list (K := K) (a := l) (xs := ys.map V.str) (fun i Hc => Same H Hc ∧ Hc D = some (.lst (((ys.take i).filter (begins b)).map V.str))) ⟨same_upd nD, upd_same⟩ (fun i Hc _ ⟨sc, _⟩ => SqL.of (sc _ _ el)) (fun i x Hc hx ⟨sc, eD⟩ => ?_) (fun Hc ⟨sc, eD⟩ => ?_)
    · rw [List.getElem?_map] at hx
      obtain ⟨z, ez, rfl⟩ := Option.map_eq_some_iff.mp hx
      have hzl : z.length ≤ sizeLine := Nat.le_trans (ok.2.1 z (List.mem_of_getElem? ez)).2.le (by decide)
      have hbl : b.length ≤ sizeLine := Nat.le_trans tb.le (by decide)
      have etk : ys.take (i + 1) = ys.take i ++ [z] := by
        rw [List.take_add_one, ez]
        rfl
      refine ⟨rfl, .str z, rfl, .str b, rfl, b, rfl, hbl, _, rfl, z, rfl, hzl, .str b, rfl, rfl, _, rfl, ?_⟩
      have ed : decide (V.str (cutS z none (some (b.length : Int))) = V.str b) = begins b z := by
        unfold begins
        refine decide_eq_decide.mpr ⟨fun h => ?_, fun h => ?_⟩
        · rw [← tl_cut_to, V.str.inj h]
        · rw [← tl_cut_to] at h
          exact congrArg V.str (str_ext h)
      rw [ed]
      cases hb : begins b z with
      | true =>
        refine ⟨_, rfl, _, eD, ?_, ?_, ?_⟩
        · rw [List.length_map]
          refine Nat.lt_of_le_of_lt (List.length_filter_le _ _) ?_
          rw [List.length_take]
          exact small1000 (Nat.le_trans (Nat.min_le_right _ _) (Nat.le_trans ok.1 (by decide)))
        · intro a o e
          rw [upd_ne (ne_of_none e nD)]
          exact sc a o e
        · rw [upd_same, etk, List.filter_append, List.filter_cons_of_pos hb, List.filter_nil, List.map_append]
          rfl
      | false =>
        refine ⟨sc, ?_⟩
        rw [etk, List.filter_append, List.filter_cons_of_neg (by rw [hb]; decide), List.filter_nil, List.append_nil]
        exact eD
    · rw [List.length_map, List.take_length] at eD
      refine ⟨D, _, rfl, SqL.of eD, ?_, fun out o hp hs no => ?_⟩
      · exact Nat.lt_of_le_of_lt (List.length_filter_le _ _) (by have := ok.1; omega)
      · refine q _ o out (sc.trans (same_upd no)) (sc.free no) upd_same ?_
        unfold Means
        rw [if_neg nb, if_neg hm]
        exact ⟨hp, hs⟩
end
end WB

set_option Elab.async false
set_option linter.all false
set_option maxRecDepth 100000
set_option maxHeartbeats 4000000
namespace WB
open PySem PySem.Spec PyProof.Rows L2
open TL (tl)
abbrev st_right : Stmt := topS 11
theorem sc_right : FnScope ["_law_names_here", "_law_beginning_here", "_law_due", "_law_handed", "_law_kept", "_law_found"] ["_law_names_here", "_law_beginning_here"] (defScope st_right) := ⟨rfl, rfl, rfl, by decide +kernel, rfl, by decide +kernel, by decide +kernel⟩
section
variable {P : Program} {w : World} {K : PySem.W.Frag} {mg : Str → Option Value} {base : Heap}
theorem Means.ok {ys : List Str} {b : Str} {out : List Str} (h : Means ys b out) (hy : NmsOk ys) (tb : Tq B8 14 b) : ∀ y ∈ out, PyData.strOk y = true := by
  intro y hm
  unfold Means at h
  split at h
  · rw [h] at hm
    cases hm
  · split at h
    · rw [h] at hm
      rw [List.mem_singleton.mp hm]
      exact strOk_of tb.pl
    · exact hy.ok y (List.mem_filter.mp (h.1.mem_iff.mp hm)).1
theorem Means.len {ys : List Str} {b : Str} {out : List Str} (h : Means ys b out) (hy : NmsOk ys) : out.length ≤ 24 := by
  unfold Means at h
  split at h
  · rw [h]
    exact Nat.zero_le _
  · split at h
    · rw [h]
      exact (by decide : 1 ≤ 24)
    · rw [h.1.length_eq]
      exact Nat.le_trans (List.length_filter_le _ _) hy.1
theorem NmsOk.perm {ys zs : List Str} (h : NmsOk ys) (p : ys.Perm zs) : NmsOk zs := ⟨by rw [← p.length_eq]; exact h.1, fun y hy => h.2.1 y (p.mem_iff.mpr hy), p.nodup_iff.mp h.2.2⟩
def spRight : Sp := fun vs H Q _ => ∃ (l : Addr) (ys : List Str) (b : Str), vs = [.ref l, .str b] ∧ H l = some (.lst (ys.map V.str)) ∧ NmsOk ys ∧ Tq B8 14 b ∧ ∀ H', Same H H' → Q (.bl true) H'
theorem ok_right {f fW fM : Addr} {fd fdW fdM : FuncData} {sM : Stmt} {k : Nat} (F : Fun K "_law_right" "_law_right" st_right f fd) (D_w_meant : Df K mg "_law_meant" st_w_meant ["_law_names_here", "_law_beginning_here"] fW fdW)
    (D_meant : Df K mg "meant" sM ["names", "beginning"] fM fdM) (G_meant : FnOk P w K mg base CX0 (k + 2) fM fdM ["names", "beginning"] spLMeant) (m_len : mg "len" = none) (m_sorted : mg "sorted" = none) (m_list : mg "list" = none) (m_isinstance : mg "isinstance" = none) :
    FnOk P w K mg base CX0 (k + 3) f fd ["_law_names_here", "_law_beginning_here"] spRight := by
  have G_w_meant : FnOk P w K mg base CX0 (k + 2) fW fdW ["_law_names_here", "_law_beginning_here"] spLMeant := ok_lmeant D_w_meant.F m_len m_sorted
  refine F.ok sc_right (fun vs H Q E h => ?_) (fun cdv A outer s H vs Q E hr h => ?_)
  · obtain ⟨l, ys, b, rfl, _⟩ := h
    rfl
  · obtain ⟨l, ys, b, rfl, el, ok, tb, q⟩ := h
    refine ⟨_, pss_cons (ps_set (i := 2) sc_right.nd rfl (.inl rfl) (pe_call G_w_meant hr (by rfl) D_w_meant.g D_w_meant.F.kp D_w_meant.b .nil pass0 (pa_cons (pv 0) (pa_cons (pv 1) pa_nil))))
      (pss_cons (ps_for PassesOwn.never rfl (pi_list (pe_lst (pa_cons (pe_callTy call_list_of (by rfl) m_list (by decide +kernel) (pa_cons (pv 0) pa_nil)) (pa_cons (pe_revL (pv 0)) pa_nil)))) (pg_name (i := 3) sc_right.nd rfl (Or.inl rfl)) (pss_cons (ps_set (i := 4) sc_right.nd rfl (.inl rfl) (pe_callTy call_list_of (by rfl) m_list (by decide +kernel) (pa_cons (pv 3) pa_nil)))
      (pss_cons (ps_set (i := 5) sc_right.nd rfl (.inl rfl) (pe_call G_meant hr (by rfl) D_meant.g D_meant.F.kp D_meant.b .nil pass0 (pa_cons (pv 3) (pa_cons (pv 1) pa_nil))))
      (pss_cons (ps_if (PW.pt (pw_or (pt_not (pt_val (pe_callB call_isi (by rfl) m_isinstance (by decide +kernel) (pa_cons (pv 5) (pa_cons (pe_bltn (v := .ty "list") (by rfl) m_list (by decide +kernel) rfl) pa_nil))))) (pw_or (pt_cmpR (op_neD hr.units) (pv 5) (pv 2) (nomark _)) (pw_or1 (pt_cmpR (op_neD hr.units) (pv 3) (pv 4) (nomark _)))))) (pss_one (ps_ret pe_bl)) pss_nil)
      (pss_cons (ps_expr (pe_bm PySem.F.plainAttrs_list PySem.F.slot_list_append PySem.F.type_list_append mt_append (pv 5) (pa_cons pe_str pa_nil)))
      (pss_one (ps_if (PW.pt (pw_or (pt_cmpR (op_neD hr.units) (pe_call G_meant hr (by rfl) D_meant.g D_meant.F.kp D_meant.b .nil pass0 (pa_cons (pv 3) (pa_cons (pv 1) pa_nil))) (pv 2) (nomark _)) (pw_or1 (pt_cmpR (op_neD hr.units) (pv 3) (pv 4) (nomark _))))) (pss_one (ps_ret pe_bl)) pss_nil)))))))
      (pss_one (ps_ret pe_bl))), ?_⟩
    refine ⟨.ref l, rfl, .str b, rfl, l, ys, b, rfl, el, ok, tb, fun H1 o due s1 no eo hdue => ?_⟩
    refine ⟨.ref l, rfl, l, _, rfl, .inl (SqL.of (s1 _ _ el)), fun h1 n1 => ?_⟩
    first | refine go n1 fun H2 s2 e2 => ?_ | refine goT n1 fun H2 s2 e2 => ?_
    refine ⟨.ref l, rfl, l, _, rfl, SqL.of (s2 _ _ (s1 _ _ el)), fun h2 n2 => ?_⟩
    first | refine go n2 fun H3 s3 e3 => ?_ | refine goT n2 fun H3 s3 e3 => ?_
    refine ⟨by show 2 ≤ sizeLine; decide, fun L nL => ?_⟩
    have s4' : Same H3 (upd H3 L (.lst [V.ref h1, V.ref h2])) := same_upd nL
    have e4' : (upd H3 L (.lst [V.ref h1, V.ref h2])) L = some (.lst [V.ref h1, V.ref h2]) := upd_same
    revert s4' e4'
    generalize upd H3 L (.lst [V.ref h1, V.ref h2]) = H4
    intro s4 e4
    have S4 : Same H H4 := ((s1.trans s2).trans s3).trans s4
    have eo4 : H4 o = some (.lst (due.map V.str)) := s4 _ _ (s3 _ _ (s2 _ _ eo))
    have at_ : ∀ (i : Nat) (x : V), [V.ref h1, V.ref h2][i]? = some x → ∃ (h : Addr) (zs : List Str), x = .ref h ∧ H4 h = some (.lst (zs.map V.str)) ∧ ys.Perm zs := by
      intro i x hx
      match i, hx with
      | 0, hx => exact ⟨h1, ys, (Option.some.inj hx).symm, s4 _ _ (s3 _ _ e2), List.Perm.refl _⟩
      | 1, hx => exact ⟨h2, ys.reverse, (Option.some.inj hx).symm, by rw [List.map_reverse]; exact s4 _ _ e3, (List.reverse_perm ys).symm⟩
      | i + 2, hx => cases hx
    refine ⟨L, rfl, ⟨_, SqL.of e4⟩, for_list (K := K) (a := L) (xs := [V.ref h1, V.ref h2]) (fun i σ H' => Same H4 H' ∧ ∃ x3 x4 x5, σ = [some (.ref l), some (.str b), some (.ref o), x3, x4, x5]) ⟨Same.refl _, none, none, none, rfl⟩ (fun i σ H' _ ⟨sm, _⟩ => SqL.of (sm _ _ e4)) ?_ ?_⟩
    · rintro i x σ H5 hx ⟨sm, x3, x4, x5, rfl⟩
      obtain ⟨h, zs, rfl, eh, hp⟩ := at_ i x hx
      have okz := ok.perm hp
      have eh5 := sm _ _ eh
      refine ⟨.ref h, rfl, h, _, rfl, .inl (SqL.of eh5), fun kp nk => ?_⟩
      first | refine go nk fun H6 s6 e6 => ?_ | refine goT nk fun H6 s6 e6 => ?_
      refine ⟨.ref h, rfl, .str b, rfl, h, zs, b, rfl, s6 _ _ eh5, okz, tb, fun H7 fo out s7 nf ef hm => ?_⟩
      have eod : out = due := (hm.perm hp.symm).one hdue
      subst eod
      have okd := hdue.ok ok tb
      have S7 : Same H4 H7 := (sm.trans s6).trans s7
      have eh7 := S7 _ _ eh
      have ek7 := s7 _ _ e6
      have eo7 := S7 _ _ eo4
      refine ⟨.ref fo, rfl, .ref fo, _, _, _, true, rfl, ClsV.ty "list", TyX.base (TyOf.lst ef), kit_ty (show kitB "list" "list" = some true from by decide +kernel), _, rfl, ?_⟩
      refine ⟨.ref fo, rfl, .ref o, rfl, _, _, .lst (SqL.of ef) (dp_strs _), .lst (SqL.of eo7) (dp_strs _), shaped_strs _ okd, shaped_strs _ okd, _, rfl, ?_⟩
      rw [eqv_strs, decide_eq_true rfl]
      refine ⟨.ref h, rfl, .ref kp, rfl, _, _, .lst (SqL.of eh7) (dp_strs _), .lst (SqL.of ek7) (dp_strs _), shaped_strs _ okz.ok, shaped_strs _ okz.ok, _, rfl, ?_⟩
      rw [eqv_strs, decide_eq_true rfl]
      refine ⟨.ref fo, rfl, .inl ⟨rfl, _, SqL.of ef⟩, fo, _, _, rfl, rfl, ef, by rw [List.length_map]; exact small1000 (Nat.le_trans (hdue.len ok) (by decide)), ?_⟩
      refine goU fun H8 u8 e8 => ?_
      have S8 : Same H4 H8 := fun a' o' e' => u8 _ _ (ne_of_none ((sm.trans s6) _ _ e') nf) (S7 _ _ e')
      have eh8 := S8 _ _ eh
      have ek8 : H8 kp = some (.lst (zs.map V.str)) := u8 _ _ (ne_of_none e6 nf) ek7
      have eo8 := S8 _ _ eo4
      refine ⟨.ref h, rfl, .str b, rfl, h, zs, b, rfl, eh8, okz, tb, fun H9 f2 out2 s9 nf2 ef2 hm2 => ?_⟩
      have eod2 : out2 = out := (hm2.perm hp.symm).one hdue
      subst eod2
      refine ⟨.ref o, rfl, _, _, .lst (SqL.of ef2) (dp_strs _), .lst (SqL.of (s9 _ _ eo8)) (dp_strs _), shaped_strs _ okd, shaped_strs _ okd, _, rfl, ?_⟩
      rw [eqv_strs, decide_eq_true rfl]
      refine ⟨.ref h, rfl, .ref kp, rfl, _, _, .lst (SqL.of (s9 _ _ eh8)) (dp_strs _), .lst (SqL.of (s9 _ _ ek8)) (dp_strs _), shaped_strs _ okz.ok, shaped_strs _ okz.ok, _, rfl, ?_⟩
      rw [eqv_strs, decide_eq_true rfl]
      exact ⟨S8.trans s9, _, _, _, rfl⟩
    · rintro σ H5 ⟨sm, x3, x4, x5, rfl⟩
      exact q _ (S4.trans sm)
end
end WB

set_option Elab.async false
set_option linter.all false
set_option maxRecDepth 100000
set_option maxHeartbeats 4000000
namespace WB
open PySem PySem.Spec PyProof.Rows L2
open TL (tl)
abbrev st_law : Stmt := topS 12
theorem sc_law : FnScope ["_law_script", "_law_k", "_law_pot_here", "_law_names_here", "_law_turn"] ["_law_script"] (defScope st_law) := ⟨rfl, rfl, rfl, by decide +kernel, rfl, by decide +kernel, by decide +kernel⟩
section
variable {P : Program} {w : World} {K : PySem.W.Frag} {mg : Str → Option Value} {base : Heap}
def spLaw (K : PySem.W.Frag) : Sp := fun vs H Q _ => ∃ (a : Addr) (ns : List Int), vs = [.ref a] ∧ SqL K H a (ns.map V.int) ∧ ns.length ≤ 63 ∧ ∀ H', Q (.bl true) H'
theorem ok_law {f fC fP fD fS fT fN fB fR fW fM : Addr} {fd fdC fdP fdD fdS fdT fdN fdB fdR fdW fdM : FuncData} {sM : Stmt} {k : Nat} (F : Fun K "law" "law" st_law f fd)
    (D_cell : Df K mg "_law_cell" sCell ["_law_script", "_law_k"] fC fdC) (D_pot : Df K mg "_law_pot" sPot ["_law_script", "_law_k"] fP fdP) (D_draw : Df K mg "_law_draw" sDraw ["_law_pot_here", "_law_many"] fD fdD)
    (D_signs : Df K mg "_law_signs" sSigns [] fS fdS) (D_text : Df K mg "_law_text" sText ["_law_pot_here", "_law_most", "_law_signs_here"] fT fdT) (D_names : Df K mg "_law_names" st_names ["_law_pot_here", "_law_most"] fN fdN)
    (D_beginning : Df K mg "_law_beginning" st_beginning ["_law_pot_here", "_law_names_here"] fB fdB) (D_right : Df K mg "_law_right" st_right ["_law_names_here", "_law_beginning_here"] fR fdR) (D_w_meant : Df K mg "_law_meant" st_w_meant ["_law_names_here", "_law_beginning_here"] fW fdW)
    (D_meant : Df K mg "meant" sM ["names", "beginning"] fM fdM) (G_meant : FnOk P w K mg base CX0 (k + 2) fM fdM ["names", "beginning"] spLMeant)
    (m_len : mg "len" = none) (m_max : mg "max" = none) (m_min : mg "min" = none) (m_divmod : mg "divmod" = none) (m_range : mg "range" = none) (m_sorted : mg "sorted" = none) (m_list : mg "list" = none) (m_isinstance : mg "isinstance" = none) :
    FnOk P w K mg base CX0 (k + 4) f fd ["_law_script"] (spLaw K) := by
  have G_pot : FnOk P w K mg base CX0 (k + 3) fP fdP ["_law_script", "_law_k"] (spPot K) := ok_pot D_pot.F D_cell m_len m_max
  have G_names : FnOk P w K mg base CX0 (k + 3) fN fdN ["_law_pot_here", "_law_most"] spNames := ok_names D_names.F D_draw D_signs D_text m_divmod m_len m_range
  have G_beginning : FnOk P w K mg base CX0 (k + 3) fB fdB ["_law_pot_here", "_law_names_here"] spBeg := ok_beginning D_beginning.F D_draw D_text m_divmod m_len m_range
  have G_right : FnOk P w K mg base CX0 (k + 3) fR fdR ["_law_names_here", "_law_beginning_here"] spRight := ok_right D_right.F D_w_meant D_meant G_meant m_len m_sorted m_list m_isinstance
  refine F.ok sc_law (fun vs H Q E h => ?_) (fun cdv A outer s H vs Q E hr h => ?_)
  · obtain ⟨a, ns, rfl, _⟩ := h
    rfl
  · obtain ⟨a, ns, rfl, hS, hlen, q⟩ := h
    refine ⟨_, pss_cons (ps_for PassesOwn.never rfl (pi_range1 rfl m_range (pa_cons (pe_callB (call_max2 rfl) (by rfl) m_max (by decide +kernel) (pa_cons pe_int (pa_cons (pe_callB (call_min2 rfl) (by rfl) m_min (by decide +kernel) (pa_cons (pe_callB call_len_seq (by rfl) m_len PySem.boot_len (pa_cons (pv 0) pa_nil)) (pa_cons pe_int pa_nil))) pa_nil))) pa_nil)) (pg_name (i := 1) sc_law.nd rfl (Or.inl rfl)) (pss_cons (ps_set (i := 2) sc_law.nd rfl (.inl rfl) (pe_call G_pot hr (by rfl) D_pot.g D_pot.F.kp D_pot.b .nil pass0 (pa_cons (pv 0) (pa_cons (pv 1) pa_nil))))
      (pss_cons (ps_set (i := 3) sc_law.nd rfl (.inl rfl) (pe_call G_names hr (by rfl) D_names.g D_names.F.kp D_names.b .nil pass0 (pa_cons (pv 2) (pa_cons pe_int pa_nil))))
      (pss_cons (ps_for PassesOwn.never rfl (pi_range1 rfl m_range (pa_cons pe_int pa_nil)) (pg_name (i := 4) sc_law.nd rfl (Or.inl rfl)) (pss_one (ps_if (pt_not (pt_val (pe_call G_right hr (by rfl) D_right.g D_right.F.kp D_right.b .nil pass0 (pa_cons (pv 3) (pa_cons (pe_call G_beginning hr (by rfl) D_beginning.g D_beginning.F.kp D_beginning.b .nil pass0 (pa_cons (pv 2) (pa_cons (pv 3) pa_nil))) pa_nil))))) (pss_one (ps_ret pe_bl)) pss_nil)))
      (pss_one (ps_if (pt_not (pt_val (pe_call G_right hr (by rfl) D_right.g D_right.F.kp D_right.b .nil pass0 (pa_cons (pv 3) (pa_cons pe_str pa_nil))))) (pss_one (ps_ret pe_bl)) pss_nil))))))
      (pss_one (ps_ret pe_bl)), ?_⟩
    refine ⟨.ref a, rfl, a, _, rfl, .inl hS, _, 12, rfl, 1, _, rfl, _, rfl, ?_, ?_, for_range (lo := 0) (n := _) (fun i σ H' => Same H H' ∧ ∃ x1 x2 x3 x4, σ = [some (.ref a), x1, x2, x3, x4])
      ⟨Same.refl _, none, none, none, none, rfl⟩ ?_ ?_⟩
    · split <;> split <;> omega
    · split <;> split <;> omega
    · rintro i σ H0 hi ⟨sm, x1, x2, x3, x4, rfl⟩
      refine ⟨.ref a, rfl, .int (0 + (i : Int)), rfl, a, ns, _, rfl, sm.seq hS, by omega, fun H1 p s1 np p1 => ?_⟩
      refine ⟨.ref p, rfl, p, 24, rfl, p1, by decide, by decide, fun H2 l ys b2 p2 nl nlp el hl hys hnd => ?_⟩
      have ok : NmsOk ys := ⟨by omega, hys, hnd⟩
      have S2 : Same H0 H2 := fun b o e => b2 b o (ne_of_none e np) (s1 b o e)
      refine ⟨6, rfl, by decide, by decide, for_range (lo := 0) (n := 6) (fun j σ H' => Same H0 H' ∧ Pot H' p ∧ H' l = some (.lst (ys.map V.str)) ∧ ∃ y4, σ = [some (.ref a), some (.int (0 + (i : Int))), some (.ref p), some (.ref l), y4])
        ⟨S2, p2, el, x4, rfl⟩ ?_ ?_⟩
      · rintro j σ H3 hj ⟨sm3, p3, el3, y4, rfl⟩
        refine ⟨.ref l, rfl, .ref p, rfl, .ref l, rfl, p, l, ys, rfl, p3, nlp, el3, ok, fun H4 y b4 p4 ty => ?_⟩
        refine ⟨l, ys, y, rfl, b4 _ _ nlp el3, ok, ty, fun H5 s5 => ?_⟩
        refine ⟨_, rfl, ?_⟩
        exact ⟨fun b o e => s5 _ _ (b4 b o (ne_of_none e np) (sm3 b o e)), p4.same s5, s5 _ _ (b4 _ _ nlp el3), _, rfl⟩
      · rintro σ H3 ⟨sm3, p3, el3, y4, rfl⟩
        refine ⟨.ref l, rfl, l, ys, _, rfl, el3, ok, ⟨by decide +kernel, by decide +kernel⟩, fun H5 s5 => ?_⟩
        refine ⟨_, rfl, ?_⟩
        exact ⟨sm.trans (sm3.trans s5), _, _, _, _, rfl⟩
    · rintro σ H0 ⟨sm, x1, x2, x3, x4, rfl⟩
      exact q _
end
end WB

set_option Elab.async false
set_option linter.all false
set_option maxRecDepth 100000
set_option maxHeartbeats 4000000
namespace WB
open PySem PySem.Spec PyProof.Rows L2
open TL (tl)
theorem starts_begins (y b : Str) : Txt.startswith y b = begins b y := by
  unfold Txt.startswith begins
  rw [StrLaws.subAt_eq, List.drop_zero]
  by_cases h : b.length ≤ y.length
  · rw [decide_eq_true (show 0 + b.length ≤ y.length by omega), Bool.true_and]
    by_cases e : (tl y).take b.length = tl b
    · rw [decide_eq_true e]
      exact beq_iff_eq.mpr e
    · rw [decide_eq_false e]
      exact beq_eq_false_iff_ne.mpr e
  · rw [decide_eq_false (show ¬ 0 + b.length ≤ y.length by omega), Bool.false_and]
    refine (decide_eq_false fun e => ?_).symm
    have z := congrArg List.length e
    rw [List.length_take, ← TL.len_tl, ← TL.len_tl] at z
    omega
abbrev st_meant : Stmt := topS 1
theorem sc_meant : FnScope ["names", "beginning", "name"] ["names", "beginning"] (defScope st_meant) := ⟨rfl, rfl, rfl, by decide +kernel, rfl, by decide +kernel, by decide +kernel⟩
section
variable {P : Program} {w : World} {K : PySem.W.Frag} {mg : Str → Option Value} {base : Heap}
theorem ok_meant {f : Addr} {fd : FuncData} {k : Nat} (F : Fun K "meant" "meant" st_meant f fd) (m_sorted : mg "sorted" = none) :
    FnOk P w K mg base CX0 (k + 1) f fd ["names", "beginning"] spLMeant := by
  refine F.ok sc_meant (fun vs H Q E h => ?_) (fun cdv A outer s H vs Q E hr h => ?_)
  · obtain ⟨l, ys, b, rfl, _⟩ := h
    rfl
  · obtain ⟨l, ys, b, rfl, el, ok, tb, q⟩ := h
    refine ⟨_, pss_cons (ps_if (pt_cmpR op_eq (pv 1) pe_str (nomark _)) (pss_one (ps_ret (pe_lst pa_nil))) pss_nil)
      (pss_cons (ps_if (pt_cmpR op_in_seq (pv 1) (pv 0) (by rfl)) (pss_one (ps_ret (pe_lst (pa_cons (pv 1) pa_nil)))) pss_nil)
      (pss_one (ps_ret (pe_callB cr_sortedS (by rfl) m_sorted (by decide +kernel) (pa_cons (pe_lc (own := [("name", 2)]) (g := gName 2) rfl sc_meant.nd (pi_list (pv 0)) (blkOk_by (N := ["names", "beginning", "name"]) (sc := defScope st_meant) (by decide +kernel)) (fun _ _ _ _ _ => (pg_name (i := 2) sc_meant.nd rfl (Or.inl rfl))) (fun _ _ _ _ _ => pts_one (pt_val (pe_m1 PySem.F.slot_str_startswith PySem.F.type_str_startswith mt_startswith (pv 2) (pv 1)))) (fun _ _ _ _ _ => (pv 2))) pa_nil))))), ?_⟩
    refine ⟨_, rfl, rfl, _, rfl, ite2 (fun e => ?_) (fun e => ?_)⟩
    · have eb : b = Str.ofString "" := V.str.inj (of_decide_eq_true e)
      refine ⟨Nat.zero_le _, fun o no => ?_⟩
      exact q _ o [] (same_upd no) no upd_same (by unfold Means; rw [if_pos eb])
    have nb : b ≠ Str.ofString "" := fun c => e (decide_eq_true (by rw [c]))
    refine ⟨_, rfl, .ref l, rfl, l, _, rfl, .inl (SqL.of el), rfl, strs_flat _, _, rfl, ite2 (fun e => ?_) (fun e => ?_)⟩
    · have hm : b ∈ ys := by
        have e' : inV (.str b) (ys.map V.str) = true := e
        rw [inV_strs] at e'
        exact of_decide_eq_true e'
      refine ⟨_, rfl, by show 1 ≤ sizeLine; decide, fun o no => ?_⟩
      exact q _ o [b] (same_upd no) no upd_same (by unfold Means; rw [if_neg nb, if_pos hm])
    have hm : b ∉ ys := fun c => e (by
      show inV (.str b) (ys.map V.str) = true
      rw [inV_strs]
      exact decide_eq_true c)
    refine ⟨.ref l, rfl, l, rfl, ⟨_, SqL.of el⟩, fun D nD => ?_⟩
    refine lc_list (K := K) (a := l) (xs := ys.map V.str) (fun i Hc => Same H Hc ∧ Hc D = some (.lst (((ys.take i).filter (begins b)).map V.str))) ⟨same_upd nD, upd_same⟩ (fun i Hc _ ⟨sc, _⟩ => SqL.of (sc _ _ el)) (fun i x Hc hx ⟨sc, eD⟩ => ?_) (fun Hc ⟨sc, eD⟩ => ?_)
    · rw [List.getElem?_map] at hx
      obtain ⟨z, ez, rfl⟩ := Option.map_eq_some_iff.mp hx
      have etk : ys.take (i + 1) = ys.take i ++ [z] := by
        rw [List.take_add_one, ez]
        rfl
      refine ⟨rfl, .str z, rfl, ⟨_, rfl⟩, .str b, rfl, z, b, rfl, rfl, _, rfl, ?_⟩
      rw [starts_begins]
      cases hb : begins b z with
      | true =>
        refine ⟨_, rfl, _, eD, ?_, ?_, ?_⟩
        · rw [List.length_map]
          refine Nat.lt_of_le_of_lt (List.length_filter_le _ _) ?_
          rw [List.length_take]
          exact small1000 (Nat.le_trans (Nat.min_le_right _ _) (Nat.le_trans ok.1 (by decide)))
        · intro a o e
          rw [upd_ne (ne_of_none e nD)]
          exact sc a o e
        · rw [upd_same, etk, List.filter_append, List.filter_cons_of_pos hb, List.filter_nil, List.map_append]
          rfl
      | false =>
        refine ⟨sc, ?_⟩
        rw [etk, List.filter_append, List.filter_cons_of_neg (by rw [hb]; decide), List.filter_nil, List.append_nil]
        exact eD
    · rw [List.length_map, List.take_length] at eD
      refine ⟨D, _, rfl, SqL.of eD, ?_, fun out o hp hs no => ?_⟩
      · exact Nat.lt_of_le_of_lt (List.length_filter_le _ _) (by have := ok.1; omega)
      · refine q _ o out (sc.trans (same_upd no)) (sc.free no) upd_same ?_
        unfold Means
        rw [if_neg nb, if_neg hm]
        exact ⟨hp, hs⟩
end
end WB

set_option Elab.async false
set_option linter.all false
set_option maxRecDepth 100000
set_option maxHeartbeats 4000000
namespace WB
open PySem PySem.Spec PyProof.Rows L2
open TL (tl)
theorem df_mk {K : PySem.W.Frag} {h : Heap} {mg : Str → Option Value} {x : Str} {st : Stmt} {ps : List Str} {f : Addr} {oc : Value} {od an : Option Addr} {osl : Array (Option Value)} {kV doc pm cdv ct : Value} (X : K.In h) (G : h.Ns mainGlobals mg)
    (a : PySem.W.nsIn K mainGlobals x = some (some (.ref f))) (l : K.lookup f = some ⟨oc, od, .func (PySem.W.fnOf x x (defArgs st) (defBody st) (defScope st) .none kV doc pm an cdv ct), osl⟩)
    (c : PySem.W.codeIn K cdv x = true) (k : PySem.W.keepIn K (.ref f) = true)
    (b : ∀ (kV doc pm : Value) (an : Option Addr) (cdv ct : Value) (us : List Value), us.length = ps.length → bindArgs (PySem.W.fnOf x x (defArgs st) (defBody st) (defScope st) .none kV doc pm an cdv ct) ⟨us, []⟩ = pure (ps.zip us)) :
    Df K mg x st ps f (PySem.W.fnOf x x (defArgs st) (defBody st) (defScope st) .none kV doc pm an cdv ct) := by
  have F := fun_mk (st := st) l c k
  exact ⟨F, F.binds b, PySem.W.mg_of X G a⟩
theorem all_mk {l : PySem.W.OpenLaw} {w : World} {K : PySem.W.Frag} {h : Heap} {mg : Str → Option Value} {fa : Addr} (X : K.In h) (G : h.Ns mainGlobals mg) (hfa : mg "law" = some (.ref fa))
    {fCell : Addr} {odCell anCell : Option Addr} {slCell : Array (Option Value)} {ocCell kVCell dcCell pmCell cdCell ctCell : Value} {fPot : Addr} {odPot anPot : Option Addr} {slPot : Array (Option Value)} {ocPot kVPot dcPot pmPot cdPot ctPot : Value} {fDraw : Addr} {odDraw anDraw : Option Addr} {slDraw : Array (Option Value)} {ocDraw kVDraw dcDraw pmDraw cdDraw ctDraw : Value} {fSigns : Addr} {odSigns anSigns : Option Addr} {slSigns : Array (Option Value)} {ocSigns kVSigns dcSigns pmSigns cdSigns ctSigns : Value} {fText : Addr} {odText anText : Option Addr} {slText : Array (Option Value)} {ocText kVText dcText pmText cdText ctText : Value} {fNames : Addr} {odNames anNames : Option Addr} {slNames : Array (Option Value)} {ocNames kVNames dcNames pmNames cdNames ctNames : Value} {fBeg : Addr} {odBeg anBeg : Option Addr} {slBeg : Array (Option Value)} {ocBeg kVBeg dcBeg pmBeg cdBeg ctBeg : Value} {fRight : Addr} {odRight anRight : Option Addr} {slRight : Array (Option Value)} {ocRight kVRight dcRight pmRight cdRight ctRight : Value} {fWMeant : Addr} {odWMeant anWMeant : Option Addr} {slWMeant : Array (Option Value)} {ocWMeant kVWMeant dcWMeant pmWMeant cdWMeant ctWMeant : Value} {fMeant : Addr} {odMeant anMeant : Option Addr} {slMeant : Array (Option Value)} {ocMeant kVMeant dcMeant pmMeant cdMeant ctMeant : Value} {fLaw : Addr} {odLaw anLaw : Option Addr} {slLaw : Array (Option Value)} {ocLaw kVLaw dcLaw pmLaw cdLaw ctLaw : Value}
    (aCell : PySem.W.nsIn K mainGlobals "_law_cell" = some (some (.ref fCell)))
    (lCell : K.lookup fCell = some ⟨ocCell, odCell, .func (PySem.W.fnOf "_law_cell" "_law_cell" (defArgs sCell) (defBody sCell) (defScope sCell) .none kVCell dcCell pmCell anCell cdCell ctCell), slCell⟩)
    (cCell : PySem.W.codeIn K cdCell "_law_cell" = true)
    (kCell : PySem.W.keepIn K (.ref fCell) = true)
    (aPot : PySem.W.nsIn K mainGlobals "_law_pot" = some (some (.ref fPot)))
    (lPot : K.lookup fPot = some ⟨ocPot, odPot, .func (PySem.W.fnOf "_law_pot" "_law_pot" (defArgs sPot) (defBody sPot) (defScope sPot) .none kVPot dcPot pmPot anPot cdPot ctPot), slPot⟩)
    (cPot : PySem.W.codeIn K cdPot "_law_pot" = true)
    (kPot : PySem.W.keepIn K (.ref fPot) = true)
    (aDraw : PySem.W.nsIn K mainGlobals "_law_draw" = some (some (.ref fDraw)))
    (lDraw : K.lookup fDraw = some ⟨ocDraw, odDraw, .func (PySem.W.fnOf "_law_draw" "_law_draw" (defArgs sDraw) (defBody sDraw) (defScope sDraw) .none kVDraw dcDraw pmDraw anDraw cdDraw ctDraw), slDraw⟩)
    (cDraw : PySem.W.codeIn K cdDraw "_law_draw" = true)
    (kDraw : PySem.W.keepIn K (.ref fDraw) = true)
    (aSigns : PySem.W.nsIn K mainGlobals "_law_signs" = some (some (.ref fSigns)))
    (lSigns : K.lookup fSigns = some ⟨ocSigns, odSigns, .func (PySem.W.fnOf "_law_signs" "_law_signs" (defArgs sSigns) (defBody sSigns) (defScope sSigns) .none kVSigns dcSigns pmSigns anSigns cdSigns ctSigns), slSigns⟩)
    (cSigns : PySem.W.codeIn K cdSigns "_law_signs" = true)
    (kSigns : PySem.W.keepIn K (.ref fSigns) = true)
    (aText : PySem.W.nsIn K mainGlobals "_law_text" = some (some (.ref fText)))
    (lText : K.lookup fText = some ⟨ocText, odText, .func (PySem.W.fnOf "_law_text" "_law_text" (defArgs sText) (defBody sText) (defScope sText) .none kVText dcText pmText anText cdText ctText), slText⟩)
    (cText : PySem.W.codeIn K cdText "_law_text" = true)
    (kText : PySem.W.keepIn K (.ref fText) = true)
    (aNames : PySem.W.nsIn K mainGlobals "_law_names" = some (some (.ref fNames)))
    (lNames : K.lookup fNames = some ⟨ocNames, odNames, .func (PySem.W.fnOf "_law_names" "_law_names" (defArgs st_names) (defBody st_names) (defScope st_names) .none kVNames dcNames pmNames anNames cdNames ctNames), slNames⟩)
    (cNames : PySem.W.codeIn K cdNames "_law_names" = true)
    (kNames : PySem.W.keepIn K (.ref fNames) = true)
    (aBeg : PySem.W.nsIn K mainGlobals "_law_beginning" = some (some (.ref fBeg)))
    (lBeg : K.lookup fBeg = some ⟨ocBeg, odBeg, .func (PySem.W.fnOf "_law_beginning" "_law_beginning" (defArgs st_beginning) (defBody st_beginning) (defScope st_beginning) .none kVBeg dcBeg pmBeg anBeg cdBeg ctBeg), slBeg⟩)
    (cBeg : PySem.W.codeIn K cdBeg "_law_beginning" = true)
    (kBeg : PySem.W.keepIn K (.ref fBeg) = true)
    (aRight : PySem.W.nsIn K mainGlobals "_law_right" = some (some (.ref fRight)))
    (lRight : K.lookup fRight = some ⟨ocRight, odRight, .func (PySem.W.fnOf "_law_right" "_law_right" (defArgs st_right) (defBody st_right) (defScope st_right) .none kVRight dcRight pmRight anRight cdRight ctRight), slRight⟩)
    (cRight : PySem.W.codeIn K cdRight "_law_right" = true)
    (kRight : PySem.W.keepIn K (.ref fRight) = true)
    (aWMeant : PySem.W.nsIn K mainGlobals "_law_meant" = some (some (.ref fWMeant)))
    (lWMeant : K.lookup fWMeant = some ⟨ocWMeant, odWMeant, .func (PySem.W.fnOf "_law_meant" "_law_meant" (defArgs st_w_meant) (defBody st_w_meant) (defScope st_w_meant) .none kVWMeant dcWMeant pmWMeant anWMeant cdWMeant ctWMeant), slWMeant⟩)
    (cWMeant : PySem.W.codeIn K cdWMeant "_law_meant" = true)
    (kWMeant : PySem.W.keepIn K (.ref fWMeant) = true)
    (aMeant : PySem.W.nsIn K mainGlobals "meant" = some (some (.ref fMeant)))
    (lMeant : K.lookup fMeant = some ⟨ocMeant, odMeant, .func (PySem.W.fnOf "meant" "meant" (defArgs st_meant) (defBody st_meant) (defScope st_meant) .none kVMeant dcMeant pmMeant anMeant cdMeant ctMeant), slMeant⟩)
    (cMeant : PySem.W.codeIn K cdMeant "meant" = true)
    (kMeant : PySem.W.keepIn K (.ref fMeant) = true)
    (z_len : PySem.W.nsIn K mainGlobals "len" = some none)
    (z_max : PySem.W.nsIn K mainGlobals "max" = some none)
    (z_min : PySem.W.nsIn K mainGlobals "min" = some none)
    (z_divmod : PySem.W.nsIn K mainGlobals "divmod" = some none)
    (z_range : PySem.W.nsIn K mainGlobals "range" = some none)
    (z_sorted : PySem.W.nsIn K mainGlobals "sorted" = some none)
    (z_list : PySem.W.nsIn K mainGlobals "list" = some none)
    (z_isinstance : PySem.W.nsIn K mainGlobals "isinstance" = some none)
    (aLaw : PySem.W.nsIn K mainGlobals "law" = some (some (.ref fLaw)))
    (lLaw : K.lookup fLaw = some ⟨ocLaw, odLaw, .func (PySem.W.fnOf "law" "law" (defArgs st_law) (defBody st_law) (defScope st_law) .none kVLaw dcLaw pmLaw anLaw cdLaw ctLaw), slLaw⟩)
    (cLaw : PySem.W.codeIn K cdLaw "law" = true)
    (kLaw : PySem.W.keepIn K (.ref fLaw) = true) :
    ∃ fd : FuncData, (∀ (s : Shared) (v : Value), BindsTo s fd ⟨[v], []⟩ [("_law_script", v)]) ∧ ∀ base : Heap, K.In base → base.Ns mainGlobals mg → FnOk l.prog w K mg base CX0 4 fa fd ["_law_script"] (spLaw K) := by
  have e := hfa.symm.trans (PySem.W.mg_of X G aLaw)
  cases e
  have g0 : ∀ {x : Str}, PySem.W.nsIn K mainGlobals x = some none → mg x = none := fun {x} z => PySem.W.mg_none_of X G z
  have DCell := df_mk (st := sCell) (ps := ["_law_script", "_law_k"]) X G aCell lCell cCell kCell fun _ _ _ _ _ _ us hl => match us, hl with | [_, _], _ => rfl
  have DPot := df_mk (st := sPot) (ps := ["_law_script", "_law_k"]) X G aPot lPot cPot kPot fun _ _ _ _ _ _ us hl => match us, hl with | [_, _], _ => rfl
  have DDraw := df_mk (st := sDraw) (ps := ["_law_pot_here", "_law_many"]) X G aDraw lDraw cDraw kDraw fun _ _ _ _ _ _ us hl => match us, hl with | [_, _], _ => rfl
  have DSigns := df_mk (st := sSigns) (ps := []) X G aSigns lSigns cSigns kSigns fun _ _ _ _ _ _ us hl => match us, hl with | [], _ => rfl
  have DText := df_mk (st := sText) (ps := ["_law_pot_here", "_law_most", "_law_signs_here"]) X G aText lText cText kText fun _ _ _ _ _ _ us hl => match us, hl with | [_, _, _], _ => rfl
  have DNames := df_mk (st := st_names) (ps := ["_law_pot_here", "_law_most"]) X G aNames lNames cNames kNames fun _ _ _ _ _ _ us hl => match us, hl with | [_, _], _ => rfl
  have DBeg := df_mk (st := st_beginning) (ps := ["_law_pot_here", "_law_names_here"]) X G aBeg lBeg cBeg kBeg fun _ _ _ _ _ _ us hl => match us, hl with | [_, _], _ => rfl
  have DRight := df_mk (st := st_right) (ps := ["_law_names_here", "_law_beginning_here"]) X G aRight lRight cRight kRight fun _ _ _ _ _ _ us hl => match us, hl with | [_, _], _ => rfl
  have DWMeant := df_mk (st := st_w_meant) (ps := ["_law_names_here", "_law_beginning_here"]) X G aWMeant lWMeant cWMeant kWMeant fun _ _ _ _ _ _ us hl => match us, hl with | [_, _], _ => rfl
  have DMeant := df_mk (st := st_meant) (ps := ["names", "beginning"]) X G aMeant lMeant cMeant kMeant fun _ _ _ _ _ _ us hl => match us, hl with | [_, _], _ => rfl
  have FLaw := fun_mk (st := st_law) lLaw cLaw kLaw
  refine ⟨PySem.W.fnOf "law" "law" (defArgs st_law) (defBody st_law) (defScope st_law) .none kVLaw dcLaw pmLaw anLaw cdLaw ctLaw, fun s v => ?_, fun base _ _ => ?_⟩
  · exact .of_eq rfl
  · exact ok_law FLaw DCell DPot DDraw DSigns DText DNames DBeg DRight DWMeant DMeant (ok_meant DMeant.F (g0 z_sorted)) (g0 z_len) (g0 z_max) (g0 z_min) (g0 z_divmod) (g0 z_range) (g0 z_sorted) (g0 z_list) (g0 z_isinstance)
end WB

open PySem PySem.W PyProof.Rows
set_option maxRecDepth 100000
set_option Elab.async false
set_option maxHeartbeats 0 in
theorem PySem.Challenge.cw_wordbench_k23_what_is_meant_holds : PySem.Challenge.rw_wordbench_k23_what_is_meant.Holds := by
  w_on; o_law; k_head; (case hw => w_witness2)
  k_fill
  refine L2.walk_of (l := PySem.Challenge.rw_wordbench_k23_what_is_meant) (n := 63) (k := 4) (x := "_law_script") (CX := fun _ => L2.CX0) (sp := fun w => WB.spLaw _) rfl (by decide) rfl ⟨rfl, by decide, by decide⟩ (fun w h Y => PySem.W.kIn_of Y) ?F (fun _ _ a ns hl _ hS => ⟨a, ns, rfl, hS, hl, fun _ => rfl⟩) (fun _ _ _ _ _ h => h)
  case F =>
    intro w mg fa h KX G hmg
    refine' WB.all_mk KX G hmg ?aCell ?lCell ?cCell ?kCell ?aPot ?lPot ?cPot ?kPot ?aDraw ?lDraw ?cDraw ?kDraw ?aSigns ?lSigns ?cSigns ?kSigns ?aText ?lText ?cText ?kText ?aNames ?lNames ?cNames ?kNames ?aBeg ?lBeg ?cBeg ?kBeg ?aRight ?lRight ?cRight ?kRight ?aWMeant ?lWMeant ?cWMeant ?kWMeant ?aMeant ?lMeant ?cMeant ?kMeant ?z_len ?z_max ?z_min ?z_divmod ?z_range ?z_sorted ?z_list ?z_isinstance ?aLaw ?lLaw ?cLaw ?kLaw
    (case aCell => k_is)
    (case lCell => k_is)
    (case cCell => k_is)
    (case kCell => k_is)
    (case aPot => k_is)
    (case lPot => k_is)
    (case cPot => k_is)
    (case kPot => k_is)
    (case aDraw => k_is)
    (case lDraw => k_is)
    (case cDraw => k_is)
    (case kDraw => k_is)
    (case aSigns => k_is)
    (case lSigns => k_is)
    (case cSigns => k_is)
    (case kSigns => k_is)
    (case aText => k_is)
    (case lText => k_is)
    (case cText => k_is)
    (case kText => k_is)
    (case aNames => k_is)
    (case lNames => k_is)
    (case cNames => k_is)
    (case kNames => k_is)
    (case aBeg => k_is)
    (case lBeg => k_is)
    (case cBeg => k_is)
    (case kBeg => k_is)
    (case aRight => k_is)
    (case lRight => k_is)
    (case cRight => k_is)
    (case kRight => k_is)
    (case aWMeant => k_is)
    (case lWMeant => k_is)
    (case cWMeant => k_is)
    (case kWMeant => k_is)
    (case aMeant => k_is)
    (case lMeant => k_is)
    (case cMeant => k_is)
    (case kMeant => k_is)
    (case z_len => k_is)
    (case z_max => k_is)
    (case z_min => k_is)
    (case z_divmod => k_is)
    (case z_range => k_is)
    (case z_sorted => k_is)
    (case z_list => k_is)
    (case z_isinstance => k_is)
    (case aLaw => k_is)
    (case lLaw => k_is)
    (case cLaw => k_is)
    (case kLaw => k_is)
