import PyProof.Rows.All
import Wide.All
import OpenK.AllK
import Wide.FinOn
import PySem.Challenge.RW_wordbench_k91_whole_filled
import HandS.ForMost
import HandS.IsInst
import HandS.Defaults
import HandS.MakeKwOnly
import HandS.MakeKw
set_option Elab.async false
set_option linter.all false
set_option maxRecDepth 100000
set_option maxHeartbeats 4000000
namespace WB
open PySem PySem.Spec PyProof.Rows L2
open TL (tl)
def topS (i : Nat) : Stmt := PySem.Challenge.pw_wordbench_k91_whole_filled.main.body.getD i (.Pass ⟨0, 0, 0, 0⟩)
abbrev st_cell : Stmt := topS 3
theorem sc_cell : FnScope ["_law_script", "_law_k"] ["_law_script", "_law_k"] (defScope st_cell) := ⟨rfl, rfl, rfl, by decide +kernel, rfl, by decide +kernel, by decide +kernel⟩
abbrev st_pot : Stmt := topS 4
theorem sc_pot : FnScope ["_law_script", "_law_k", "_law_cell_here"] ["_law_script", "_law_k"] (defScope st_pot) := ⟨rfl, rfl, rfl, by decide +kernel, rfl, by decide +kernel, by decide +kernel⟩
abbrev st_take : Stmt := topS 5
theorem sc_take : FnScope ["_law_pot_here", "_law_room", "_law_digit"] ["_law_pot_here", "_law_room"] (defScope st_take) := ⟨rfl, rfl, rfl, by decide +kernel, rfl, by decide +kernel, by decide +kernel⟩
abbrev sCell := st_cell
abbrev sPot := st_pot
abbrev sTake := st_take
abbrev scCell := sc_cell
abbrev scPot := sc_pot
abbrev scTake := sc_take
/-- a def of the top: its object, how it binds, its name -/
structure Df (K : PySem.W.Frag) (mg : Str → Option Value) (x : Str) (st : Stmt) (ps : List Str) (f : Addr) (fd : FuncData) : Prop where
  F : Fun K x x st f fd
  b : Binds K fd ps []
  g : mg x = some (.ref f)
/-! ### heaps -/
theorem same_upd {H : Hp} {p : Addr} {o : HO} (h : H p = none) : Same H (upd H p o) := fun b x e => by
  rw [upd_ne (ne_of_none e h)]
  exact e
/-- all that was tracked but at p is as it was -/
def But (p : Addr) (H H' : Hp) : Prop := ∀ b o, b ≠ p → H b = some o → H' b = some o
theorem But.refl (p : Addr) (H : Hp) : But p H H := fun _ _ _ h => h
theorem But.trans {p : Addr} {H H1 H2 : Hp} (a : But p H H1) (b : But p H1 H2) : But p H H2 := fun c o n h => b c o n (a c o n h)
theorem But.of_same {p : Addr} {H H' : Hp} (a : Same H H') : But p H H' := fun c o _ h => a c o h
theorem But.upd (p : Addr) (H : Hp) (o : HO) : But p H (upd H p o) := fun c u n h => by
  rw [upd_ne n]
  exact h
theorem But.new {p : Addr} {H : Hp} {q : Addr} {o : HO} (h : H q = none) : But p H (L2.upd H q o) := But.of_same (same_upd h)
/-- at p a pot stands -/
def Pot (H : Hp) (p : Addr) : Prop := ∃ a b : Int, H p = some (.lst [.int a, .int b]) ∧ 0 ≤ b ∧ b < 2147483648
theorem Pot.some {H : Hp} {p : Addr} (h : Pot H p) : ∃ o, H p = some o := by
  obtain ⟨a, b, e, _⟩ := h
  exact ⟨_, e⟩
theorem Pot.ne {H : Hp} {p q : Addr} (h : Pot H p) (n : H q = none) : p ≠ q := by
  obtain ⟨a, b, e, _⟩ := h
  exact ne_of_none e n
theorem Pot.new {H : Hp} {p q : Addr} {o : HO} (h : Pot H p) (n : H q = none) : Pot (L2.upd H q o) p := by
  have ne := h.ne n
  obtain ⟨a, b, e, h1, h2⟩ := h
  refine ⟨a, b, ?_, h1, h2⟩
  rw [upd_ne ne]
  exact e
/-! ### texts of some signs -/
structure Tq (p : Nat → Prop) (n : Nat) (y : Str) : Prop where
  le : y.length ≤ n
  pl : ∀ c ∈ tl y, p c
theorem Tq.mono {p q : Nat → Prop} {n m : Nat} {y : Str} (h : Tq p n y) (e : n ≤ m) (f : ∀ c, p c → q c) : Tq q m y := ⟨Nat.le_trans h.le e, fun c hc => f c (h.pl c hc)⟩
theorem Tq.app {p : Nat → Prop} {n m : Nat} {x y : Str} (h : Tq p n x) (k : Tq p m y) : Tq p (n + m) (x ++ y) := by
  refine ⟨?_, fun c hc => ?_⟩
  · rw [Str.length_append]
    exact Nat.add_le_add h.le k.le
  · rw [TL.tl_append] at hc
    exact (List.mem_append.mp hc).elim (h.pl c) (k.pl c)
theorem Tq.cut {p : Nat → Prop} {n : Nat} {x : Str} (h : Tq p n x) (lo hi : Option Int) : Tq p n (cutS x lo hi) := by
  refine ⟨Nat.le_trans (cutS_length x lo hi) h.le, fun c hc => h.pl c ?_⟩
  have e : c ∈ (x.cps.toList.drop _).take _ := hc
  exact List.mem_of_mem_drop (List.mem_of_mem_take e)
theorem Tq.sign {p : Nat → Prop} {c : Nat} (h : p c) : Tq p 1 ⟨#[c]⟩ := by
  refine ⟨Nat.le_refl 1, fun d hd => ?_⟩
  have e : d ∈ [c] := hd
  rw [List.mem_singleton.mp e]
  exact h
theorem mem_joinL (S : List Nat) : ∀ (ps : List (List Nat)) (c : Nat), c ∈ TL.joinL S ps → c ∈ S ∨ ∃ p ∈ ps, c ∈ p
  | [], c, h => by cases h
  | [p], c, h => .inr ⟨p, List.mem_singleton.mpr rfl, h⟩
  | p :: q :: r, c, h => by
    rcases List.mem_append.mp (show c ∈ p ++ (S ++ TL.joinL S (q :: r)) from h) with h | h
    · exact .inr ⟨p, List.mem_cons_self, h⟩
    · rcases List.mem_append.mp h with h | h
      · exact .inl h
      · rcases mem_joinL S (q :: r) c h with h | ⟨p', hp, hc⟩
        · exact .inl h
        · exact .inr ⟨p', List.mem_cons_of_mem _ hp, hc⟩
theorem sum_most {p : Nat → Prop} (m : Nat) : ∀ ys : List Str, (∀ y ∈ ys, Tq p m y) → (ys.map (·.length)).sum ≤ ys.length * m
  | [], _ => Nat.zero_le _
  | y :: r, h => by
    have h1 := sum_most m r fun z hz => h z (List.mem_cons_of_mem _ hz)
    have h2 := (h y List.mem_cons_self).le
    rw [List.map_cons, List.sum_cons, List.length_cons, Nat.succ_mul]
    omega
theorem Tq.join {p : Nat → Prop} {sep : Str} {k m n : Nat} {ys : List Str} (hs : Tq p k sep) (h : ∀ y ∈ ys, Tq p m y) (hn : ys.length * m + ys.length * k ≤ n) : Tq p n (Txt.join sep ys) := by
  refine ⟨?_, fun c hc => ?_⟩
  · rw [TL.join_eq]
    have e := StrLaws.join_length_le sep ys
    have e2 := sum_most m ys h
    have e3 : ys.length * sep.length ≤ ys.length * k := Nat.mul_le_mul_left _ hs.le
    omega
  · rw [TL.join_eq, TL.tl_join] at hc
    rcases mem_joinL _ _ c hc with h1 | ⟨p, hp, h1⟩
    · exact hs.pl c h1
    · obtain ⟨y, hy, rfl⟩ := List.mem_map.mp hp
      exact (h y hy).pl c h1
section
variable {P : Program} {w : World} {K : PySem.W.Frag} {mg : Str → Option Value} {base : Heap}
/-! ### _law_cell -/
def spCell (K : PySem.W.Frag) : Sp := fun vs H Q _ => ∃ (a : Addr) (ns : List Int) (k : Int), vs = [.ref a, .int k] ∧ SqL K H a (ns.map V.int) ∧ 0 ≤ k ∧ ∀ z : Int, Q (.int z) H
theorem ok_cell {f : Addr} {fd : FuncData} {k : Nat} (F : Fun K "_law_cell" "_law_cell" sCell f fd) (mL : mg "len" = none) : FnOk P w K mg base CX0 (k + 1) f fd ["_law_script", "_law_k"] (spCell K) := by
  refine F.ok scCell (fun vs H Q E h => ?_) (fun cdv A outer s H vs Q E hr h => ?_)
  · obtain ⟨a, ns, k, rfl, _⟩ := h
    rfl
  · obtain ⟨a, ns, k, rfl, hS, hk, q⟩ := h
    refine ⟨_, pss_one (ps_ret (pe_ifExp (pt_cmpR op_lt (pv 1) (pe_callB call_len_seq (by rfl) mL PySem.boot_len (pa_cons (pv 0) pa_nil)) (nomark _)) (pe_ix ix_list (pv 0) (pv 1) (fun _ _ => rfl)) pe_int)), ?_⟩
    refine ⟨.int k, rfl, .ref a, rfl, a, _, rfl, .inl hS, k, _, rfl, rfl, _, rfl, ite2 (fun e => ?_) (fun e => q 0)⟩
    have e1 := of_decide_eq_true e
    obtain ⟨n, rfl⟩ := Int.eq_ofNat_of_zero_le hk
    rw [List.length_map] at e1
    have hn : n < ns.length := by omega
    exact ⟨.ref a, rfl, .int n, rfl, a, _, _, .int ns[n], rfl, rfl, hS, atI_nat (j := n) (by rw [List.getElem?_map, List.getElem?_eq_getElem hn]; rfl), q _⟩
/-! ### _law_pot -/
def spPot (K : PySem.W.Frag) : Sp := fun vs H Q _ => ∃ (a : Addr) (ns : List Int) (k : Int), vs = [.ref a, .int k] ∧ SqL K H a (ns.map V.int) ∧ 0 ≤ k ∧ k ≤ 1000 ∧
  ∀ H' p, Same H H' → H p = none → Pot H' p → Q (.ref p) H'
theorem ok_pot {f fC : Addr} {fd fdC : FuncData} {k : Nat} (F : Fun K "_law_pot" "_law_pot" sPot f fd) (C : Df K mg "_law_cell" sCell ["_law_script", "_law_k"] fC fdC) (mL : mg "len" = none) (mM : mg "max" = none) (mA : mg "abs" = none) :
    FnOk P w K mg base CX0 (k + 2) f fd ["_law_script", "_law_k"] (spPot K) := by
  have GC : FnOk P w K mg base CX0 (k + 1) fC fdC ["_law_script", "_law_k"] (spCell K) := ok_cell C.F mL
  refine F.ok scPot (fun vs H Q E h => ?_) (fun cdv A outer s H vs Q E hr h => ?_)
  · obtain ⟨a, ns, k, rfl, _⟩ := h
    rfl
  · obtain ⟨a, ns, k, rfl, hS, hk, hk1, q⟩ := h
    refine ⟨_, pss_cons (ps_set (i := 2) scPot.nd rfl (.inl rfl) (pe_call GC hr (by rfl) C.g C.F.kp C.b .nil pass0 (pa_cons (pv 0) (pa_cons (pv 1) pa_nil))))
      (pss_one (ps_ret (pe_lst (pa_cons (pe_callB (call_max2 rfl) (by rfl) mM (by decide +kernel) (pa_cons pe_int (pa_cons (pe_op op_sub (pv 2) (pe_op op_pow pe_int pe_int)) pa_nil)))
        (pa_cons (pe_op op_mod (pe_op op_add (pe_op op_add (pe_op op_add (pe_op op_mul (pe_op op_mod (pe_callB call_abs (by rfl) mA (by decide +kernel) (pa_cons (pv 2) pa_nil)) pe_int) pe_int)
          (pe_op op_mul (pe_op op_mul pe_int (pv 1)) (pv 1))) (pe_op op_mul pe_int (pv 1))) pe_int) pe_int) pa_nil))))), ?_⟩
    refine ⟨.ref a, rfl, .int k, rfl, a, ns, k, rfl, hS, hk, fun z => ?_⟩
    refine ⟨.int z, rfl, 10, 18, rfl, rfl, ⟨by decide, by decide, by decide⟩, z, _, rfl, rfl, 0, _, rfl, ?_⟩
    refine ⟨.int z, rfl, z, rfl, _, 2147483629, rfl, rfl, (by show (0 : Int) < 2147483629; decide), _, 48271, rfl, rfl, .inr ⟨by decide, by decide⟩, .int k, rfl, 7919, k, rfl, rfl, .inl ⟨by decide, by decide⟩, .int k, rfl, _, k, rfl, rfl, .inr ⟨by omega, by omega⟩, _, _, rfl, rfl,
      .int k, rfl, 613, k, rfl, rfl, .inl ⟨by decide, by decide⟩, _, _, rfl, rfl, _, 29, rfl, rfl, _, 2147483629, rfl, rfl, (by show (0 : Int) < 2147483629; decide), ?_⟩
    refine ⟨by show 2 ≤ sizeLine; decide, fun p hp => q _ p (same_upd hp) hp ⟨_, _, upd_same, Int.emod_nonneg _ (by decide), ?_⟩⟩
    exact Int.lt_trans (Int.emod_lt_of_pos _ (by decide)) (by decide)
/-! ### _law_take -/
def spTake : Sp := fun vs H Q _ => ∃ (p : Addr) (m : Int), vs = [.ref p, .int m] ∧ Pot H p ∧ 0 < m ∧ m ≤ 1000 ∧ ∀ H' (d : Int), But p H H' → Pot H' p → 0 ≤ d → d < m → Q (.int d) H'
theorem ok_take {f : Addr} {fd : FuncData} {k : Nat} (F : Fun K "_law_take" "_law_take" sTake f fd) : FnOk P w K mg base CX0 (k + 1) f fd ["_law_pot_here", "_law_room"] spTake := by
  refine F.ok scTake (fun vs H Q E h => ?_) (fun cdv A outer s H vs Q E hr h => ?_)
  · obtain ⟨p, m, rfl, _⟩ := h
    rfl
  · obtain ⟨p, m, rfl, ⟨a, b, hp, hb0, hb1⟩, hm0, hm1, q⟩ := h
    refine ⟨_, pss_cons (ps_if (pt_cmpR op_gt (pe_ix ix_list (pv 0) pe_int (fun _ _ => rfl)) pe_int (nomark _))
        (pss_cons (ps_set (i := 2) scTake.nd rfl (.inl rfl) (pe_op op_mod (pe_ix ix_list (pv 0) pe_int (fun _ _ => rfl)) (pv 1)))
          (pss_cons (ps_asg (pe_op op_fdiv (pe_ix ix_list (pv 0) pe_int (fun _ _ => rfl)) (pv 1)) (pg_sub (pv 0) pe_int set_list))
          (pss_one (ps_ret (pv 2))))) pss_nil)
      (pss_cons (ps_asg (pe_op op_mod (pe_op op_add (pe_op op_mul (pe_ix ix_list (pv 0) pe_int (fun _ _ => rfl)) pe_int) pe_int) pe_int) (pg_sub (pv 0) pe_int set_list))
      (pss_one (ps_ret (pe_op op_mod (pe_op op_fdiv (pe_op op_mod (pe_op op_mul (pe_ix ix_list (pv 0) pe_int (fun _ _ => rfl)) (pe_ix ix_list (pv 0) pe_int (fun _ _ => rfl))) pe_int) pe_int) (pv 1))))), ?_⟩
    refine ⟨.ref p, rfl, p, _, 0, .int a, rfl, rfl, SqL.of hp, atI_nat (j := 0) rfl, a, 0, rfl, rfl, _, rfl, ite2 (fun e => ?_) (fun e => ?_)⟩
    · refine ⟨.ref p, rfl, p, _, 0, .int a, rfl, rfl, SqL.of hp, atI_nat (j := 0) rfl, .int m, rfl, a, m, rfl, rfl, hm0, ?_⟩
      refine ⟨.ref p, rfl, p, _, 0, .int a, rfl, rfl, SqL.of hp, atI_nat (j := 0) rfl, .int m, rfl, a, m, rfl, rfl, ⟨hm0, by omega⟩, ?_⟩
      refine ⟨.ref p, rfl, p, _, 0, 0, rfl, rfl, hp, rfl, ?_⟩
      exact ⟨.int (a % m), rfl, q _ _ (But.upd _ _ _) ⟨a / m, b, upd_same, hb0, hb1⟩ (Int.emod_nonneg _ (by omega)) (Int.emod_lt_of_pos _ hm0)⟩
    · refine ⟨.ref p, rfl, p, _, 1, .int b, rfl, rfl, SqL.of hp, atI_nat (j := 1) rfl, b, 39373, rfl, rfl, .inr ⟨by decide, by decide⟩, _, 8191, rfl, rfl, _, 2147483587, rfl, rfl, (by show (0 : Int) < 2147483587; decide), ?_⟩
      refine ⟨.ref p, rfl, p, _, 1, 1, rfl, rfl, hp, rfl, ?_⟩
      have c0 : 0 ≤ (b * 39373 + 8191) % 2147483587 := Int.emod_nonneg _ (by decide)
      have c1 : (b * 39373 + 8191) % 2147483587 < 2147483587 := Int.emod_lt_of_pos _ (by decide)
      refine ⟨.ref p, rfl, p, _, 1, .int ((b * 39373 + 8191) % 2147483587), rfl, rfl, SqL.of upd_same, atI_nat (j := 1) rfl, .ref p, rfl, p, _, 1, .int ((b * 39373 + 8191) % 2147483587), rfl, rfl, SqL.of upd_same, atI_nat (j := 1) rfl,
        (b * 39373 + 8191) % 2147483587, (b * 39373 + 8191) % 2147483587, rfl, rfl, .inl ⟨by omega, by omega⟩, _, 2147483543, rfl, rfl, (by show (0 : Int) < 2147483543; decide), _, 13, rfl, rfl, ⟨by decide, by decide⟩, .int m, rfl, _, m, rfl, rfl, hm0, ?_⟩
      exact q _ _ (But.upd _ _ _) ⟨a, _, upd_same, c0, by omega⟩ (Int.emod_nonneg _ (by omega)) (Int.emod_lt_of_pos _ hm0)
end
theorem at_strs (ys : List Str) (d : Int) (h0 : 0 ≤ d) (h1 : d < (ys.length : Int)) : ∃ y ∈ ys, atI (ys.map V.str) d = some (.str y) := by
  obtain ⟨n, rfl⟩ := Int.eq_ofNat_of_zero_le h0
  have hn : n < ys.length := by omega
  exact ⟨ys[n], List.getElem_mem hn, atI_nat (by rw [List.getElem?_map, List.getElem?_eq_getElem hn]; rfl)⟩
theorem at_ints (ys : List Int) (d : Int) (h0 : 0 ≤ d) (h1 : d < (ys.length : Int)) : ∃ y ∈ ys, atI (ys.map V.int) d = some (.int y) := by
  obtain ⟨n, rfl⟩ := Int.eq_ofNat_of_zero_le h0
  have hn : n < ys.length := by omega
  exact ⟨ys[n], List.getElem_mem hn, atI_nat (by rw [List.getElem?_map, List.getElem?_eq_getElem hn]; rfl)⟩
theorem at_any (ys : List V) (d : Int) (h0 : 0 ≤ d) (h1 : d < (ys.length : Int)) : ∃ y ∈ ys, atI ys d = some y := by
  obtain ⟨n, rfl⟩ := Int.eq_ofNat_of_zero_le h0
  have hn : n < ys.length := by omega
  exact ⟨ys[n], List.getElem_mem hn, atI_nat (List.getElem?_eq_getElem hn)⟩
theorem go {R : Hp → Prop} {H : Hp} {a : Addr} {o : HO} (n : H a = none) (h : ∀ H', Same H H' → H' a = some o → R H') : R (upd H a o) := h _ (same_upd n) upd_same
theorem goT {α : Type} {R : Hp → α → Prop} {Q : α} {H : Hp} {a : Addr} {o : HO} (n : H a = none) (h : ∀ H', Same H H' → H' a = some o → R H' Q) : R (upd H a o) Q := h _ (same_upd n) upd_same
theorem goU {R : Hp → Prop} {H : Hp} {a : Addr} {o : HO} (h : ∀ H', But a H H' → H' a = some o → R H') : R (upd H a o) := h _ (But.upd _ _ _) upd_same
theorem ev_use {t : TE} {σ : L2.St} {H : Hp} {v : V} {R : VK} (e : ∀ R : VK, R v H → t σ H R) (c : R v H) : t σ H R := e R c
theorem ev_gen {t : TE} {σ : L2.St} {H : Hp} (D : V → Hp → Prop) {R : VK} (e : ∀ R : VK, (∀ v H', D v H' → R v H') → t σ H R) (c : ∀ v H', D v H' → R v H') : t σ H R := e R c
theorem ts_gen {t : TS} {κ : L2.Ends} {σ : L2.St} {H : Hp} (D : L2.St → Hp → Prop) (e : ∀ κ : L2.Ends, (∀ σ' H', D σ' H' → κ.nx σ' H') → t κ σ H) (c : ∀ σ' H', D σ' H' → κ.nx σ' H') : t κ σ H := e κ c
theorem dp_strs {K : PySem.W.Frag} {H : Hp} : ∀ ys : List Str, DpAll K H (ys.map V.str) (ys.map PyData.str)
  | [] => .nil
  | y :: r => .cons (.str y) (dp_strs r)
theorem strOk_of {z : Str} (h : ∀ c ∈ tl z, c < 256) : PyData.strOk z = true := by
  unfold PyData.strOk
  rw [← Array.all_toList]
  exact List.all_eq_true.mpr fun c hc => decide_eq_true (Nat.lt_trans (h c hc) (by decide))
theorem lay_strs : ∀ ys : List Str, (∀ y ∈ ys, PyData.strOk y = true) → PyData.canLayAll0 (ys.map PyData.str) = true ∧ PyData.depthAll (ys.map PyData.str) = 0
  | [], _ => ⟨by simp [PyData.canLayAll0], by simp [PyData.depthAll]⟩
  | y :: r, h => by
    obtain ⟨h1, h2⟩ := lay_strs r fun z hz => h z (List.mem_cons_of_mem _ hz)
    rw [List.map_cons]
    exact ⟨by simp [PyData.canLayAll0, PyData.canLay0, h1, h y List.mem_cons_self], by simp [PyData.depthAll, PyData.depth, h2]⟩
theorem shaped_strs (ys : List Str) (h : ∀ y ∈ ys, PyData.strOk y = true) : SeqAt.shaped (.list (ys.map PyData.str)) = true := by
  obtain ⟨h1, h2⟩ := lay_strs ys h
  unfold SeqAt.shaped
  simp [PyData.canLay0, PyData.depth, h1, h2]
theorem eqv_nil (ds : List PyData) : PyData.eqv (.list ds) (.list []) = ds.isEmpty := by
  cases ds with
  | nil => simp [PyData.eqv, PyData.eqvAll]
  | cons d r => simp [PyData.eqv, PyData.eqvAll]
theorem strs_flat (ys : List Str) : (ys.map V.str).all flatV = true := by
  rw [List.all_map]
  exact List.all_eq_true.mpr fun _ _ => rfl
theorem eqvAll_strs : ∀ xs ys : List Str, PyData.eqvAll (xs.map PyData.str) (ys.map PyData.str) = decide (xs = ys)
  | [], [] => by simp [PyData.eqvAll]
  | [], y :: r => by simp [PyData.eqvAll]
  | x :: r, [] => by simp [PyData.eqvAll]
  | x :: r, y :: t => by
    rw [List.map_cons, List.map_cons]
    simp only [PyData.eqvAll, PyData.eqv]
    rw [eqvAll_strs r t]
    by_cases h : x = y
    · subst h
      by_cases h2 : r = t
      · subst h2
        simp
      · simp [h2]
    · simp [h]
theorem eqv_strs (xs ys : List Str) : PyData.eqv (.list (xs.map PyData.str)) (.list (ys.map PyData.str)) = decide (xs = ys) := by
  simp only [PyData.eqv]
  exact eqvAll_strs xs ys
theorem inV_strs (z : Str) (ys : List Str) : inV (.str z) (ys.map V.str) = decide (z ∈ ys) := by
  unfold inV
  rw [List.any_map]
  induction ys with
  | nil => rfl
  | cons y r ih =>
    rw [List.any_cons, ih]
    show (decide (y = z) || decide (z ∈ r)) = _
    by_cases h : y = z
    · subst h
      simp
    · have h2 : ¬ z = y := fun e => h e.symm
      simp [h, h2]
theorem tl_cut_to (x : Str) (k : Nat) : tl (cutS x none (some (k : Int))) = (tl x).take k := by
  show ((((tl x).drop (HT.sIx x.length 0 none)).take (HT.sIx x.length x.length (some (k : Int)) - HT.sIx x.length 0 none)).toArray).toList = _
  rw [HT.sIx_none, HT.sIx_nat, List.drop_zero, Nat.sub_zero]
  show (tl x).take (min k x.length) = _
  rw [TL.len_tl, ← List.take_take, List.take_length]
theorem tl_cut_from (x : Str) (k : Nat) : tl (cutS x (some (k : Int)) none) = (tl x).drop k := by
  show ((((tl x).drop (HT.sIx x.length 0 (some (k : Int)))).take (HT.sIx x.length x.length none - HT.sIx x.length 0 (some (k : Int)))).toArray).toList = _
  rw [HT.sIx_none, HT.sIx_nat]
  show ((tl x).drop (min k x.length)).take (x.length - min k x.length) = _
  have hl := TL.len_tl x
  by_cases h : k ≤ x.length
  · rw [Nat.min_eq_left h, List.take_of_length_le (by rw [List.length_drop]; omega)]
  · rw [Nat.min_eq_right (by omega), List.drop_of_length_le (by omega), List.drop_of_length_le (by omega), List.take_nil]
theorem fold_toList : ∀ (l : List (Array Nat)) (acc : Array Nat), (l.foldl (· ++ ·) acc).toList = acc.toList ++ (l.map Array.toList).flatten
  | [], acc => by simp
  | x :: l, acc => by
    rw [List.foldl_cons, fold_toList l]
    simp
theorem mul_tl (z : Str) (n : Nat) : (Txt.mul z (n : Int)).cps.toList = (List.replicate n z.cps.toList).flatten := by
  unfold Txt.mul
  by_cases h1 : (n : Int) < 1
  · have e : n = 0 := by omega
    subst e
    rw [if_pos h1]
    rfl
  · rw [if_neg h1]
    by_cases h2 : ((n : Int) == 1 || z.length == 0) = true
    · rw [if_pos h2]
      rcases Bool.or_eq_true_iff.mp h2 with e | e
      · have e1 : n = 1 := by
          have := eq_of_beq e
          omega
        subst e1
        simp
      · have e1 : z.cps.toList = [] := List.length_eq_zero_iff.mp (by
          have := eq_of_beq e
          simpa [Str.length] using this)
        rw [e1]
        simp
    · rw [if_neg h2]
      show ((List.replicate (n : Int).toNat z.cps).foldl (· ++ ·) #[]).toList = _
      rw [fold_toList, Int.toNat_natCast, List.map_replicate]
      rfl
theorem op_mul_str {X : Cx} : OpR X (binaryOp .Mult) (fun x y H Q => ∃ (z : Str) (n : Nat), x = .str z ∧ y = .int (n : Int) ∧ n ≤ 1000 ∧ z.length ≤ 1000 ∧ ∀ y : Str, tl y = (List.replicate n (tl z)).flatten → Q (.str y) H) := by
  intro pins s σ H x y v u Q I rx ry h
  obtain ⟨z, n, rfl, rfl, hn, hz, q⟩ := h
  obtain ⟨tx, rfl⟩ := rx
  obtain ⟨ty, rfl⟩ := ry
  have pw : z.length * n ≤ 1000000 := Nat.le_trans (Nat.mul_le_mul hz hn) (by decide)
  refine PySem.SB.mul ⟨?_, fun h1 h2 => ?_, fun h1 h2 => ?_⟩ fun t' k => ⟨.str _, H, I.tok k, ⟨t', rfl⟩, q _ ?_⟩
  · rw [decide_eq_false (by omega), decide_eq_false (by omega)]
    rfl
  · have e : (1000 : Int) ≤ (2 ^ 63 - 1) / (n : Int) := by
      have h3 : (0 : Int) < n := by omega
      exact (Int.le_ediv_iff_mul_le h3).mpr (by omega)
    omega
  · rw [Int.toNat_natCast]
    exact decide_eq_false (by show ¬ sizeLine < _; have : sizeLine = 16777216 := sizeLine_eq; omega)
  · exact mul_tl z n
theorem tt_gen {t : TT} {σ : L2.St} {H : Hp} (D : Bool → Hp → Prop) {R : Bool → Hp → Prop} (e : ∀ R : Bool → Hp → Prop, (∀ b H', D b H' → R b H') → t σ H R) (c : ∀ b H', D b H' → R b H') : t σ H R := e R c
theorem tt_use {t : TT} {σ : L2.St} {H : Hp} {b : Bool} {R : Bool → Hp → Prop} (e : ∀ R : Bool → Hp → Prop, R b H → t σ H R) (c : R b H) : t σ H R := e R c
theorem str_ext {a b : Str} (h : tl a = tl b) : a = b := by
  cases a; cases b
  exact congrArg Str.mk (Array.toList_inj.mp h)
abbrev B8 : Nat → Prop := fun c => c < 256
theorem Pot.same {H H' : Hp} {p : Addr} (h : Pot H p) (s : Same H H') : Pot H' p := by
  obtain ⟨x, y, e, h1, h2⟩ := h
  exact ⟨x, y, s _ _ e, h1, h2⟩
end WB

set_option Elab.async false
set_option linter.all false
set_option maxRecDepth 100000
set_option maxHeartbeats 4000000
namespace WB
open PySem PySem.Spec PyProof.Rows L2
open TL (tl)
abbrev st_signs : Stmt := topS 6
theorem sc_signs : FnScope ["_law_pot_here", "_law_most", "_law_signs_here", "_law_k"] ["_law_pot_here", "_law_most"] (defScope st_signs) := ⟨rfl, rfl, rfl, by decide +kernel, rfl, by decide +kernel, by decide +kernel⟩
abbrev st_lead : Stmt := topS 9
theorem sc_lead : FnScope ["_law_pot_here", "_law_way"] ["_law_pot_here"] (defScope st_lead) := ⟨rfl, rfl, rfl, by decide +kernel, rfl, by decide +kernel, by decide +kernel⟩
/-- signs of words: no blank -/
abbrev Wd : Nat → Prop := fun c => c ≠ 32 ∧ c < 256
theorem small1000 {n : Nat} (h : n ≤ 1000) : n < sizeLine := by
  have : sizeLine = 16777216 := sizeLine_eq
  omega
def allSigns : Str := Str.ofString "!\"#$&'()*+,-./0123456789:;<=>?@ABCDEFGHIJKLMNOPQRSTUVWXYZ[\\]^_`abcdefghijklmnopqrstuvwxyz{|}~"
theorem allSigns_len : 0 < allSigns.length ∧ allSigns.length ≤ 100 ∧ ∀ c ∈ tl allSigns, c ≠ 32 ∧ c < 256 := by decide +kernel
theorem joinL_pos (S : List Nat) : ∀ (ps : List (List Nat)), (∃ p r, ps = p :: r ∧ p ≠ []) → TL.joinL S ps ≠ []
  | [], ⟨_, _, e, _⟩ => by cases e
  | [p], ⟨_, _, e, h⟩ => by
    cases e
    exact h
  | p :: q :: r, ⟨_, _, e, h⟩ => by
    cases e
    intro z
    have z' : p ++ (S ++ TL.joinL S (q :: r)) = [] := z
    exact h (List.append_eq_nil_iff.mp z').1
section
variable {P : Program} {w : World} {K : PySem.W.Frag} {mg : Str → Option Value} {base : Heap}
def spSigns : Sp := fun vs H Q _ => ∃ (p : Addr) (m : Int), vs = [.ref p, .int m] ∧ Pot H p ∧ 0 < m ∧ m ≤ 100 ∧ ∀ H' (y : Str), But p H H' → Pot H' p → Tq Wd m.toNat y → 0 < y.length → Q (.str y) H'
theorem ok_signs {f fT : Addr} {fd fdT : FuncData} {k : Nat} (F : Fun K "_law_signs" "_law_signs" st_signs f fd) (T : Df K mg "_law_take" sTake ["_law_pot_here", "_law_room"] fT fdT) (mL : mg "len" = none) (mR : mg "range" = none) :
    FnOk P w K mg base CX0 (k + 2) f fd ["_law_pot_here", "_law_most"] spSigns := by
  have GT : FnOk P w K mg base CX0 (k + 1) fT fdT ["_law_pot_here", "_law_room"] spTake := ok_take T.F
  refine F.ok sc_signs (fun vs H Q E h => ?_) (fun cdv A outer s H vs Q E hr h => ?_)
  · obtain ⟨p, m, rfl, _⟩ := h
    rfl
  · obtain ⟨p, m, rfl, hp, hm0, hm1, q⟩ := h
    refine ⟨_, pss_cons (ps_set (i := 2) sc_signs.nd rfl (.inr rfl) pe_str) (pss_one (ps_ret (pe_join pe_str (pe_lc (own := [("_law_k", 3)]) (g := gName 3) (tt := tYes) rfl sc_signs.nd
      (pi_range1 rfl mR (pa_cons (pe_op op_add pe_int (pe_call GT hr (by rfl) T.g T.F.kp T.b .nil pass0 (pa_cons (pv 0) (pa_cons (pv 1) pa_nil)))) pa_nil))
      (blkOk_by (N := ["_law_pot_here", "_law_most", "_law_signs_here", "_law_k"]) (sc := defScope st_signs) (by decide +kernel))
      (fun _ _ _ _ _ => pg_name (i := 3) sc_signs.nd rfl (Or.inl rfl)) (fun _ _ _ _ _ => pts_nil)
      (fun _ _ _ _ _ => pe_ix ix_str (pv 2) (pe_call GT hr (by rfl) T.g T.F.kp T.b .nil pass0 (pa_cons (pv 0) (pa_cons (pe_callB call_len_str (by rfl) mL PySem.boot_len (pa_cons (pv 2) pa_nil)) pa_nil))) (fun _ _ => rfl)))))), ?_⟩
    obtain ⟨hz0, hz1, hz2⟩ := allSigns_len
    refine ⟨⟨_, rfl⟩, .ref p, rfl, .int m, rfl, p, m, rfl, hp, hm0, by omega, fun H1 d b1 p1 d0 d1 => ?_⟩
    refine ⟨1, d, rfl, rfl, 1 + d, rfl, by omega, by omega, fun T' nT => ?_⟩
    have npT : p ≠ T' := p1.ne nT
    refine lc_range (lo := 0) (n := (1 + d).toNat) (fun i Hc => But p H1 Hc ∧ Pot Hc p ∧ ∃ ys : List Str, Hc T' = some (.lst (ys.map V.str)) ∧ ys.length = i ∧ (∀ y ∈ ys, Tq Wd 1 y) ∧ ∀ y ∈ ys, tl y ≠ [])
      ⟨But.new nT, p1.new nT, [], upd_same, rfl, (fun y hy => by cases hy), fun y hy => by cases hy⟩ (fun i Hc hi ⟨bc, pc, ys, eT, el, e1, e2⟩ => ?_) (fun Hc ⟨bc, pc, ys, eT, el, e1, e2⟩ => ?_)
    · refine ⟨rfl, ?_⟩
      have hzl : allSigns.length ≤ sizeLine := Nat.le_trans hz1 (by decide)
      refine ⟨.str allSigns, rfl, .ref p, rfl, .str allSigns, rfl, allSigns, rfl, hzl, p, allSigns.length, rfl, pc, by omega, by omega, fun H4 j b4 p4 j0 j1 => ?_⟩
      obtain ⟨n, rfl⟩ := Int.eq_ofNat_of_zero_le j0
      have hn : n < allSigns.cps.toList.length := by
        have e : allSigns.cps.toList.length = allSigns.length := by simp [Str.length]
        omega
      have eT4 : H4 T' = some (.lst (ys.map V.str)) := b4 T' _ npT.symm eT
      refine ⟨allSigns, n, allSigns.cps.toList[n], rfl, rfl, hzl, atI_nat (List.getElem?_eq_getElem hn), ys.map V.str, eT4, ?_, ?_, ?_, ys ++ [⟨#[allSigns.cps.toList[n]]⟩], ?_, ?_, ?_, ?_⟩
      · rw [List.length_map, el]
        exact small1000 (by omega)
      · exact fun b o nb e => by
          rw [upd_ne (ne_of_none e nT)]
          exact b4 b o nb (bc b o nb e)
      · obtain ⟨x, y, e, h1, h2⟩ := p4
        refine ⟨x, y, ?_, h1, h2⟩
        rw [upd_ne npT]
        exact e
      · rw [upd_same, List.map_append]
        rfl
      · rw [List.length_append, el]
        rfl
      · intro y hy
        rcases List.mem_append.mp hy with hy | hy
        · exact e1 y hy
        · rw [List.mem_singleton.mp hy]
          exact Tq.sign (hz2 _ (List.getElem_mem hn))
      · intro y hy
        rcases List.mem_append.mp hy with hy | hy
        · exact e2 y hy
        · rw [List.mem_singleton.mp hy]
          intro z
          exact List.cons_ne_nil _ _ (show [allSigns.cps.toList[n]] = [] from z)
    · have e0 : (Str.ofString "").length = 0 := by decide +kernel
      have es := sum_most 1 ys e1
      refine ⟨_, T', ys, rfl, rfl, .inl (SqL.of eT), ?_, q _ _ (b1.trans bc) pc ?_ ?_⟩
      · rw [e0]
        omega
      · exact Tq.join (p := Wd) (k := 0) (sep := Str.ofString "") ⟨by decide +kernel, by decide +kernel⟩ e1 (by omega)
      · rw [TL.len_tl, TL.join_eq, TL.tl_join]
        refine List.length_pos_iff.mpr (joinL_pos _ _ ?_)
        cases ys with
        | nil =>
          have : (0 : Nat) = (1 + d).toNat := el
          omega
        | cons y r => exact ⟨tl y, r.map tl, rfl, e2 y List.mem_cons_self⟩
/-! ### _law_lead -/
theorem blank_plain : ∀ c ∈ tl (Str.ofString " "), c < 256 := by decide +kernel
theorem blanks {n : Nat} {z : Str} (h : tl z = (List.replicate n (tl (Str.ofString " "))).flatten) : Tq B8 n z := by
  have e : tl (Str.ofString " ") = [32] := by decide +kernel
  rw [e] at h
  have h2 : tl z = List.replicate n 32 := by
    rw [h]
    clear h
    induction n with
    | zero => rfl
    | succ n ih => rw [List.replicate_succ, List.flatten_cons, ih, List.replicate_succ]; rfl
  refine ⟨?_, fun c hc => ?_⟩
  · rw [TL.len_tl, h2, List.length_replicate]
    exact Nat.le_refl _
  · rw [h2] at hc
    rw [(List.mem_replicate.mp hc).2]
    show 32 < 256
    decide
def spLead : Sp := fun vs H Q _ => ∃ p : Addr, vs = [.ref p] ∧ Pot H p ∧ ∀ H' (y : Str), But p H H' → Pot H' p → Tq B8 40 y → Q (.str y) H'
theorem Wd.b8 {n : Nat} {y : Str} (h : Tq Wd n y) : Tq B8 n y := h.mono (Nat.le_refl _) fun _ x => x.2
theorem ok_lead {f fT fS : Addr} {fd fdT fdS : FuncData} {k : Nat} (F : Fun K "_law_lead" "_law_lead" st_lead f fd) (D_take : Df K mg "_law_take" sTake ["_law_pot_here", "_law_room"] fT fdT) (D_signs : Df K mg "_law_signs" st_signs ["_law_pot_here", "_law_most"] fS fdS)
    (mL : mg "len" = none) (mR : mg "range" = none) : FnOk P w K mg base CX0 (k + 3) f fd ["_law_pot_here"] spLead := by
  have G_take : FnOk P w K mg base CX0 (k + 2) fT fdT ["_law_pot_here", "_law_room"] spTake := ok_take D_take.F
  have G_signs : FnOk P w K mg base CX0 (k + 2) fS fdS ["_law_pot_here", "_law_most"] spSigns := ok_signs D_signs.F D_take mL mR
  refine F.ok sc_lead (fun vs H Q E h => ?_) (fun cdv A outer s H vs Q E hr h => ?_)
  · obtain ⟨p, rfl, _⟩ := h
    rfl
  · obtain ⟨p, rfl, hp, q⟩ := h
    refine ⟨_, pss_cons (ps_set (i := 1) sc_lead.nd rfl (.inl rfl) (pe_call G_take hr (by rfl) D_take.g D_take.F.kp D_take.b .nil pass0 (pa_cons (pv 0) (pa_cons pe_int pa_nil))))
      (pss_cons (ps_if (pt_cmpR op_eq (pv 1) pe_int (nomark _)) (pss_one (ps_ret pe_str)) pss_nil)
      (pss_cons (ps_if (pt_cmpR op_eq (pv 1) pe_int (nomark _)) (pss_one (ps_ret (pe_op op_mul_str pe_str (pe_call G_take hr (by rfl) D_take.g D_take.F.kp D_take.b .nil pass0 (pa_cons (pv 0) (pa_cons pe_int pa_nil)))))) pss_nil)
      (pss_one (ps_ret (pe_op op_add_str (pe_op op_add_str (pe_call G_signs hr (by rfl) D_signs.g D_signs.F.kp D_signs.b .nil pass0 (pa_cons (pv 0) (pa_cons pe_int pa_nil))) (pe_op op_mul_str pe_str (pe_call G_take hr (by rfl) D_take.g D_take.F.kp D_take.b .nil pass0 (pa_cons (pv 0) (pa_cons pe_int pa_nil))))) (pe_call G_signs hr (by rfl) D_signs.g D_signs.F.kp D_signs.b .nil pass0 (pa_cons (pv 0) (pa_cons pe_int pa_nil)))))))), ?_⟩
    have e1 : (Str.ofString " ").length = 1 := by decide +kernel
    refine ⟨.ref p, rfl, p, 3, rfl, hp, by decide, by decide, fun H1 d1 b1 p1 d10 d11 => ?_⟩
    refine ⟨_, rfl, rfl, _, rfl, ite2 (fun e => q _ _ b1 p1 ⟨by decide +kernel, by decide +kernel⟩) (fun e => ?_)⟩
    refine ⟨_, rfl, rfl, _, rfl, ite2 (fun e => ?_) (fun e => ?_)⟩
    · refine ⟨.ref p, rfl, p, 31, rfl, p1, by decide, by decide, fun H2 d2 b2 p2 d20 d21 => ?_⟩
      obtain ⟨n2, rfl⟩ := Int.eq_ofNat_of_zero_le d20
      exact ⟨_, n2, rfl, rfl, by omega, by rw [e1]; decide, fun z2 hz2 => q _ _ (b1.trans b2) p2 ((blanks hz2).mono (by omega) fun _ h => h)⟩
    · refine ⟨.ref p, rfl, p, 14, rfl, p1, by decide, by decide, fun H2 y2 b2 p2 t2 _ => ?_⟩
      refine ⟨.ref p, rfl, p, 2, rfl, p2, by decide, by decide, fun H3 d3 b3 p3 d30 d31 => ?_⟩
      obtain ⟨n3, rfl⟩ := Int.eq_ofNat_of_zero_le d30
      refine ⟨_, n3, rfl, rfl, by omega, by rw [e1]; decide, fun z3 hz3 => ?_⟩
      have t3 := blanks hz3
      have l2 : y2.length ≤ 14 := t2.le
      have l3 : z3.length ≤ n3 := t3.le
      refine ⟨y2, z3, rfl, rfl, Nat.le_of_lt (small1000 (by omega)), ?_⟩
      refine ⟨.ref p, rfl, p, 13, rfl, p3, by decide, by decide, fun H4 y4 b4 p4 t4 _ => ?_⟩
      have l4 : y4.length ≤ 13 := t4.le
      refine ⟨y2 ++ z3, y4, rfl, rfl, ?_, q _ _ (((b1.trans b2).trans b3).trans b4) p4 ((((Wd.b8 t2).app t3).app (Wd.b8 t4)).mono ?_ fun _ h => h)⟩
      · rw [Str.length_append]
        exact Nat.le_of_lt (small1000 (by omega))
      · show (14 : Int).toNat + n3 + (13 : Int).toNat ≤ 40
        have : (14 : Int).toNat = 14 := rfl
        have : (13 : Int).toNat = 13 := rfl
        omega
end
end WB

set_option Elab.async false
set_option linter.all false
set_option maxRecDepth 100000
set_option maxHeartbeats 4000000
namespace WB
open PySem PySem.Spec PyProof.Rows L2
open TL (tl)
/-! ### lines that are filled -/
abbrev blank : Str := Str.ofString " "
theorem blank_tl : tl blank = [32] := by decide +kernel
theorem blank_len : blank.length = 1 := by decide +kernel
theorem str_nil {y : Str} (h : tl y = []) : y = Str.ofString "" := str_ext (by rw [h]; decide +kernel)
/-- words with a blank between -/
def jn : List Str → Str
  | [] => Str.ofString ""
  | [w] => w
  | w :: v :: r => w ++ (blank ++ jn (v :: r))
theorem jn_snoc (w : Str) : ∀ (v : Str) (r : List Str), jn (v :: r ++ [w]) = jn (v :: r) ++ (blank ++ w)
  | v, [] => rfl
  | v, u :: r => by
    show v ++ (blank ++ jn (u :: r ++ [w])) = (v ++ (blank ++ jn (u :: r))) ++ (blank ++ w)
    rw [jn_snoc w u r]
    exact str_ext (by simp [TL.tl_append])
theorem str_assoc (a b c : Str) : (a ++ b) ++ c = a ++ (b ++ c) := str_ext (by simp [TL.tl_append])
def fillGo (room : Int) (tail : Str) : List Str → Str → List Str → List Str
  | done, cur, [] => done ++ [cur]
  | done, cur, w :: ws => if ((cur.length : Int) + 1 + (w.length : Int)) ≤ room then fillGo room tail done (cur ++ (blank ++ w)) ws else fillGo room tail (done ++ [cur]) (tail ++ w) ws
def filledF (ws : List Str) (room : Int) (lead tail : Str) : List Str :=
  match ws with
  | [] => [lead]
  | w :: ws => fillGo room tail [] (lead ++ w) ws
/-- lines are right: what they begin with, the words, the lines -/
inductive Fits (room : Int) (tail : Str) : Str → List Str → List Str → Prop
  | one {b : Str} {v : Str} {r : List Str} (h : r ≠ [] → ((b ++ jn (v :: r)).length : Int) ≤ room) : Fits room tail b (v :: r) [b ++ jn (v :: r)]
  | more {b : Str} {v : Str} {r : List Str} {u : Str} {s : List Str} {ls : List Str} (h : r ≠ [] → ((b ++ jn (v :: r)).length : Int) ≤ room) (hu : room < ((b ++ jn (v :: r)).length : Int) + 1 + (u.length : Int))
      (k : Fits room tail tail (u :: s) ls) : Fits room tail b (v :: r ++ (u :: s)) ((b ++ jn (v :: r)) :: ls)
theorem go_fits (room : Int) (tail : Str) : ∀ (ws : List Str) (done : List Str) (b v : Str) (r : List Str), (r ≠ [] → ((b ++ jn (v :: r)).length : Int) ≤ room) →
    ∃ ls, fillGo room tail done (b ++ jn (v :: r)) ws = done ++ ls ∧ Fits room tail b (v :: r ++ ws) ls
  | [], done, b, v, r, h => ⟨_, rfl, by rw [List.append_nil]; exact .one h⟩
  | w :: ws, done, b, v, r, h => by
    by_cases hw : ((b ++ jn (v :: r)).length : Int) + 1 + (w.length : Int) ≤ room
    · have e : fillGo room tail done (b ++ jn (v :: r)) (w :: ws) = fillGo room tail done (b ++ jn (v :: (r ++ [w]))) ws := by
        show (if _ then _ else _) = _
        rw [if_pos hw, show jn (v :: (r ++ [w])) = jn (v :: r) ++ (blank ++ w) from jn_snoc w v r, str_assoc b]
      have hl : (r ++ [w]) ≠ [] → ((b ++ jn (v :: (r ++ [w]))).length : Int) ≤ room := fun _ => by
        rw [show jn (v :: (r ++ [w])) = jn (v :: r) ++ (blank ++ w) from jn_snoc w v r, Str.length_append, Str.length_append, Str.length_append, blank_len]
        rw [Str.length_append] at hw
        omega
      obtain ⟨ls, e1, e2⟩ := go_fits room tail ws done b v (r ++ [w]) hl
      refine ⟨ls, e.trans e1, ?_⟩
      have e3 : v :: (r ++ [w]) ++ ws = v :: r ++ w :: ws := by simp
      rw [e3] at e2
      exact e2
    · have e : fillGo room tail done (b ++ jn (v :: r)) (w :: ws) = fillGo room tail (done ++ [b ++ jn (v :: r)]) (tail ++ jn [w]) ws := by
        show (if _ then _ else _) = _
        rw [if_neg hw]
        rfl
      obtain ⟨ls, e1, e2⟩ := go_fits room tail ws (done ++ [b ++ jn (v :: r)]) tail w [] (fun z => absurd rfl z)
      refine ⟨(b ++ jn (v :: r)) :: ls, ?_, .more h (by omega) e2⟩
      rw [e, e1]
      simp
theorem filled_fits (room : Int) (lead tail w : Str) (ws : List Str) : Fits room tail lead (w :: ws) (filledF (w :: ws) room lead tail) := by
  obtain ⟨ls, e1, e2⟩ := go_fits room tail ws [] lead w [] (fun z => absurd rfl z)
  have e : filledF (w :: ws) room lead tail = ls := by
    rw [List.nil_append] at e1
    exact e1
  rw [e]
  exact e2
theorem Fits.lines {room : Int} {tail b : Str} {ws ls : List Str} (h : Fits room tail b ws ls) : ls ≠ [] ∧ ls.length ≤ ws.length := by
  induction h with
  | one h => exact ⟨by simp, by simp⟩
  | more h hu k ih =>
    refine ⟨by simp, ?_⟩
    have := ih.2
    simp only [List.length_cons, List.length_append] at this ⊢
    omega
/-- the lines' signs -/
theorem Tq.jn {p : Nat → Prop} (hb : p 32) {m : Nat} : ∀ (r : List Str), (∀ y ∈ r, Tq p m y) → Tq p (r.length * (m + 1)) (WB.jn r)
  | [], _ => ⟨Nat.le_trans (show (Str.ofString "").length ≤ 0 from by decide +kernel) (Nat.zero_le _), fun c hc => by
      have : c ∈ ([] : List Nat) := hc
      cases this⟩
  | [w], h => (h w List.mem_cons_self).mono (by simp) fun _ z => z
  | w :: v :: r, h => by
    have h1 := h w List.mem_cons_self
    have h2 := Tq.jn hb (v :: r) fun y hy => h y (List.mem_cons_of_mem _ hy)
    have h3 : Tq p 1 blank := ⟨by decide +kernel, fun c hc => by rw [blank_tl] at hc; rw [List.mem_singleton.mp hc]; exact hb⟩
    have h4 := h1.app (h3.app h2)
    refine h4.mono ?_ fun _ z => z
    simp only [List.length_cons]
    rw [Nat.succ_mul (r.length + 1)]
    omega
theorem Fits.tq {p : Nat → Prop} (hb : p 32) {m n : Nat} {room : Int} {tail b : Str} {ws ls : List Str} (h : Fits room tail b ws ls) (ht : Tq p n tail) (hbn : Tq p n b) (hw : ∀ y ∈ ws, Tq p m y) : ∀ y ∈ ls, Tq p (n + ws.length * (m + 1)) y := by
  induction h with
  | one h =>
    intro y hy
    rw [List.mem_singleton.mp hy]
    exact hbn.app (Tq.jn hb _ hw)
  | @more b v r u s ls h hu k ih =>
    intro y hy
    rcases List.mem_cons.mp hy with rfl | hy
    · refine (hbn.app (Tq.jn hb (v :: r) fun y hy => hw y (List.mem_append_left _ hy))).mono ?_ fun _ z => z
      rw [List.length_append, Nat.add_mul]
      omega
    · refine (ih ht (fun y hy => hw y (List.mem_append_right _ hy)) y hy).mono ?_ fun _ z => z
      rw [List.length_append, Nat.add_mul]
      omega
end WB

set_option Elab.async false
set_option linter.all false
set_option maxRecDepth 100000
set_option maxHeartbeats 4000000
namespace WB
open PySem PySem.Spec PyProof.Rows L2
open TL (tl)
abbrev st_filled : Stmt := topS 1
theorem sc_filled : FnScope ["words", "width", "first", "later", "lines", "number", "word"] ["words", "width", "first", "later"] (defScope st_filled) := ⟨rfl, rfl, rfl, by decide +kernel, rfl, by decide +kernel, by decide +kernel⟩
/-! ### rules: xs[i] op= e; a call by keywords alone; enumerate of a list -/
theorem get_list {X : Cx} : PGet X (rIxL X.K) := by
  intro pins s σ H o i ov iv Q I ro ri h
  obtain ⟨p, xs, k, z, rfl, rfl, hq, he, q⟩ := h
  cases ro
  obtain ⟨t, rfl⟩ := ri
  obtain ⟨its, r, pl, hz⟩ := I.list hq
  obtain ⟨j, h1, h2, h3, h4, h5⟩ := atI_get he
  obtain ⟨w, ew, rw'⟩ := r.get h2
  have hl := r.length
  have hn := line63
  have fin : EP X pins σ Q w s := ⟨z, H, I, rw', q⟩
  by_cases h0 : 0 ≤ k
  · have hj : k.toNat = j := by
      rw [seqIndex_of h0 h5] at h1
      exact Option.some.inj h1
    exact wpAny_getItem_list pl.isList h0 (by omega) (by rw [hj]; simpa using ew) fin
  · have hj : (k + (its.toArray.size : Int)).toNat = j := by
      rw [seqIndex_neg (by omega) h4] at h1
      rw [List.size_toArray, ← hl]
      exact Option.some.inj h1
    exact wpAny_getItem_list_neg pl.isList (by omega) (by rw [List.size_toArray] <;> omega) (by omega) (by rw [hj]; simpa using ew) fin
theorem ip_addS {X : Cx} : PIp X .Add (fun x y H Q => ∃ i j, x = .str i ∧ y = .str j ∧ i.length + j.length ≤ sizeLine ∧ Q (.str (i ++ j)) H) :=
  fun pins s σ H x y v u Q I rx ry h => iop_add_str pins s σ H x y v u Q I rx ry h
theorem pe_callN0 {X : Cx} {CX : CXT} {k : Nat} {f : Addr} {fd : FuncData} {ps ks : List Str} {sp : Sp} {E : XK} {x : Str} {p pos : Pos} {kws : List Keyword} {tk : TA} {g : List Value → List Value → List Value} {gV : List V → List V → List V}
    (F : FnOk X.prog X.w X.K X.mg X.base CX k f fd ps sp) (hr : Room k X.A) (hg : Gl X x) (hm : X.mg x = some (.ref f)) (hk : PySem.W.keepIn X.K (.ref f) = true) (hb : KBn X.K fd ps 0 ks g gV) (hx : Passes CX X E)
    (hkw : PK X kws tk) (hall : (backToKw pos (keywordEach kws X.env)).all (·.1.isSome) = true := by rfl) (hks : (backToKw pos (keywordEach kws X.env)).filterMap (·.1) = ks := by rfl)
    (hdb : (x == ("__debug__" : Str)) = false := by decide)
    (hpl : ((backTo pos (starEach [] X.env)).any (·.1) || (backToKw pos (keywordEach kws X.env)).any (·.1.isNone)) = false := by rfl) :
    PE X (.Call (.Name x p) [] kws pos) (tCallN 0 ks.length sp gV E tNil tk) := by
  refine ⟨fun pins s σ H Q I h => ?_⟩
  refine wpAny_Call_Name_kw (ld_glob I hg hm ?_ hdb)
  refine PySem.W.callWith_KW0 (h₀ := X.base) I.ok.mod.kin hk hall ?_ hpl
  refine thn (hkw.run pos pins s σ H _ I h) fun ws s2 ⟨zs, H2, I2, rz, l1, l2, q2⟩ => ⟨I2.kIn, ?_⟩
  rw [hks]
  exact run_fnN (us := []) (vs := []) F hr hb hx I2 .nil rz rfl l2 q2
theorem for_enum {K : PySem.W.Frag} {a : Addr} {xs : List V} {g : TG} {tb : TS} {D : Ends} {σ : L2.St} {H : Hp} (Pv : Nat → L2.St → Hp → Prop) (h0 : Pv 0 σ H) (hl : ∀ i σ H, i ≤ xs.length → Pv i σ H → SqL K H a xs)
    (hs : ∀ (i : Nat) (x : V) (σ : L2.St) (H : Hp) (T : Addr), xs[i]? = some x → H T = none → Pv i σ H → g (.ref T) σ (upd H T (.tup [.int (i : Nat), x])) fun σ2 H2 => tb { D with nx := Pv (i + 1), ct := Pv (i + 1), bk := D.nx } σ2 H2) (hd : ∀ σ H, Pv xs.length σ H → D.nx σ H) :
    ∃ W : Nat → Nat → L2.St → Hp → Prop, (∃ m, W 0 m σ H) ∧ ∀ i m σ H, W i m σ H →
      ((Ite K a).stop i H ∧ D.nx σ H) ∨ ((Ite K a).go i H ∧ ∃ N : L2.St → Hp → Prop, (∀ σ' H', N σ' H' → ∃ m', m' < m ∧ W (i + 1) m' σ' H') ∧ ∀ x H', (Ite K a).yld i H x H' → g x σ H' fun σ2 H2 => tb { D with nx := N, ct := N, bk := D.nx } σ2 H2) := by
  refine ⟨fun i m σ H => m = xs.length - i ∧ i ≤ xs.length ∧ Pv i σ H, ⟨xs.length, by simp, Nat.zero_le _, h0⟩, ?_⟩
  rintro i m σ H ⟨rfl, hi, p⟩
  have q := hl i σ H hi p
  by_cases hlt : i < xs.length
  · refine .inr ⟨⟨xs, xs[i], q, by simp [hlt]⟩, Pv (i + 1), fun σ' H' p' => ⟨xs.length - (i + 1), by omega, rfl, hlt, p'⟩, fun x H' y => ?_⟩
    obtain ⟨T, x, rfl, nT, rfl, y⟩ := y
    exact hs i x σ H T (y xs q) nT p
  · have e : i = xs.length := by omega
    subst e
    exact .inl ⟨⟨xs, q, Nat.le_refl _⟩, hd σ H p⟩
theorem ixN_last {n : Nat} : ixN (n + 1) (-1) = some n := by
  unfold ixN
  rw [if_neg (by decide), if_pos (by omega)]
  congr 1
  omega
theorem set_last {α : Type} (xs : List α) (v u : α) : (xs ++ [v]).set xs.length u = xs ++ [u] := by simp
section
variable {P : Program} {w : World} {K : PySem.W.Frag} {mg : Str → Option Value} {base : Heap}
def spFilled (K : PySem.W.Frag) : Sp := fun vs H Q _ => ∃ (a : Addr) (ws : List Str) (room : Int) (lead tail : Str), vs = [.ref a, .int room, .str lead, .str tail] ∧ SqL K H a (ws.map V.str) ∧ ws.length ≤ 40 ∧ (∀ y ∈ ws, y.length ≤ 60) ∧ lead.length ≤ 60 ∧ tail.length ≤ 60 ∧
  ∀ H' l, Same H H' → H l = none → H' l = some (.lst ((filledF ws room lead tail).map V.str)) → Q (.ref l) H'
abbrev FilD (K : PySem.W.Frag) (f : Addr) (fd : FuncData) : Prop := FunD K "filled" "filled" (defArgs st_filled) (defBody st_filled) (defScope st_filled) [.str (Str.ofString ""), .str (Str.ofString "")] [] f fd
theorem ok_filled {f : Addr} {fd : FuncData} {k : Nat} (F : FilD K f fd) (m_enumerate : mg "enumerate" = none) (m_len : mg "len" = none) :
    FnOk P w K mg base CX0 (k + 1) f fd ["words", "width", "first", "later"] (spFilled K) := by
  refine F.ok sc_filled (fun vs H Q E h => ?_) (fun cdv A outer s H vs Q E hr h => ?_)
  · obtain ⟨a, ws, room, lead, tail, rfl, _⟩ := h
    rfl
  · obtain ⟨a, ws, room, lead, tail, rfl, hS, hn, hw, h60, t60, q⟩ := h
    refine ⟨_, PSs.nox (pss_cons (ps_set (i := 4) sc_filled.nd rfl (.inl rfl) (pe_lst (pa_cons (pv 2) pa_nil)))
      (pss_cons (ps_for PassesOwn.never rfl (pi_enum (by rfl) m_enumerate (pa_cons (pv 0) pa_nil)) (pg_tup rfl (pgs_cons (pg_name (i := 5) sc_filled.nd rfl (Or.inl rfl)) (pgs_cons (pg_name (i := 6) sc_filled.nd rfl (Or.inl rfl)) pgs_nil))) (pss_one (ps_if (pt_cmpR op_eq (pv 5) pe_int (nomark _)) (pss_one (ps_augS (pv 4) (pe_un un_neg pe_int) get_list (pv 6) ip_addS set_list)) (pss_one (ps_if (pt_cmpR op_le (pe_op op_add (pe_op op_add (pe_callB call_len_str (by rfl) m_len PySem.boot_len (pa_cons (pe_ix ix_list (pv 4) (pe_un un_neg pe_int) (fun _ _ => rfl)) pa_nil)) pe_int) (pe_callB call_len_str (by rfl) m_len PySem.boot_len (pa_cons (pv 6) pa_nil))) (pv 1) (nomark _)) (pss_one (ps_augS (pv 4) (pe_un un_neg pe_int) get_list (pe_op op_add_str pe_str (pv 6)) ip_addS set_list)) (pss_one (ps_expr (pe_bm PySem.F.plainAttrs_list PySem.F.slot_list_append PySem.F.type_list_append mt_append (pv 4) (pa_cons (pe_op op_add_str (pv 3) (pv 6)) pa_nil)))))))))
      (pss_one (ps_ret (pv 4))))), ?_⟩
    have sz : sizeLine = 16777216 := sizeLine_eq
    refine ⟨_, rfl, by show 1 ≤ sizeLine; decide, fun L nL => ?_⟩
    refine go nL fun H1 s1 e1 => ?_
    refine ⟨_, rfl, a, _, rfl, s1.seq hS, for_enum (xs := ws.map V.str) (fun i σ H' => Same H H' ∧ (∃ x5 x6, σ = [some (.ref a), some (.int room), some (.str lead), some (.str tail), some (.ref L), x5, x6]) ∧
        ∃ (done : List Str) (cur : Str), H' L = some (.lst ((done ++ [cur]).map V.str)) ∧ cur.length ≤ 120 + 61 * i ∧ done.length ≤ i ∧ (i = 0 → done = [] ∧ cur = lead) ∧ (0 < i → fillGo room tail done cur (ws.drop i) = filledF ws room lead tail))
      ⟨s1, ⟨_, _, rfl⟩, [], lead, e1, by omega, Nat.le_refl _, (fun _ => ⟨rfl, rfl⟩), fun z => absurd z (Nat.lt_irrefl 0)⟩ (fun i σ H' _ ⟨sm, _⟩ => sm.seq hS) ?_ ?_⟩
    · rintro i x σ H2 T hx nT ⟨sm, ⟨x5, x6, rfl⟩, done, cur, eL, hc, hd, h0, hi⟩
      obtain ⟨w, ew, rfl⟩ : ∃ w, ws[i]? = some w ∧ x = V.str w := by
        rw [List.getElem?_map] at hx
        cases e : ws[i]? with
        | none => rw [e] at hx; cases hx
        | some w => rw [e] at hx; exact ⟨w, rfl, (Option.some.inj hx).symm⟩
      have hil : i < ws.length := (List.getElem?_eq_some_iff.mp ew).1
      have ewi : ws[i] = w := (List.getElem?_eq_some_iff.mp ew).2
      have edrop : ws.drop i = w :: ws.drop (i + 1) := by rw [List.drop_eq_getElem_cons hil, ewi]
      have w60 : w.length ≤ 60 := hw w (List.mem_of_getElem? ew)
      refine ⟨T, _, rfl, SqT.of upd_same, rfl, _, _, rfl, _, _, rfl, rfl, ?_⟩
      refine go nT fun H3 s3 _ => ?_
      have eL3 : H3 L = some (.lst ((done ++ [cur]).map V.str)) := s3 _ _ eL
      have S3 : Same H H3 := sm.trans s3
      have elast : (done ++ [cur]).map V.str = done.map V.str ++ [V.str cur] := by rw [List.map_append]; rfl
      have ll : ((done ++ [cur]).map V.str).length = done.length + 1 := by simp
      have at1 : atI ((done ++ [cur]).map V.str) (-1) = some (V.str cur) := by rw [elast]; exact atI_last _ _
      have put1 : ∀ u : Str, ((done ++ [cur]).map V.str).set done.length (V.str u) = (done ++ [u]).map V.str := fun u => by
        rw [elast, List.map_append]
        have := set_last (done.map V.str) (V.str cur) (V.str u)
        rw [List.length_map] at this
        exact this
      have ix1 : ixN ((done ++ [cur]).map V.str).length (-1) = some done.length := by rw [ll]; exact ixN_last
      have lcur : cur.length ≤ 3000 := by omega
      refine ⟨_, rfl, rfl, _, rfl, ite2 (fun e => ?_) (fun e => ?_)⟩
      · have i0 : i = 0 := by
          have := of_decide_eq_true e
          have h2 : ((i : Nat) : Int) = 0 := V.int.inj this
          omega
        subst i0
        obtain ⟨rfl, rfl⟩ := h0 rfl
        refine ⟨.ref L, rfl, 1, rfl, L, _, -1, .str cur, rfl, rfl, SqL.of eL3, at1, _, rfl, cur, w, rfl, rfl, by omega, L, _, -1, _, rfl, rfl, eL3, ix1, ?_⟩
        rw [put1]
        refine goU fun H4 u4 e4 => ?_
        refine ⟨fun b o e => u4 b o (ne_of_none e nL) (S3 b o e), ⟨_, _, rfl⟩, [], cur ++ w, e4, by rw [Str.length_append]; omega, Nat.zero_le _, (fun z => by omega), fun _ => ?_⟩
        have e5 : ws = w :: ws.drop 1 := by rw [← edrop]; rfl
        show fillGo room tail [] (cur ++ w) (ws.drop 1) = filledF ws room cur tail
        conv => rhs; rw [e5]
        rfl
      · have i0 : 0 < i := by
          have h2 : ¬ (V.int ((i : Nat) : Int) = V.int 0) := of_decide_eq_false (Bool.eq_false_iff.mpr e)
          rcases Nat.eq_zero_or_pos i with h | h
          · subst h
            exact absurd rfl h2
          · exact h
        have hgo := hi i0
        rw [edrop] at hgo
        have hgo' : (if ((cur.length : Int) + 1 + (w.length : Int)) ≤ room then fillGo room tail done (cur ++ (blank ++ w)) (ws.drop (i + 1)) else fillGo room tail (done ++ [cur]) (tail ++ w) (ws.drop (i + 1))) = filledF ws room lead tail := hgo
        refine ⟨.ref L, rfl, 1, rfl, L, _, -1, .str cur, rfl, rfl, SqL.of eL3, at1, cur, rfl, by omega, _, 1, rfl, rfl, _, rfl, w, rfl, by omega, _, _, rfl, rfl, _, rfl, _, _, rfl, rfl, _, rfl, ite2 (fun e => ?_) (fun e => ?_)⟩
        · have h1 : ((cur.length : Int) + 1 + (w.length : Int)) ≤ room := of_decide_eq_true e
          rw [if_pos h1] at hgo'
          refine ⟨.ref L, rfl, 1, rfl, L, _, -1, .str cur, rfl, rfl, SqL.of eL3, at1, _, rfl, _, w, rfl, rfl, ?_, cur, blank ++ w, rfl, rfl, ?_, L, _, -1, _, rfl, rfl, eL3, ix1, ?_⟩
          · rw [blank_len]
            omega
          · rw [Str.length_append, blank_len]
            omega
          rw [put1]
          refine goU fun H4 u4 e4 => ?_
          exact ⟨fun b o e => u4 b o (ne_of_none e nL) (S3 b o e), ⟨_, _, rfl⟩, done, cur ++ (blank ++ w), e4, by rw [Str.length_append, Str.length_append, blank_len]; omega, by omega, (fun z => by omega), fun _ => hgo'⟩
        · have h1 : ¬ ((cur.length : Int) + 1 + (w.length : Int)) ≤ room := of_decide_eq_false (Bool.eq_false_iff.mpr e)
          rw [if_neg h1] at hgo'
          refine ⟨.ref L, rfl, .inl ⟨rfl, _, SqL.of eL3⟩, _, rfl, _, rfl, tail, w, rfl, rfl, by omega, L, _, _, rfl, rfl, eL3, ?_, ?_⟩
          · rw [ll]
            omega
          refine goU fun H4 u4 e4 => ?_
          refine ⟨fun b o e => u4 b o (ne_of_none e nL) (S3 b o e), ⟨_, _, rfl⟩, done ++ [cur], tail ++ w, ?_, by rw [Str.length_append]; omega, ?_, (fun z => by omega), fun _ => hgo'⟩
          · rw [e4, List.map_append (l₁ := done ++ [cur])]
            rfl
          · rw [List.length_append]
            show done.length + 1 ≤ i + 1
            omega
    · rintro σ H2 ⟨sm, ⟨x5, x6, rfl⟩, done, cur, eL, hc, hd, h0, hi⟩
      refine ⟨_, rfl, q _ L sm nL ?_⟩
      rw [List.length_map] at h0 hi
      rw [eL]
      cases ws with
      | nil =>
        obtain ⟨rfl, rfl⟩ := h0 rfl
        rfl
      | cons w r =>
        have e := hi (by simp)
        rw [List.drop_length] at e
        rw [← e]
        rfl
end
end WB

set_option Elab.async false
set_option linter.all false
set_option maxRecDepth 100000
set_option maxHeartbeats 4000000
namespace WB
open PySem PySem.Spec PyProof.Rows L2
open TL (tl)
abbrev st_told : Stmt := topS 10
theorem sc_told : FnScope ["_law_things", "_law_room", "_law_lead_here", "_law_tail", "_law_way"] ["_law_things", "_law_room", "_law_lead_here", "_law_tail", "_law_way"] (defScope st_told) := ⟨rfl, rfl, rfl, by decide +kernel, rfl, by decide +kernel, by decide +kernel⟩
/-! ### how filled's arguments bind -/
def pick {α : Type} (l : List α) (i : Nat) : List α := (l[i]?).toList
theorem pick_vals {vs : List V} {us : List Value} (h : Vals vs us) (i : Nat) : Vals (pick vs i) (pick us i) := by
  unfold pick
  have hl := h.length
  by_cases hi : i < vs.length
  · have hi2 : i < us.length := by omega
    obtain ⟨u, hu, r⟩ := h.get (List.getElem?_eq_getElem hi)
    rw [List.getElem?_eq_getElem hi, hu]
    exact .cons r .nil
  · rw [List.getElem?_eq_none (by omega), List.getElem?_eq_none (by omega)]
    exact .nil
def put1 {α : Type} (us its ws : List α) : List α := us ++ (pick its 0 ++ pick ws 0)
def put4 {α : Type} (us its ws : List α) : List α := us ++ (pick ws 3 ++ (pick ws 2 ++ (pick ws 1 ++ pick ws 0)))
abbrev filPs : List Str := ["words", "width", "first", "later"]
abbrev fil0 : List V := [.str (Str.ofString ""), .str (Str.ofString "")]
section
variable {K : PySem.W.Frag} {f : Addr} {fd : FuncData}
theorem fil_b4 (F : FilD K f fd) : Binds K fd filPs [] := by
  obtain ⟨ds, hv, b⟩ := F.binds1 (ps := filPs) 4 2 (by simp) rfl (fun T kV doc pm an cdv ct us its h1 h2 => match us, its, h1, h2 with | [_, _, _, _], [_, _], _, _ => ⟨_, rfl, rfl⟩)
  cases hv
  exact b
theorem fil_b2 (F : FilD K f fd) : ∃ ds, Vals fil0 ds ∧ Binds K fd filPs ds :=
  F.binds1 (ps := filPs) 2 0 (by simp) rfl (fun T kV doc pm an cdv ct us its h1 h2 => match us, its, h1, h2 with | [_, _], [_, _], _, _ => ⟨_, rfl, rfl⟩)
theorem fil_k1 (F : FilD K f fd) : ∃ its : List Value, KBn K fd filPs 2 ["later"] (fun us ws => put1 us its ws) (fun vs zs => put1 vs fil0 zs) :=
  F.kbindsD (ps := filPs) 2 ["later"] (fun us its ws => put1 us its ws) (by simp) (fun h1 h2 h3 => h1.append ((pick_vals h2 0).append (pick_vals h3 0)))
    (fun T kV doc pm an cdv ct us its ws h1 h2 h3 => match us, its, ws, h1, h2, h3 with | [_, _], [_, _], [_], _, _, _ => ⟨_, rfl, rfl⟩)
theorem fil_k4 (F : FilD K f fd) : ∃ its : List Value, KBn K fd filPs 0 ["later", "first", "width", "words"] (fun us ws => put4 us its ws) (fun vs zs => put4 vs fil0 zs) :=
  F.kbindsD (ps := filPs) 0 ["later", "first", "width", "words"] (fun us its ws => put4 us its ws) (by simp) (fun h1 h2 h3 => h1.append ((pick_vals h3 3).append ((pick_vals h3 2).append ((pick_vals h3 1).append (pick_vals h3 0)))))
    (fun T kV doc pm an cdv ct us its ws h1 h2 h3 => match us, its, ws, h1, h2, h3 with | [], [_, _], [_, _, _, _], _, _, _ => ⟨_, rfl, rfl⟩)
end
section
variable {P : Program} {w : World} {K : PySem.W.Frag} {mg : Str → Option Value} {base : Heap}
def leadOf (way : Int) (lead : Str) : Str := if way = 1 ∨ way = 2 then Str.ofString "" else lead
def tailOf (way : Int) (tail : Str) : Str := if way = 1 then Str.ofString "" else tail
def spTold (K : PySem.W.Frag) : Sp := fun vs H Q _ => ∃ (a : Addr) (ws : List Str) (room : Int) (lead tail : Str) (way : Int), vs = [.ref a, .int room, .str lead, .str tail, .int way] ∧ SqL K H a (ws.map V.str) ∧ ws.length ≤ 40 ∧ (∀ y ∈ ws, y.length ≤ 60) ∧ lead.length ≤ 60 ∧ tail.length ≤ 60 ∧
  ∀ H' l, Same H H' → H l = none → H' l = some (.lst ((filledF ws room (leadOf way lead) (tailOf way tail)).map V.str)) → Q (.ref l) H'
theorem ok_told {f fF : Addr} {fd fdF : FuncData} {k : Nat} (F : Fun K "_law_told" "_law_told" st_told f fd) (D : FilD K fF fdF) (gF : mg "filled" = some (.ref fF)) (m_enumerate : mg "enumerate" = none) (m_len : mg "len" = none) :
    FnOk P w K mg base CX0 (k + 2) f fd ["_law_things", "_law_room", "_law_lead_here", "_law_tail", "_law_way"] (spTold K) := by
  have G_filled : FnOk P w K mg base CX0 (k + 1) fF fdF filPs (spFilled K) := ok_filled D m_enumerate m_len
  have kF := D.kp
  have b4 := fil_b4 D
  obtain ⟨ds2, hv2, b2⟩ := fil_b2 D
  obtain ⟨i1, kb1⟩ := fil_k1 D
  obtain ⟨i4, kb4⟩ := fil_k4 D
  have e0 : (Str.ofString "").length ≤ 60 := by decide +kernel
  refine F.ok sc_told (fun vs H Q E h => ?_) (fun cdv A outer s H vs Q E hr h => ?_)
  · obtain ⟨a, ws, room, lead, tail, way, rfl, _⟩ := h
    rfl
  · obtain ⟨a, ws, room, lead, tail, way, rfl, hS, hn, hw, h60, t60, q⟩ := h
    refine ⟨_, pss_cons (ps_if (pt_cmpR op_eq (pv 4) pe_int (nomark _)) (pss_one (ps_ret (pe_call G_filled hr (by rfl) gF kF b4 .nil pass0 (pa_cons (pv 0) (pa_cons (pv 1) (pa_cons (pv 2) (pa_cons (pv 3) pa_nil))))))) pss_nil)
      (pss_cons (ps_if (pt_cmpR op_eq (pv 4) pe_int (nomark _)) (pss_one (ps_ret (pe_call G_filled hr (by rfl) gF kF b2 hv2 pass0 (pa_cons (pv 0) (pa_cons (pv 1) pa_nil))))) pss_nil)
      (pss_cons (ps_if (pt_cmpR op_eq (pv 4) pe_int (nomark _)) (pss_one (ps_ret (pe_callN G_filled hr (by rfl) gF kF kb1 pass0 (pa_cons (pv 0) (pa_cons (pv 1) pa_nil)) (pk_cons (pv 3) pk_nil)))) pss_nil)
      (pss_one (ps_ret (pe_callN0 G_filled hr (by rfl) gF kF kb4 pass0 (pk_cons (pv 3) (pk_cons (pv 2) (pk_cons (pv 1) (pk_cons (pv 0) pk_nil))))))))), ?_⟩
    refine ⟨_, rfl, rfl, _, rfl, ite2 (fun e => ?_) (fun e => ?_)⟩
    · have w0 : way = 0 := V.int.inj (of_decide_eq_true e)
      subst w0
      exact ⟨_, rfl, _, rfl, _, rfl, _, rfl, a, ws, room, lead, tail, rfl, hS, hn, hw, h60, t60, q⟩
    refine ⟨_, rfl, rfl, _, rfl, ite2 (fun e => ?_) (fun e1 => ?_)⟩
    · have w0 : way = 1 := V.int.inj (of_decide_eq_true e)
      subst w0
      exact ⟨_, rfl, _, rfl, a, ws, room, Str.ofString "", Str.ofString "", rfl, hS, hn, hw, e0, e0, q⟩
    have n1 : way ≠ 1 := fun z => e1 (decide_eq_true (congrArg V.int z))
    have et : tailOf way tail = tail := if_neg n1
    refine ⟨_, rfl, rfl, _, rfl, ite2 (fun e => ?_) (fun e2 => ?_)⟩
    · have w0 : way = 2 := V.int.inj (of_decide_eq_true e)
      subst w0
      exact ⟨_, rfl, _, rfl, _, rfl, rfl, rfl, a, ws, room, Str.ofString "", tail, rfl, hS, hn, hw, e0, t60, q⟩
    · have n2 : way ≠ 2 := fun z => e2 (decide_eq_true (congrArg V.int z))
      have el : leadOf way lead = lead := if_neg (fun z => z.elim n1 n2)
      rw [et, el] at q
      exact ⟨_, rfl, _, rfl, _, rfl, _, rfl, rfl, rfl, a, ws, room, lead, tail, rfl, hS, hn, hw, h60, t60, q⟩
end
end WB

set_option Elab.async false
set_option linter.all false
set_option maxRecDepth 100000
set_option maxHeartbeats 4000000
namespace WB
open PySem PySem.Spec PyProof.Rows L2
open TL (tl)
abbrev st_right : Stmt := topS 11
theorem sc_right : FnScope ["_law_lines", "_law_things", "_law_room", "_law_lead_here", "_law_tail", "_law_at", "_law_k", "_law_line", "_law_begin", "_law_left", "_law_some"] ["_law_lines", "_law_things", "_law_room", "_law_lead_here", "_law_tail"] (defScope st_right) := ⟨rfl, rfl, rfl, by decide +kernel, rfl, by decide +kernel, by decide +kernel⟩
/-! ### texts -/
theorem starts (x y : Str) : Txt.startswith x y = ((tl x).take (tl y).length == tl y) := by
  unfold Txt.startswith
  rw [StrLaws.subAt_eq, List.drop_zero, TL.len_tl y]
  by_cases h : (tl y).length ≤ (tl x).length
  · have e : decide (0 + (tl y).length ≤ x.length) = true := decide_eq_true (by rw [TL.len_tl x]; omega)
    rw [e, Bool.true_and]
  · have e : decide (0 + (tl y).length ≤ x.length) = false := decide_eq_false (by rw [TL.len_tl x]; omega)
    rw [e, Bool.false_and]
    cases q : ((tl x).take (tl y).length == tl y) with
    | false => rfl
    | true =>
      have z := congrArg List.length (eq_of_beq q)
      rw [List.length_take] at z
      omega
theorem starts_app (b y : Str) : Txt.startswith (b ++ y) b = true := by
  rw [starts, TL.tl_append, List.take_left]
  exact beq_self_eq_true _
theorem cut_app (b y : Str) : cutS (b ++ y) (some (b.length : Int)) none = y := str_ext (by rw [tl_cut_from, TL.tl_append, TL.len_tl, List.drop_left])
/-- a word: some signs, no blank -/
def IsW (y : Str) : Prop := Tq Wd 60 y ∧ tl y ≠ []
theorem jn_ne {v : Str} (h : tl v ≠ []) (r : List Str) : tl (jn (v :: r)) ≠ [] := by
  cases r with
  | nil => exact h
  | cons u r =>
    intro z
    have z' : tl (v ++ (blank ++ jn (u :: r))) = [] := z
    rw [TL.tl_append] at z'
    exact h (List.append_eq_nil_iff.mp z').1
theorem w_last {v : Str} (h : IsW v) : ∃ pre c, tl v = pre ++ [c] ∧ c ≠ 32 := by
  have e := List.dropLast_concat_getLast h.2
  exact ⟨_, _, e.symm, (h.1.pl _ (List.getLast_mem h.2)).1⟩
theorem jn_last : ∀ (v : Str) (r : List Str), IsW v → (∀ y ∈ r, IsW y) → ∃ pre c, tl (jn (v :: r)) = pre ++ [c] ∧ c ≠ 32
  | v, [], h, _ => w_last h
  | v, u :: r, h, k => by
    obtain ⟨pre, c, e, hc⟩ := jn_last u r (k u List.mem_cons_self) fun y hy => k y (List.mem_cons_of_mem _ hy)
    refine ⟨tl v ++ (32 :: pre), c, ?_, hc⟩
    show tl (v ++ (blank ++ jn (u :: r))) = _
    rw [TL.tl_append, TL.tl_append, e, blank_tl]
    simp
theorem ends_not {x : Str} {pre : List Nat} {c : Nat} (h : tl x = pre ++ [c]) (hc : c ≠ 32) : Txt.endswith x blank = false := by
  unfold Txt.endswith
  rw [StrLaws.subAt_eq, blank_len]
  have e1 : x.length - 1 = pre.length := by rw [TL.len_tl, h]; simp
  rw [e1, show x.cps.toList = pre ++ [c] from h, List.drop_left, show blank.cps.toList = [32] from blank_tl]
  have : (List.take 1 [c] == [32]) = false := by
    show ([c] == [32]) = false
    simp [hc]
  rw [this, Bool.and_false]
theorem eq_or_starts (v : Str) : ∀ (r : List Str), jn (v :: r) ≠ v → Txt.startswith (jn (v :: r)) (v ++ blank) = true
  | [], h => absurd rfl h
  | u :: r, _ => by
    have e : jn (v :: u :: r) = (v ++ blank) ++ jn (u :: r) := by rw [str_assoc]; rfl
    rw [e]
    exact starts_app _ _
theorem cut_next (v : Str) (r : List Str) : cutS (jn (v :: r)) (some ((v.length : Int) + 1)) none = jn r := by
  have e1 : ((v.length : Int) + 1) = ((v.length + 1 : Nat) : Int) := by omega
  rw [e1]
  refine str_ext ?_
  rw [tl_cut_from]
  cases r with
  | nil =>
    show (tl v).drop (v.length + 1) = tl (Str.ofString "")
    rw [List.drop_of_length_le (by rw [TL.len_tl]; omega)]
    decide +kernel
  | cons u r =>
    show (tl (v ++ (blank ++ jn (u :: r)))).drop (v.length + 1) = tl (jn (u :: r))
    rw [TL.tl_append, TL.tl_append, blank_tl, TL.len_tl, ← List.append_assoc]
    have : (tl v).length + 1 = (tl v ++ [32]).length := by simp
    rw [this, List.drop_left]
/-! ### a line at a time -/
def beginOf (lead tail : Str) (k : Nat) : Str := if 0 < k then tail else lead
/-- behind k lines and n words -/
def Now (room : Int) (lead tail : Str) (things lines : List Str) (k n : Nat) : Prop := n ≤ things.length ∧
  ((lines.drop k = [] ∧ things.drop n = []) ∨ Fits room tail (beginOf lead tail k) (things.drop n) (lines.drop k) ∨ (things = [] ∧ k = 0 ∧ lines = [lead]))
theorem now_start (room : Int) (lead tail : Str) (things : List Str) : Now room lead tail things (filledF things room lead tail) 0 0 := by
  refine ⟨Nat.zero_le _, ?_⟩
  cases things with
  | nil => exact .inr (.inr ⟨rfl, rfl, rfl⟩)
  | cons w r => exact .inr (.inl (filled_fits room lead tail w r))
theorem now_end {room : Int} {lead tail : Str} {things lines : List Str} {n : Nat} (h : Now room lead tail things lines lines.length n) : n = things.length := by
  obtain ⟨hn, h | h | ⟨rfl, h0, rfl⟩⟩ := h
  · have := List.drop_eq_nil_iff.mp h.2
    omega
  · rw [List.drop_length] at h
    exact absurd rfl h.lines.1
  · cases h0
theorem now_step {room : Int} {lead tail : Str} {things lines : List Str} {k n : Nat} {x : Str} (h : Now room lead tail things lines k n) (hx : lines[k]? = some x) :
    ∃ g : List Str, x = beginOf lead tail k ++ jn g ∧ (∀ j, j < g.length → things[n + j]? = g[j]?) ∧ n + g.length ≤ things.length ∧ (g = [] → things = []) ∧ (1 < g.length → (x.length : Int) ≤ room) ∧
      (∀ u, things[n + g.length]? = some u → room < (x.length : Int) + 1 + (u.length : Int)) ∧ Now room lead tail things lines (k + 1) (n + g.length) := by
  have hk : k < lines.length := (List.getElem?_eq_some_iff.mp hx).1
  have exk : lines[k] = x := (List.getElem?_eq_some_iff.mp hx).2
  have ed : lines.drop k = x :: lines.drop (k + 1) := by rw [List.drop_eq_getElem_cons hk, exk]
  obtain ⟨hn, h | h | ⟨rfl, rfl, rfl⟩⟩ := h
  · rw [ed] at h
    cases h.1
  · rw [ed] at h
    have key : ∀ (g rest : List Str), things.drop n = g ++ rest → (∀ j, j < g.length → things[n + j]? = g[j]?) ∧ n + g.length ≤ things.length ∧ things.drop (n + g.length) = rest := fun g rest e => by
      refine ⟨fun j hj => ?_, ?_, ?_⟩
      · rw [← List.getElem?_drop, e, List.getElem?_append_left hj]
      · have := congrArg List.length e
        rw [List.length_drop, List.length_append] at this
        omega
      · rw [← List.drop_drop, e, List.drop_left]
    generalize ew : things.drop n = ws at h
    generalize el : lines.drop (k + 1) = ls at h
    generalize eb : beginOf lead tail k = b at h
    generalize exl : x :: ls = xl at h
    cases h with
    | @one b v r h =>
      injection exl with e1 e2
      obtain ⟨k1, k2, k3⟩ := key (v :: r) [] (by rw [ew, List.append_nil])
      refine ⟨v :: r, e1, k1, k2, (fun z => by cases z), fun z => ?_, fun u hu => ?_, k2, .inl ⟨by rw [el]; exact e2, k3⟩⟩
      · rw [e1]
        exact h (fun q => by rw [q] at z; exact Nat.lt_irrefl 1 z)
      · have : n + (v :: r).length < things.length := (List.getElem?_eq_some_iff.mp hu).1
        have := List.drop_eq_nil_iff.mp k3
        omega
    | @more b v r u s ls' h hu k' =>
      injection exl with e1 e2
      obtain ⟨k1, k2, k3⟩ := key (v :: r) (u :: s) ew
      refine ⟨v :: r, e1, k1, k2, (fun z => by cases z), fun z => ?_, fun u' hu' => ?_, k2, .inr (.inl ?_)⟩
      · rw [e1]
        exact h (fun q => by rw [q] at z; exact Nat.lt_irrefl 1 z)
      · have e3 : things[n + (v :: r).length]? = (things.drop (n + (v :: r).length))[0]? := by rw [List.getElem?_drop]; rfl
        rw [hu', k3] at e3
        have e4 : u' = u := Option.some.inj e3
        rw [e4, e1]
        exact hu
      · rw [k3, el, e2]
        exact k'
  · have e1 : x = lead := (Option.some.inj hx).symm
    refine ⟨[], ?_, (fun j hj => absurd hj (Nat.not_lt_zero _)), hn, (fun _ => rfl), (fun z => absurd z (by decide)), (fun u hu => by simp at hu), hn, .inl ⟨rfl, by simp⟩⟩
    rw [e1]
    exact str_ext (by rw [TL.tl_append]; show tl lead = tl lead ++ tl (Str.ofString ""); rw [show tl (Str.ofString "") = [] from by decide +kernel, List.append_nil])
end WB

set_option Elab.async false
set_option linter.all false
set_option maxRecDepth 100000
set_option maxHeartbeats 4000000
namespace WB
open PySem PySem.Spec PyProof.Rows L2
open TL (tl)
theorem ite_t {b : Bool} {A B : Prop} (h : b = true) (k : A) : if b = true then A else B := by
  rw [if_pos h]
  exact k
section
variable {P : Program} {w : World} {K : PySem.W.Frag} {mg : Str → Option Value} {base : Heap}
def spRight (K : PySem.W.Frag) : Sp := fun vs H Q _ => ∃ (l a : Addr) (lines things : List Str) (room : Int) (lead tail : Str), vs = [.ref l, .ref a, .int room, .str lead, .str tail] ∧ H l = some (.lst (lines.map V.str)) ∧ H a = some (.lst (things.map V.str)) ∧
  (∀ y ∈ things, IsW y) ∧ things.length ≤ 40 ∧ (∀ y ∈ lines, y.length ≤ 4000) ∧ lead.length ≤ 60 ∧ tail.length ≤ 60 ∧ Now room lead tail things lines 0 0 ∧ ∀ H', Same H H' → Q (.bl true) H'
theorem ok_right {f : Addr} {fd : FuncData} {k : Nat} (F : Fun K "_law_right" "_law_right" st_right f fd) (m_enumerate : mg "enumerate" = none) (m_len : mg "len" = none) (m_isinstance : mg "isinstance" = none) (m_str : mg "str" = none) :
    FnOk P w K mg base CX0 (k + 1) f fd ["_law_lines", "_law_things", "_law_room", "_law_lead_here", "_law_tail"] (spRight K) := by
  refine F.ok sc_right (fun vs H Q E h => ?_) (fun cdv A outer s H vs Q E hr h => ?_)
  · obtain ⟨l, a, lines, things, room, lead, tail, rfl, _⟩ := h
    rfl
  · obtain ⟨l, a, lines, things, room, lead, tail, rfl, hL, hA, hW, h40, hlen, h60, t60, hnow, q⟩ := h
    have sz : sizeLine = 16777216 := sizeLine_eq
    refine ⟨_, pss_cons (ps_set (i := 5) sc_right.nd rfl (.inl rfl) pe_int)
      (pss_cons (ps_for PassesOwn.never rfl (pi_enum (by rfl) m_enumerate (pa_cons (pv 0) pa_nil)) (pg_tup rfl (pgs_cons (pg_name (i := 6) sc_right.nd rfl (Or.inl rfl)) (pgs_cons (pg_name (i := 7) sc_right.nd rfl (Or.inl rfl)) pgs_nil))) (pss_cons (ps_set (i := 8) sc_right.nd rfl (.inl rfl) (pe_ifExp (pt_cmpR op_gt (pv 6) pe_int (nomark _)) (pv 4) (pv 3)))
      (pss_cons (ps_if (PW.pt (pw_or (pt_not (pt_val (pe_callB call_isi (by rfl) m_isinstance (by decide +kernel) (pa_cons (pv 7) (pa_cons (pe_bltn (v := .ty "str") (by rfl) m_str (by decide +kernel) rfl) pa_nil))))) (pw_or1 (pt_not (pt_val (pe_m1 PySem.F.slot_str_startswith PySem.F.type_str_startswith mt_startswith (pv 7) (pv 8))))))) (pss_one (ps_ret pe_bl)) pss_nil)
      (pss_cons (ps_set (i := 9) sc_right.nd rfl (.inl rfl) (pe_slice sl_str (pv 7) (po_some (pe_callB call_len_str (by rfl) m_len PySem.boot_len (pa_cons (pv 8) pa_nil))) po_none))
      (pss_cons (ps_set (i := 10) sc_right.nd rfl (.inl rfl) pe_int)
      (pss_cons (ps_while PassesOwn.never (PW.pt (pw_and (pt_cmpR op_ne (pv 9) pe_str (nomark _)) (pw_and (pt_cmpR op_lt (pv 5) (pe_callB call_len_seq (by rfl) m_len PySem.boot_len (pa_cons (pv 1) pa_nil)) (nomark _)) (pw_and1 (PW.pt (pw_or (pt_cmpR op_eq (pv 9) (pe_ix ix_list (pv 1) (pv 5) (fun _ _ => rfl)) (nomark _)) (pw_or1 (pt_val (pe_m1 PySem.F.slot_str_startswith PySem.F.type_str_startswith mt_startswith (pv 9) (pe_op op_add_str (pe_ix ix_list (pv 1) (pv 5) (fun _ _ => rfl)) pe_str)))))))))) (pss_cons (ps_set (i := 9) sc_right.nd rfl (.inl rfl) (pe_slice sl_str (pv 9) (po_some (pe_op op_add (pe_callB call_len_str (by rfl) m_len PySem.boot_len (pa_cons (pe_ix ix_list (pv 1) (pv 5) (fun _ _ => rfl)) pa_nil)) pe_int)) po_none))
      (pss_cons (ps_set (i := 5) sc_right.nd rfl (.inl rfl) (pe_op op_add (pv 5) pe_int))
      (pss_one (ps_set (i := 10) sc_right.nd rfl (.inl rfl) (pe_op op_add (pv 10) pe_int))))))
      (pss_cons (ps_if (PW.pt (pw_or (pt_cmpR op_ne (pv 9) pe_str (nomark _)) (pw_or (PW.pt (pw_and (pt_cmpR op_eq (pv 10) pe_int (nomark _)) (pw_and1 (pt_cmpR (op_neD hr.units) (pv 1) (pe_lst pa_nil) (nomark _))))) (pw_or1 (PW.pt (pw_and (pt_cmpR op_gt (pv 10) pe_int (nomark _)) (pw_and1 (pt_cmpR op_gt (pe_callB call_len_str (by rfl) m_len PySem.boot_len (pa_cons (pv 7) pa_nil)) (pv 2) (nomark _))))))))) (pss_one (ps_ret pe_bl)) pss_nil)
      (pss_one (ps_if (PW.pt (pw_or (PW.pt (pw_and (pt_cmpR op_lt (pv 5) (pe_callB call_len_seq (by rfl) m_len PySem.boot_len (pa_cons (pv 1) pa_nil)) (nomark _)) (pw_and1 (pt_cmpR op_le (pe_op op_add (pe_op op_add (pe_callB call_len_str (by rfl) m_len PySem.boot_len (pa_cons (pv 7) pa_nil)) pe_int) (pe_callB call_len_str (by rfl) m_len PySem.boot_len (pa_cons (pe_ix ix_list (pv 1) (pv 5) (fun _ _ => rfl)) pa_nil))) (pv 2) (nomark _))))) (pw_or1 (PW.pt (pw_and (pt_cmpR op_gt (pv 10) pe_int (nomark _)) (pw_and1 (pt_val (pe_m1 PySem.F.slot_str_endswith PySem.F.type_str_endswith mt_endswith (pv 7) pe_str)))))))) (pss_one (ps_ret pe_bl)) pss_nil)))))))))
      (pss_one (ps_ret (pe_cmpR op_eq (pv 5) (pe_callB call_len_seq (by rfl) m_len PySem.boot_len (pa_cons (pv 1) pa_nil)) (nomark _))))), ?_⟩
    refine ⟨_, rfl, l, _, rfl, SqL.of hL, for_enum (xs := lines.map V.str) (fun i σ H' => Same H H' ∧ ∃ (n : Nat) (x6 x7 x8 x9 x10 : Option V), σ = [some (.ref l), some (.ref a), some (.int room), some (.str lead), some (.str tail), some (.int (n : Int)), x6, x7, x8, x9, x10] ∧ Now room lead tail things lines i n)
      ⟨Same.refl _, 0, _, _, _, _, _, rfl, hnow⟩ (fun i σ H' _ ⟨sm, _⟩ => SqL.of (sm _ _ hL)) ?_ ?_⟩
    · rintro i x σ H2 T hx nT ⟨sm, n, x6, x7, x8, x9, x10, rfl, nw⟩
      obtain ⟨z, ez, rfl⟩ : ∃ z, lines[i]? = some z ∧ x = V.str z := by
        rw [List.getElem?_map] at hx
        cases e : lines[i]? with
        | none => rw [e] at hx; cases hx
        | some w => rw [e] at hx; exact ⟨w, rfl, (Option.some.inj hx).symm⟩
      obtain ⟨g, e1, g2, g3, g4, g5, g6, g7⟩ := now_step nw ez
      have hz : z.length ≤ 4000 := hlen z (List.mem_of_getElem? ez)
      have gW : ∀ y ∈ g, IsW y := fun y hy => by
        obtain ⟨j, hj, ej⟩ := List.getElem_of_mem hy
        have := g2 j hj
        rw [List.getElem?_eq_getElem hj, ej] at this
        exact hW y (List.mem_of_getElem? this)
      refine ⟨T, _, rfl, SqT.of upd_same, rfl, _, _, rfl, _, _, rfl, rfl, ?_⟩
      refine go nT fun H3 s3 _ => ?_
      have S3 : Same H H3 := sm.trans s3
      have hA3 := S3 _ _ hA
      have lb : (beginOf lead tail i).length ≤ 60 := by
        unfold beginOf
        split <;> assumption
      -- what the line begins with
      refine ev_use (t := tIf _ _ _) (v := .str (beginOf lead tail i)) (fun R hR => ?_) ?_
      · refine ⟨_, rfl, _, 0, rfl, rfl, _, rfl, ite2 (fun e => ?_) (fun e => ?_)⟩
        · have h0 : 0 < i := by
            have := of_decide_eq_true e
            omega
          unfold beginOf at hR
          rw [if_pos h0] at hR
          exact ⟨_, rfl, hR⟩
        · have h0 : ¬ 0 < i := fun h => e (decide_eq_true (by omega))
          unfold beginOf at hR
          rw [if_neg h0] at hR
          exact ⟨_, rfl, hR⟩
      dsimp only [gName, tSeq, tIfS]
      refine tt_use (t := tOr _ _) (b := false) (fun R hR => ?_) ?_
      · refine ⟨_, rfl, _, _, _, _, true, rfl, ClsV.ty "str", TyX.base (TyOf.str _), kit_ty (by decide +kernel), _, rfl, ?_⟩
        refine ⟨_, rfl, ⟨_, rfl⟩, _, rfl, z, beginOf lead tail i, rfl, rfl, _, rfl, ?_⟩
        rw [e1, starts_app]
        exact hR
      refine iteF ?_
      have ecut : cutS z (some ((beginOf lead tail i).length : Int)) none = jn g := by
        rw [e1]
        exact cut_app _ _
      refine ⟨_, rfl, _, rfl, _, rfl, by omega, _, rfl, z, rfl, by omega, ?_⟩
      rw [ecut]
      have hjn : ∀ r : List Str, (∃ j, g.drop j = r) → (jn r).length ≤ 4000 := by
        rintro r ⟨j, rfl⟩
        have t := Tq.jn (p := fun _ => True) (m := 60) trivial (g.drop j) fun y hy => ((gW y (List.mem_of_mem_drop hy)).1).mono (Nat.le_refl _) fun _ _ => trivial
        have l1 := t.le
        have l2 : (g.drop j).length ≤ 40 := by rw [List.length_drop]; omega
        have l3 : (g.drop j).length * (60 + 1) ≤ 40 * 61 := Nat.mul_le_mul_right _ l2
        omega
      refine ⟨fun m σ H' => Same H3 H' ∧ ∃ (j : Nat) (r : List Str), g.drop j = r ∧ j ≤ g.length ∧ m = g.length - j ∧ σ = [some (.ref l), some (.ref a), some (.int room), some (.str lead), some (.str tail), some (.int ((n : Int) + (j : Int))), some (.int ((i : Nat) : Int)), some (.str z), some (.str (beginOf lead tail i)), some (.str (jn r)), some (.int (j : Int))],
        ⟨g.length, Same.refl _, 0, g, rfl, Nat.zero_le _, rfl, ?_⟩, ?_⟩
      · rw [show (n : Int) + ((0 : Nat) : Int) = (n : Int) from by omega]
        rfl
      rintro m σ4 H4 ⟨s4, j, r, ej, hj, rfl, rfl⟩
      have S4 : Same H H4 := S3.trans s4
      have hA4 := S4 _ _ hA
      cases r with
      | cons v r =>
        have hjl : j < g.length := by
          rcases Nat.lt_or_ge j g.length with h | h
          · exact h
          · rw [List.drop_of_length_le h] at ej
            cases ej
        have egj : g[j]? = some v := by
          have e3 : (g.drop j)[0]? = g[j]? := by rw [List.getElem?_drop]; rfl
          rw [← e3, ej]
          rfl
        have hWv : IsW v := gW v (List.mem_of_getElem? egj)
        have etj : things[n + j]? = some v := by rw [g2 j hjl]; exact egj
        have hat : atI (things.map V.str) ((n : Int) + (j : Int)) = some (.str v) := by
          rw [show (n : Int) + (j : Int) = ((n + j : Nat) : Int) from by omega]
          exact atI_nat (by rw [List.getElem?_map, etj]; rfl)
        have ntj : n + j < things.length := (List.getElem?_eq_some_iff.mp etj).1
        have l60 : v.length ≤ 60 := hWv.1.le
        have ljn := hjn (v :: r) ⟨j, ej⟩
        have hne : ¬ V.str (jn (v :: r)) = V.str (Str.ofString "") := fun z => jn_ne hWv.2 r (by rw [V.str.inj z]; decide +kernel)
        refine ⟨_, rfl, rfl, _, rfl, ?_⟩
        refine ite_t (by rw [decide_eq_false hne]; rfl) ?_
        refine ⟨_, rfl, _, rfl, a, _, rfl, .inl (SqL.of hA4), _, _, rfl, rfl, _, rfl, ?_⟩
        refine ite_t (decide_eq_true (by rw [List.length_map]; omega)) ?_
        refine tt_use (t := tOr _ _) (b := true) (fun R hR => ?_) ?_
        · refine ⟨_, rfl, _, rfl, _, rfl, a, _, _, .str v, rfl, rfl, SqL.of hA4, hat, rfl, _, rfl, ite2 (fun _ => hR) (fun e => ?_)⟩
          refine ⟨_, rfl, ⟨_, rfl⟩, _, rfl, _, rfl, a, _, _, .str v, rfl, rfl, SqL.of hA4, hat, v, blank, rfl, rfl, by rw [blank_len]; omega, _, _, rfl, rfl, _, rfl, ?_⟩
          rw [eq_or_starts v r (fun z => e (decide_eq_true (congrArg V.str z)))]
          exact hR
        refine iteT ⟨fun σ' H' => Same H3 H' ∧ σ' = [some (.ref l), some (.ref a), some (.int room), some (.str lead), some (.str tail), some (.int ((n : Int) + (j : Int) + 1)), some (.int ((i : Nat) : Int)), some (.str z), some (.str (beginOf lead tail i)), some (.str (jn r)), some (.int ((j : Int) + 1))], ?_, ?_⟩
        · rintro σ' H' ⟨s', rfl⟩
          refine ⟨g.length - (j + 1), by omega, s', j + 1, r, ?_, hjl, rfl, ?_⟩
          · rw [← List.drop_drop, ej]
            rfl
          · rw [show (n : Int) + ((j + 1 : Nat) : Int) = (n : Int) + (j : Int) + 1 from by omega, show ((j + 1 : Nat) : Int) = (j : Int) + 1 from by omega]
        · refine ⟨_, rfl, _, rfl, _, rfl, a, _, _, .str v, rfl, rfl, SqL.of hA4, hat, v, rfl, by omega, _, 1, rfl, rfl, _, rfl, _, rfl, by omega, ?_⟩
          rw [cut_next]
          exact ⟨_, rfl, _, 1, rfl, rfl, _, rfl, _, 1, rfl, rfl, s4, rfl⟩
      | nil =>
        have hjg : j = g.length := by
          have := List.drop_eq_nil_iff.mp ej
          omega
        subst hjg
        refine ⟨_, rfl, rfl, _, rfl, iteNS rfl (iteF ?_)⟩
        -- the first look
        dsimp only [tSeq, tIfS]
        refine tt_gen (t := tOr _ _) (fun b H' => b = false ∧ Same H4 H') (fun R c => ?_) ?_
        · refine ⟨_, rfl, rfl, _, rfl, iteNS rfl ?_⟩
          refine tt_gen (t := tAnd _ _) (fun b H' => b = false ∧ Same H4 H') (fun R c => ?_) ?_
          · refine ⟨_, rfl, rfl, _, rfl, ite2 (fun e => ?_) (fun e => c _ _ ⟨rfl, Same.refl _⟩)⟩
            have hg : g = [] := by
              have h1 : ((g.length : Nat) : Int) = 0 := V.int.inj (of_decide_eq_true e)
              exact List.length_eq_zero_iff.mp (by omega)
            have ht := g4 hg
            refine ⟨_, rfl, Nat.zero_le _, fun a1 n1 => ?_⟩
            first | refine goT n1 fun H5 s5 e5 => ?_ | refine go n1 fun H5 s5 e5 => ?_
            refine ⟨_, _, .lst (SqL.of (s5 _ _ hA4)) (dp_strs _), .lst (SqL.of e5) .nil, shaped_strs _ (fun y hy => strOk_of fun c hc => ((hW y hy).1.pl c hc).2), by decide +kernel, _, rfl, ?_⟩
            refine c _ _ ⟨?_, s5⟩
            rw [eqv_nil, ht]
            rfl
          · rintro b H5 ⟨rfl, s5⟩
            refine iteF ?_
            refine ⟨_, rfl, _, 1, rfl, rfl, _, rfl, ite2 (fun e => ?_) (fun e => c _ _ ⟨rfl, s5⟩)⟩
            have h1 : 1 < g.length := by
              have := of_decide_eq_true e
              omega
            have h2 := g5 h1
            refine ⟨_, rfl, z, rfl, by omega, _, rfl, _, _, rfl, rfl, _, rfl, c _ _ ⟨decide_eq_false (by omega), s5⟩⟩
        rintro b H5 ⟨rfl, s5⟩
        refine iteF ?_
        have hA5 := s5 _ _ hA4
        have fin : Same H H5 := S4.trans s5
        dsimp only [tNext, tSeq, tIfS]
        refine tt_use (t := tOr _ _) (b := false) (fun R hR => ?_) ?_
        · refine tt_use (t := tAnd _ _) (b := false) (fun R hR => ?_) ?_
          · refine ⟨_, rfl, _, rfl, a, _, rfl, .inl (SqL.of hA5), _, _, rfl, rfl, _, rfl, ite2 (fun e => ?_) (fun _ => hR)⟩
            have h1 : n + g.length < things.length := by
              have := of_decide_eq_true e
              rw [List.length_map] at this
              omega
            have h2 : things[n + g.length]? = some things[n + g.length] := List.getElem?_eq_getElem h1
            have h3 := g6 _ h2
            have h4 : things[n + g.length].length ≤ 60 := (hW _ (List.getElem_mem h1)).1.le
            have hat : atI (things.map V.str) ((n : Int) + ((g.length : Nat) : Int)) = some (.str things[n + g.length]) := by
              rw [show (n : Int) + ((g.length : Nat) : Int) = ((n + g.length : Nat) : Int) from by omega]
              exact atI_nat (by rw [List.getElem?_map, h2]; rfl)
            refine ⟨_, rfl, z, rfl, by omega, _, 1, rfl, rfl, _, rfl, _, rfl, a, _, _, .str things[n + g.length], rfl, rfl, SqL.of hA5, hat, things[n + g.length], rfl, by omega, _, _, rfl, rfl, _, rfl, _, _, rfl, rfl, _, rfl, ?_⟩
            rw [decide_eq_false (by omega)]
            exact hR
          · refine iteF ?_
            refine ⟨_, rfl, _, 0, rfl, rfl, _, rfl, ite2 (fun e => ?_) (fun _ => hR)⟩
            have h1 : 0 < g.length := by
              have := of_decide_eq_true e
              omega
            obtain ⟨pre, c, ep, hc⟩ : ∃ pre c, tl z = pre ++ [c] ∧ c ≠ 32 := by
              cases g with
              | nil => exact absurd h1 (Nat.lt_irrefl 0)
              | cons v r =>
                obtain ⟨pre, c, ep, hc⟩ := jn_last v r (gW v List.mem_cons_self) fun y hy => gW y (List.mem_cons_of_mem _ hy)
                refine ⟨tl (beginOf lead tail i) ++ pre, c, ?_, hc⟩
                rw [e1, TL.tl_append, ep, List.append_assoc]
            refine ⟨_, rfl, ⟨_, rfl⟩, z, blank, rfl, rfl, _, rfl, ?_⟩
            rw [ends_not ep hc]
            exact hR
        refine iteF ⟨fin, n + g.length, some (.int ((i : Nat) : Int)), some (.str z), some (.str (beginOf lead tail i)), some (.str (jn [])), some (.int ((g.length : Nat) : Int)), ?_, g7⟩
        rw [show (n : Int) + ((g.length : Nat) : Int) = ((n + g.length : Nat) : Int) from by omega]
    · rintro σ H2 ⟨sm, n, x6, x7, x8, x9, x10, rfl, nw⟩
      rw [List.length_map] at nw
      have e := now_end nw
      refine ⟨_, rfl, _, rfl, a, _, rfl, .inl (SqL.of (sm _ _ hA)), rfl, ?_⟩
      rw [List.length_map, e, decide_eq_true rfl]
      exact q _ sm
end
end WB

set_option Elab.async false
set_option linter.all false
set_option maxRecDepth 100000
set_option maxHeartbeats 4000000
namespace WB
open PySem PySem.Spec PyProof.Rows L2
open TL (tl)
abbrev st_law : Stmt := topS 12
theorem sc_law : FnScope ["_law_script", "_law_k", "_law_pot_here", "_law_many", "_law_things", "_law_room", "_law_lead_here", "_law_tail", "_law_way", "_law_handed", "_law_lines", "_law_kept", "_law_j"] ["_law_script"] (defScope st_law) := ⟨rfl, rfl, rfl, by decide +kernel, rfl, by decide +kernel, by decide +kernel⟩
theorem IsW.b8 {y : Str} (h : IsW y) : Tq B8 60 y := h.1.mono (Nat.le_refl _) fun _ z => z.2
theorem filled_tq {ws : List Str} {room : Int} {lead tail : Str} (hw : ∀ y ∈ ws, IsW y) (h40 : ws.length ≤ 40) (hl : Tq B8 60 lead) (ht : Tq B8 60 tail) : ∀ y ∈ filledF ws room lead tail, Tq B8 2600 y := by
  cases ws with
  | nil =>
    intro y hy
    rw [List.mem_singleton.mp hy]
    exact hl.mono (by decide) fun _ z => z
  | cons w r =>
    intro y hy
    refine (Fits.tq (p := B8) (by decide) (filled_fits room lead tail w r) ht hl (fun y hy => (hw y hy).b8) y hy).mono ?_ fun _ z => z
    have := Nat.mul_le_mul_right 61 h40
    omega
theorem filled_len {ws : List Str} {room : Int} {lead tail : Str} (h40 : ws.length ≤ 40) : (filledF ws room lead tail).length ≤ 40 := by
  cases ws with
  | nil => exact (by decide : 1 ≤ 40)
  | cons w r => exact Nat.le_trans (filled_fits room lead tail w r).lines.2 h40
theorem lead_tq {lead : Str} (way : Int) (h : Tq B8 40 lead) : Tq B8 40 (leadOf way lead) := by
  unfold leadOf
  split
  · exact ⟨by decide +kernel, by decide +kernel⟩
  · exact h
theorem tail_tq {tail : Str} (way : Int) (h : Tq B8 40 tail) : Tq B8 40 (tailOf way tail) := by
  unfold tailOf
  split
  · exact ⟨by decide +kernel, by decide +kernel⟩
  · exact h
theorem lead_0 (lead : Str) : leadOf 0 lead = lead := if_neg (by decide)
theorem tail_0 (tail : Str) : tailOf 0 tail = tail := if_neg (by decide)
section
variable {P : Program} {w : World} {K : PySem.W.Frag} {mg : Str → Option Value} {base : Heap}
def spLaw (K : PySem.W.Frag) : Sp := fun vs H Q _ => ∃ (a : Addr) (ns : List Int), vs = [.ref a] ∧ SqL K H a (ns.map V.int) ∧ ns.length ≤ 63 ∧ ∀ H', Q (.bl true) H'
theorem ok_law {f fT fP fC fS fL fD fR fF : Addr} {fd fdT fdP fdC fdS fdL fdD fdR fdF : FuncData} (F : Fun K "law" "law" st_law f fd)
    (D_cell : Df K mg "_law_cell" sCell ["_law_script", "_law_k"] fC fdC) (D_pot : Df K mg "_law_pot" sPot ["_law_script", "_law_k"] fP fdP) (D_take : Df K mg "_law_take" sTake ["_law_pot_here", "_law_room"] fT fdT)
    (D_signs : Df K mg "_law_signs" st_signs ["_law_pot_here", "_law_most"] fS fdS) (D_lead : Df K mg "_law_lead" st_lead ["_law_pot_here"] fL fdL)
    (D_told : Df K mg "_law_told" st_told ["_law_things", "_law_room", "_law_lead_here", "_law_tail", "_law_way"] fD fdD) (D_right : Df K mg "_law_right" st_right ["_law_lines", "_law_things", "_law_room", "_law_lead_here", "_law_tail"] fR fdR)
    (DF : FilD K fF fdF) (gF : mg "filled" = some (.ref fF))
    (m_len : mg "len" = none) (m_max : mg "max" = none) (m_min : mg "min" = none) (m_abs : mg "abs" = none) (m_range : mg "range" = none) (m_list : mg "list" = none) (m_str : mg "str" = none) (m_isinstance : mg "isinstance" = none) (m_enumerate : mg "enumerate" = none) :
    FnOk P w K mg base CX0 5 f fd ["_law_script"] (spLaw K) := by
  have G_pot : FnOk P w K mg base CX0 4 fP fdP ["_law_script", "_law_k"] (spPot K) := ok_pot D_pot.F D_cell m_len m_max m_abs
  have G_take : FnOk P w K mg base CX0 4 fT fdT ["_law_pot_here", "_law_room"] spTake := ok_take D_take.F
  have G_signs : FnOk P w K mg base CX0 4 fS fdS ["_law_pot_here", "_law_most"] spSigns := ok_signs D_signs.F D_take m_len m_range
  have G_lead : FnOk P w K mg base CX0 4 fL fdL ["_law_pot_here"] spLead := ok_lead D_lead.F D_take D_signs m_len m_range
  have G_told : FnOk P w K mg base CX0 4 fD fdD ["_law_things", "_law_room", "_law_lead_here", "_law_tail", "_law_way"] (spTold K) := ok_told D_told.F DF gF m_enumerate m_len
  have G_right : FnOk P w K mg base CX0 4 fR fdR ["_law_lines", "_law_things", "_law_room", "_law_lead_here", "_law_tail"] (spRight K) := ok_right D_right.F m_enumerate m_len m_isinstance m_str
  refine F.ok sc_law (fun vs H Q E h => ?_) (fun cdv A outer s H vs Q E hr h => ?_)
  · obtain ⟨a, ns, rfl, _⟩ := h
    rfl
  · obtain ⟨a, ns, rfl, hS, hlen, q⟩ := h
    refine ⟨_, pss_cons (ps_for PassesOwn.never rfl (pi_range1 rfl m_range (pa_cons (pe_callB (call_max2 rfl) (by rfl) m_max (by decide +kernel) (pa_cons pe_int (pa_cons (pe_callB (call_min2 rfl) (by rfl) m_min (by decide +kernel) (pa_cons (pe_callB call_len_seq (by rfl) m_len PySem.boot_len (pa_cons (pv 0) pa_nil)) (pa_cons pe_int pa_nil))) pa_nil))) pa_nil)) (pg_name (i := 1) sc_law.nd rfl (Or.inl rfl)) (pss_cons (ps_set (i := 2) sc_law.nd rfl (.inr rfl) (pe_call G_pot hr (by rfl) D_pot.g D_pot.F.kp D_pot.b .nil pass0 (pa_cons (pv 0) (pa_cons (pv 1) pa_nil))))
      (pss_cons (ps_set (i := 3) sc_law.nd rfl (.inl rfl) (pe_ix ix_list (pe_lst (pa_cons (pe_call G_take hr (by rfl) D_take.g D_take.F.kp D_take.b .nil pass0 (pa_cons (pv 2) (pa_cons pe_int pa_nil))) (pa_cons (pe_call G_take hr (by rfl) D_take.g D_take.F.kp D_take.b .nil pass0 (pa_cons (pv 2) (pa_cons pe_int pa_nil))) pa_nil))) (pe_call G_take hr (by rfl) D_take.g D_take.F.kp D_take.b .nil pass0 (pa_cons (pv 2) (pa_cons pe_int pa_nil))) (fun _ _ => rfl)))
      (pss_cons (ps_setLc (i := 4) (own := [("_law_j", 12)]) (g := gName 12) (tt := tYes)  rfl sc_law.nd rfl rfl (sw_true rfl rfl rfl (by decide +kernel)) (pi_range1 rfl m_range (pa_cons (pv 3) pa_nil)) (blkOk_by (N := ["_law_script", "_law_k", "_law_pot_here", "_law_many", "_law_things", "_law_room", "_law_lead_here", "_law_tail", "_law_way", "_law_handed", "_law_lines", "_law_kept", "_law_j"]) (sc := defScope st_law) (by decide +kernel)) (fun _ _ _ _ _ => (pg_name (i := 12) sc_law.nd rfl (Or.inl rfl))) (fun _ _ _ _ _ => pts_nil) (fun _ _ _ _ _ => (pe_call G_signs hr (by rfl) D_signs.g D_signs.F.kp D_signs.b .nil pass0 (pa_cons (pv 2) (pa_cons (pe_ix (r := rIxL K) ix_list (pe_lst (pa_cons pe_int (pa_cons pe_int (pa_cons pe_int (pa_cons pe_int pa_nil))))) (pe_call G_take hr (by rfl) D_take.g D_take.F.kp D_take.b .nil pass0 (pa_cons (pv 2) (pa_cons pe_int pa_nil))) (fun _ _ => rfl)) pa_nil)))))
      (pss_cons (ps_set (i := 5) sc_law.nd rfl (.inl rfl) (pe_ix ix_list (pe_lst (pa_cons pe_int (pa_cons pe_int (pa_cons (pe_op op_add pe_int (pe_call G_take hr (by rfl) D_take.g D_take.F.kp D_take.b .nil pass0 (pa_cons (pv 2) (pa_cons pe_int pa_nil)))) (pa_cons (pe_op op_add pe_int (pe_call G_take hr (by rfl) D_take.g D_take.F.kp D_take.b .nil pass0 (pa_cons (pv 2) (pa_cons pe_int pa_nil)))) pa_nil))))) (pe_call G_take hr (by rfl) D_take.g D_take.F.kp D_take.b .nil pass0 (pa_cons (pv 2) (pa_cons pe_int pa_nil))) (fun _ _ => rfl)))
      (pss_cons (ps_set (i := 6) sc_law.nd rfl (.inl rfl) (pe_call G_lead hr (by rfl) D_lead.g D_lead.F.kp D_lead.b .nil pass0 (pa_cons (pv 2) pa_nil)))
      (pss_cons (ps_set (i := 7) sc_law.nd rfl (.inl rfl) (pe_call G_lead hr (by rfl) D_lead.g D_lead.F.kp D_lead.b .nil pass0 (pa_cons (pv 2) pa_nil)))
      (pss_cons (ps_set (i := 8) sc_law.nd rfl (.inl rfl) (pe_call G_take hr (by rfl) D_take.g D_take.F.kp D_take.b .nil pass0 (pa_cons (pv 2) (pa_cons pe_int pa_nil))))
      (pss_cons (ps_set (i := 9) sc_law.nd rfl (.inl rfl) (pe_callTy call_list_of (by rfl) m_list (by decide +kernel) (pa_cons (pv 4) pa_nil)))
      (pss_cons (ps_set (i := 10) sc_law.nd rfl (.inl rfl) (pe_call G_told hr (by rfl) D_told.g D_told.F.kp D_told.b .nil pass0 (pa_cons (pv 9) (pa_cons (pv 5) (pa_cons (pv 6) (pa_cons (pv 7) (pa_cons (pv 8) pa_nil)))))))
      (pss_cons (ps_if (pt_cmpR op_eq (pv 8) pe_int (nomark _)) (pss_one (ps_set (i := 7) sc_law.nd rfl (.inl rfl) pe_str)) pss_nil)
      (pss_cons (ps_if (PW.pt (pw_or (pt_cmpR op_eq (pv 8) pe_int (nomark _)) (pw_or1 (pt_cmpR op_eq (pv 8) pe_int (nomark _))))) (pss_one (ps_set (i := 6) sc_law.nd rfl (.inl rfl) pe_str)) pss_nil)
      (pss_cons (ps_if (PW.pt (pw_or (pt_not (pt_val (pe_callB call_isi (by rfl) m_isinstance (by decide +kernel) (pa_cons (pv 10) (pa_cons (pe_bltn (v := .ty "list") (by rfl) m_list (by decide +kernel) rfl) pa_nil))))) (pw_or (pt_cmpR (op_neD hr.units) (pv 9) (pv 4) (nomark _)) (pw_or1 (PW.pt (pw_and (pt_cmpR (op_eqD hr.units) (pv 4) (pe_lst pa_nil) (nomark _)) (pw_and1 (pt_cmpR (op_neD hr.units) (pv 10) (pe_lst (pa_cons (pv 6) pa_nil)) (nomark _))))))))) (pss_one (ps_ret pe_bl)) pss_nil)
      (pss_cons (ps_if (pt_not (pt_val (pe_call G_right hr (by rfl) D_right.g D_right.F.kp D_right.b .nil pass0 (pa_cons (pv 10) (pa_cons (pv 4) (pa_cons (pv 5) (pa_cons (pv 6) (pa_cons (pv 7) pa_nil)))))))) (pss_one (ps_ret pe_bl)) pss_nil)
      (pss_cons (ps_set (i := 11) sc_law.nd rfl (.inl rfl) (pe_callTy call_list_of (by rfl) m_list (by decide +kernel) (pa_cons (pv 10) pa_nil)))
      (pss_cons (ps_expr (pe_bm PySem.F.plainAttrs_list PySem.F.slot_list_append PySem.F.type_list_append mt_append (pv 10) (pa_cons pe_str pa_nil)))
      (pss_one (ps_if (pt_cmpR (op_neD hr.units) (pe_call G_told hr (by rfl) D_told.g D_told.F.kp D_told.b .nil pass0 (pa_cons (pe_callTy call_list_of (by rfl) m_list (by decide +kernel) (pa_cons (pv 4) pa_nil)) (pa_cons (pv 5) (pa_cons (pv 6) (pa_cons (pv 7) (pa_cons pe_int pa_nil)))))) (pv 11) (nomark _)) (pss_one (ps_ret pe_bl)) pss_nil))))))))))))))))))
      (pss_one (ps_ret pe_bl)), ?_⟩
    refine ⟨.ref a, rfl, a, _, rfl, .inl hS, _, 12, rfl, 1, _, rfl, _, rfl, ?_, ?_, for_range (lo := 0) (n := _) (fun i σ H' => Same H H' ∧ i ≤ 100 ∧ ∃ x1 x2 x3 x4 x5 x6 x7 x8 x9 x10 x11 x12, σ = [some (.ref a), x1, x2, x3, x4, x5, x6, x7, x8, x9, x10, x11, x12])
      ⟨Same.refl _, by decide, none, none, none, none, none, none, none, none, none, none, none, none, rfl⟩ ?_ ?_⟩
    · split <;> split <;> omega
    · split <;> split <;> omega
    · rintro i σ H0 hi ⟨sm, i100, x1, x2, x3, x4, x5, x6, x7, x8, x9, x10, x11, x12, rfl⟩
      have hi63 : i < 63 := by
        revert hi
        split <;> split <;> intro hi <;> omega
      -- the pot
      refine ⟨.ref a, rfl, .int (0 + (i : Int)), rfl, a, ns, _, rfl, sm.seq hS, by omega, by omega, fun H1 p s1 np p1 => ?_⟩
      -- how many
      refine ⟨.ref p, rfl, p, 4, rfl, p1, by decide, by decide, fun H2 d2 b2 p2 d20 d21 => ?_⟩
      refine ⟨.ref p, rfl, p, 41, rfl, p2, by decide, by decide, fun H3 d3 b3 p3 d30 d31 => ?_⟩
      refine ⟨by show 2 ≤ sizeLine; decide, fun l1 n1 => ?_⟩
      refine ⟨.ref p, rfl, p, 2, rfl, p3.new n1, by decide, by decide, fun H4 d4 b4 p4 d40 d41 => ?_⟩
      obtain ⟨m, hm, em⟩ := at_ints [d2, d3] d4 d40 (by show d4 < 2; exact d41)
      have hm0 : 0 ≤ m ∧ m ≤ 40 := by
        rcases List.mem_cons.mp hm with e | e
        · omega
        · have := List.mem_singleton.mp e
          omega
      refine ⟨l1, _, d4, .int m, rfl, rfl, SqL.of (b4 _ _ (p3.ne n1).symm upd_same), em, ?_⟩
      have B4 : But p H1 H4 := ((b2.trans b3).trans (But.new n1)).trans b4
      have S4 : Same H0 H4 := fun b o e => B4 b o (ne_of_none e np) (s1 b o e)
      -- the words
      refine ⟨_, rfl, m, rfl, by omega, by omega, fun D nD => ?_⟩
      have npD : p ≠ D := p4.ne nD
      refine lc_range (lo := 0) (n := m.toNat) (fun j Hc => But p H4 Hc ∧ Pot Hc p ∧ ∃ ys : List Str, Hc D = some (.lst (ys.map V.str)) ∧ ys.length = j ∧ ∀ y ∈ ys, IsW y)
        ⟨But.new nD, p4.new nD, [], upd_same, rfl, fun y hy => by cases hy⟩ (fun j Hc hj ⟨bc, pc, ys, eD, el, e1⟩ => ?_) (fun H5 ⟨bc, p5, ys, eD, el, hW⟩ => ?_)
      · refine ⟨rfl, ?_⟩
        refine ⟨.ref p, rfl, by show 4 ≤ sizeLine; decide, fun l2 n2 => ?_⟩
        refine ⟨.ref p, rfl, p, 4, rfl, pc.new n2, by decide, by decide, fun H6 d6 b6 p6 d60 d61 => ?_⟩
        obtain ⟨mo, mom, moe⟩ := at_ints [(3 : Int), 8, 20, 60] d6 d60 (by show d6 < 4; exact d61)
        have hmo : 0 < mo ∧ mo ≤ 60 := (by decide : ∀ y ∈ [(3 : Int), 8, 20, 60], 0 < y ∧ y ≤ 60) mo mom
        refine ⟨l2, _, d6, .int mo, rfl, rfl, SqL.of (b6 _ _ (pc.ne n2).symm upd_same), moe, p, mo, rfl, p6, hmo.1, by omega, fun H7 y b7 p7 t7 y0 => ?_⟩
        have eD7 : H7 D = some (.lst (ys.map V.str)) := b7 _ _ npD.symm (b6 _ _ npD.symm (by rw [upd_ne (ne_of_none eD n2)]; exact eD))
        have bc7 : But p H4 H7 := ((bc.trans (But.new n2)).trans b6).trans b7
        refine ⟨ys.map V.str, eD7, ?_, ?_, ?_, ys ++ [y], ?_, ?_, ?_⟩
        · rw [List.length_map, el]
          exact small1000 (by omega)
        · exact fun b o nb e => by
            rw [upd_ne (ne_of_none e nD)]
            exact bc7 b o nb e
        · obtain ⟨x, y, e, h1, h2⟩ := p7
          refine ⟨x, y, ?_, h1, h2⟩
          rw [upd_ne npD]
          exact e
        · rw [upd_same, List.map_append]
          rfl
        · rw [List.length_append, el]
          rfl
        · intro z hz
          rcases List.mem_append.mp hz with hz | hz
          · exact e1 z hz
          · rw [List.mem_singleton.mp hz]
            exact ⟨t7.mono (by omega) fun _ z => z, fun e => by rw [TL.len_tl, e] at y0; exact absurd y0 (Nat.lt_irrefl 0)⟩
      have h40 : ys.length ≤ 40 := by omega
      have B5 : But p H1 H5 := fun b o nb e => bc b o nb (B4 b o nb e)
      have nD1 : H0 D = none := S4.free nD
      have S5 : Same H0 H5 := fun b o e => B5 b o (ne_of_none e np) (s1 b o e)
      -- the room
      refine ⟨.ref p, rfl, p, 181, rfl, p5, by decide, by decide, fun H6 d6 b6 p6 d60 d61 => ?_⟩
      refine ⟨20, d6, rfl, rfl, .ref p, rfl, p, 30, rfl, p6, by decide, by decide, fun H7 d7 b7 p7 d70 d71 => ?_⟩
      refine ⟨20, d7, rfl, rfl, by show 4 ≤ sizeLine; decide, fun l3 n3 => ?_⟩
      refine ⟨.ref p, rfl, p, 4, rfl, p7.new n3, by decide, by decide, fun H8 d8 b8 p8 d80 d81 => ?_⟩
      obtain ⟨room, _, er⟩ := at_ints [20, 200, 20 + d6, 20 + d7] d8 d80 (by show d8 < 4; exact d81)
      refine ⟨l3, _, d8, .int room, rfl, rfl, SqL.of (b8 _ _ (p7.ne n3).symm upd_same), er, ?_⟩
      have b58 : But p H5 H8 := ((b6.trans b7).trans (But.new n3)).trans b8
      -- lead, tail, way
      refine ⟨.ref p, rfl, p, rfl, p8, fun H9 lead b9 p9 tle => ?_⟩
      refine ⟨.ref p, rfl, p, rfl, p9, fun H10 tail b10 p10 tta => ?_⟩
      refine ⟨.ref p, rfl, p, 4, rfl, p10, by decide, by decide, fun H11 way b11 p11 w0 w1 => ?_⟩
      have b511 : But p H5 H11 := ((b58.trans b9).trans b10).trans b11
      have eD11 := b511 _ _ npD.symm eD
      have S11 : Same H0 H11 := fun b o e => b511 b o (ne_of_none e np) (S5 b o e)
      -- handed
      refine ⟨.ref D, rfl, D, _, rfl, .inl (SqL.of eD11), fun h nh => ?_⟩
      first | refine go nh fun H12 s12 eh => ?_ | refine goT nh fun H12 s12 eh => ?_
      have w60 : ∀ y ∈ ys, y.length ≤ 60 := fun y hy => (hW y hy).1.le
      have tle' := lead_tq way tle
      have tta' := tail_tq way tta
      refine ⟨.ref h, rfl, .int room, rfl, .str lead, rfl, .str tail, rfl, .int way, rfl, h, ys, room, lead, tail, way, rfl, SqL.of eh, h40, w60, Nat.le_trans tle.le (by decide), Nat.le_trans tta.le (by decide), fun H13 l s13 nl el13 => ?_⟩
      have eh13 := s13 _ _ eh
      have eD13 := s13 _ _ (s12 _ _ eD11)
      have S13 : Same H0 H13 := (S11.trans s12).trans s13
      generalize eL : filledF ys room (leadOf way lead) (tailOf way tail) = lines at el13
      have okl : ∀ y ∈ lines, Tq B8 2600 y := by
        rw [← eL]
        exact filled_tq hW h40 (tle'.mono (by decide) fun _ z => z) (tta'.mono (by decide) fun _ z => z)
      have len40 : lines.length ≤ 40 := by
        rw [← eL]
        exact filled_len h40
      have sh1 : ∀ y ∈ ys, PyData.strOk y = true := fun y hy => strOk_of (hW y hy).b8.pl
      have sh2 : ∀ y ∈ lines, PyData.strOk y = true := fun y hy => strOk_of (okl y hy).pl
      -- the two texts as they are due
      dsimp only [tSeq, tAsg, tC, gName]
      refine ts_gen (t := tIfS _ _ _) (fun σ' H' => H' = H13 ∧ σ' = [some (.ref a), some (.int (0 + (i : Int))), some (.ref p), some (.int m), some (.ref D), some (.int room), some (.str lead), some (.str (tailOf way tail)), some (.int way), some (.ref h), some (.ref l), x11, x12]) (fun κ c => ?_) ?_
      · refine ⟨_, rfl, rfl, _, rfl, ite2 (fun e => ?_) (fun e => ?_)⟩
        · have e1 : tailOf way tail = Str.ofString "" := if_pos (V.int.inj (of_decide_eq_true e))
          exact c _ _ ⟨rfl, by rw [e1]; rfl⟩
        · have e1 : tailOf way tail = tail := if_neg (fun z => e (decide_eq_true (congrArg V.int z)))
          exact c _ _ ⟨rfl, by rw [e1]; rfl⟩
      rintro σ' H' ⟨rfl, rfl⟩
      dsimp only [tSeq]
      refine ts_gen (t := tIfS _ _ _) (fun σ' H'' => H'' = H' ∧ σ' = [some (.ref a), some (.int (0 + (i : Int))), some (.ref p), some (.int m), some (.ref D), some (.int room), some (.str (leadOf way lead)), some (.str (tailOf way tail)), some (.int way), some (.ref h), some (.ref l), x11, x12]) (fun κ c => ?_) ?_
      · refine ⟨_, rfl, rfl, _, rfl, ite2 (fun e => ?_) (fun e => ?_)⟩
        · have e1 : leadOf way lead = Str.ofString "" := if_pos (.inl (V.int.inj (of_decide_eq_true e)))
          exact iteT (c _ _ ⟨rfl, by rw [e1]; rfl⟩)
        · refine ⟨_, rfl, rfl, _, rfl, ite2 (fun e2 => ?_) (fun e2 => ?_)⟩
          · have e1 : leadOf way lead = Str.ofString "" := if_pos (.inr (V.int.inj (of_decide_eq_true e2)))
            exact c _ _ ⟨rfl, by rw [e1]; rfl⟩
          · have e1 : leadOf way lead = lead := if_neg (fun z => z.elim (fun z => e (decide_eq_true (congrArg V.int z))) (fun z => e2 (decide_eq_true (congrArg V.int z))))
            exact c _ _ ⟨rfl, by rw [e1]⟩
      rintro σ' H13 ⟨rfl, rfl⟩
      dsimp only [tSeq, tIfS]
      -- the first look
      refine tt_gen (t := tOr _ _) (fun b H' => b = false ∧ Same H13 H') (fun R c => ?_) ?_
      · refine ⟨.ref l, rfl, .ref l, _, _, _, true, rfl, ClsV.ty "list", TyX.base (TyOf.lst el13), kit_ty (show kitB "list" "list" = some true from by decide +kernel), _, rfl, ?_⟩
        refine ⟨.ref h, rfl, .ref D, rfl, _, _, .lst (SqL.of eh13) (dp_strs _), .lst (SqL.of eD13) (dp_strs _), shaped_strs _ sh1, shaped_strs _ sh1, _, rfl, ?_⟩
        rw [eqv_strs, decide_eq_true rfl]
        refine ⟨.ref D, rfl, Nat.zero_le _, fun a1 m1 => ?_⟩
        first | refine goT m1 fun H14 s14 e14 => ?_ | refine go m1 fun H14 s14 e14 => ?_
        refine ⟨_, _, .lst (SqL.of (s14 _ _ eD13)) (dp_strs _), .lst (SqL.of e14) .nil, shaped_strs _ sh1, by decide +kernel, _, rfl, ite2 (fun e => ?_) (fun e => c _ _ ⟨rfl, s14⟩)⟩
        have hn : ys = [] := by
          rw [eqv_nil] at e
          cases ys with
          | nil => rfl
          | cons _ _ => cases e
        have eL2 : lines = [leadOf way lead] := by rw [← eL, hn]; rfl
        refine ⟨.ref l, rfl, .str (leadOf way lead), rfl, by show 1 ≤ sizeLine; decide, fun a2 m2 => ?_⟩
        first | refine goT m2 fun H15 s15 e15 => ?_ | refine go m2 fun H15 s15 e15 => ?_
        refine ⟨_, _, .lst (SqL.of (s15 _ _ (s14 _ _ el13))) (dp_strs _), .lst (SqL.of e15) (dp_strs [leadOf way lead]), shaped_strs _ sh2, shaped_strs _ (by rw [← eL2]; exact sh2), _, rfl, ?_⟩
        refine c _ _ ⟨?_, s14.trans s15⟩
        rw [eqv_strs, eL2, decide_eq_true rfl]
        rfl
      rintro b H14 ⟨rfl, s14⟩
      refine iteF ?_
      -- right
      refine ⟨.ref l, rfl, .ref D, rfl, .int room, rfl, .str (leadOf way lead), rfl, .str (tailOf way tail), rfl, l, D, lines, ys, room, leadOf way lead, tailOf way tail, rfl, s14 _ _ el13, s14 _ _ eD13, hW, h40, (fun y hy => Nat.le_trans (okl y hy).le (by decide)), Nat.le_trans tle'.le (by decide), Nat.le_trans tta'.le (by decide), ?_, fun H15 s15 => ?_⟩
      · rw [← eL]
        exact now_start _ _ _ _
      refine ⟨_, rfl, ?_⟩
      have el15 := s15 _ _ (s14 _ _ el13)
      have eD15 := s15 _ _ (s14 _ _ eD13)
      have S15 : Same H0 H15 := (S13.trans s14).trans s15
      -- kept
      refine ⟨.ref l, rfl, l, _, rfl, .inl (SqL.of el15), fun kp nk => ?_⟩
      first | refine goT nk fun H16 s16 ek => ?_ | refine go nk fun H16 s16 ek => ?_
      have el16 := s16 _ _ el15
      refine ⟨.ref l, rfl, .inl ⟨rfl, _, SqL.of el16⟩, l, _, _, rfl, rfl, el16, by rw [List.length_map]; exact small1000 (by omega), ?_⟩
      refine goU fun H17 u17 _ => ?_
      have nl0 : H0 l = none := (S11.trans s12).free nl
      have S17 : Same H0 H17 := fun b o e => u17 b o (ne_of_none e nl0) (s16 b o (S15 b o e))
      have eD17 : H17 D = some (.lst (ys.map V.str)) := u17 _ _ (ne_of_none (s12 _ _ eD11) nl) (s16 _ _ eD15)
      have ek17 : H17 kp = some (.lst (lines.map V.str)) := u17 _ _ (ne_of_none el15 nk).symm ek
      refine ⟨.ref D, rfl, D, _, rfl, .inl (SqL.of eD17), fun t nt => ?_⟩
      first | refine goT nt fun H18 s18 et => ?_ | refine go nt fun H18 s18 et => ?_
      refine ⟨.int room, rfl, .str (leadOf way lead), rfl, .str (tailOf way tail), rfl, t, ys, room, leadOf way lead, tailOf way tail, 0, rfl, SqL.of et, h40, w60, Nat.le_trans tle'.le (by decide), Nat.le_trans tta'.le (by decide), fun H19 l2 s19 nl2 el19 => ?_⟩
      rw [lead_0, tail_0, eL] at el19
      refine ⟨.ref kp, rfl, _, _, .lst (SqL.of el19) (dp_strs _), .lst (SqL.of (s19 _ _ (s18 _ _ ek17))) (dp_strs _), shaped_strs _ sh2, shaped_strs _ sh2, _, rfl, ?_⟩
      rw [eqv_strs, decide_eq_true rfl]
      exact ⟨sm.trans ((S17.trans s18).trans s19), by omega, _, _, _, _, _, _, _, _, _, _, _, _, rfl⟩
    · rintro σ H0 ⟨sm, i100, x1, x2, x3, x4, x5, x6, x7, x8, x9, x10, x11, x12, rfl⟩
      exact q _
end
end WB

set_option Elab.async false
set_option linter.all false
set_option maxRecDepth 100000
set_option maxHeartbeats 4000000
namespace WB
open PySem PySem.Spec PyProof.Rows L2
open TL (tl)
theorem df_mk {K : PySem.W.Frag} {h : Heap} {mg : Str → Option Value} {x : Str} {st : Stmt} {ps : List Str} {f : Addr} {oc : Value} {od an : Option Addr} {osl : Array (Option Value)} {kV doc pm cdv ct : Value} (X : K.In h) (G : h.Ns mainGlobals mg)
    (a : PySem.W.nsIn K mainGlobals x = some (some (.ref f))) (l : K.lookup f = some ⟨oc, od, .func (PySem.W.fnOf x x (defArgs st) (defBody st) (defScope st) .none kV doc pm an cdv ct), osl⟩)
    (c : PySem.W.codeIn K cdv x = true) (k : PySem.W.keepIn K (.ref f) = true)
    (b : ∀ (kV doc pm : Value) (an : Option Addr) (cdv ct : Value) (us : List Value), us.length = ps.length → bindArgs (PySem.W.fnOf x x (defArgs st) (defBody st) (defScope st) .none kV doc pm an cdv ct) ⟨us, []⟩ = pure (ps.zip us)) :
    Df K mg x st ps f (PySem.W.fnOf x x (defArgs st) (defBody st) (defScope st) .none kV doc pm an cdv ct) := by
  have F := fun_mk (st := st) l c k
  exact ⟨F, F.binds b, PySem.W.mg_of X G a⟩
theorem all_mk {l : PySem.W.OpenLaw} {w : World} {K : PySem.W.Frag} {h : Heap} {mg : Str → Option Value} {fa : Addr} (X : K.In h) (G : h.Ns mainGlobals mg) (hfa : mg "law" = some (.ref fa))
    {fCell : Addr} {odCell anCell : Option Addr} {slCell : Array (Option Value)} {ocCell kVCell dcCell pmCell cdCell ctCell : Value} {fPot : Addr} {odPot anPot : Option Addr} {slPot : Array (Option Value)} {ocPot kVPot dcPot pmPot cdPot ctPot : Value} {fTake : Addr} {odTake anTake : Option Addr} {slTake : Array (Option Value)} {ocTake kVTake dcTake pmTake cdTake ctTake : Value} {fSigns : Addr} {odSigns anSigns : Option Addr} {slSigns : Array (Option Value)} {ocSigns kVSigns dcSigns pmSigns cdSigns ctSigns : Value} {fLead : Addr} {odLead anLead : Option Addr} {slLead : Array (Option Value)} {ocLead kVLead dcLead pmLead cdLead ctLead : Value} {fTold : Addr} {odTold anTold : Option Addr} {slTold : Array (Option Value)} {ocTold kVTold dcTold pmTold cdTold ctTold : Value} {fRight : Addr} {odRight anRight : Option Addr} {slRight : Array (Option Value)} {ocRight kVRight dcRight pmRight cdRight ctRight : Value} {fFil : Addr} {odFil anFil : Option Addr} {slFil : Array (Option Value)} {ocFil kVFil dcFil pmFil cdFil ctFil : Value} {TF : Addr} {odTF : Option Addr} {ocTF : Value} {t1 t2 : Tok} {nTF : Nat} {slTF : Array (Option Value)} {fLaw : Addr} {odLaw anLaw : Option Addr} {slLaw : Array (Option Value)} {ocLaw kVLaw dcLaw pmLaw cdLaw ctLaw : Value}
    (aCell : PySem.W.nsIn K mainGlobals "_law_cell" = some (some (.ref fCell)))
    (lCell : K.lookup fCell = some ⟨ocCell, odCell, .func (PySem.W.fnOf "_law_cell" "_law_cell" (defArgs sCell) (defBody sCell) (defScope sCell) .none kVCell dcCell pmCell anCell cdCell ctCell), slCell⟩)
    (cCell : PySem.W.codeIn K cdCell "_law_cell" = true)
    (kCell : PySem.W.keepIn K (.ref fCell) = true)
    (aPot : PySem.W.nsIn K mainGlobals "_law_pot" = some (some (.ref fPot)))
    (lPot : K.lookup fPot = some ⟨ocPot, odPot, .func (PySem.W.fnOf "_law_pot" "_law_pot" (defArgs sPot) (defBody sPot) (defScope sPot) .none kVPot dcPot pmPot anPot cdPot ctPot), slPot⟩)
    (cPot : PySem.W.codeIn K cdPot "_law_pot" = true)
    (kPot : PySem.W.keepIn K (.ref fPot) = true)
    (aTake : PySem.W.nsIn K mainGlobals "_law_take" = some (some (.ref fTake)))
    (lTake : K.lookup fTake = some ⟨ocTake, odTake, .func (PySem.W.fnOf "_law_take" "_law_take" (defArgs sTake) (defBody sTake) (defScope sTake) .none kVTake dcTake pmTake anTake cdTake ctTake), slTake⟩)
    (cTake : PySem.W.codeIn K cdTake "_law_take" = true)
    (kTake : PySem.W.keepIn K (.ref fTake) = true)
    (aSigns : PySem.W.nsIn K mainGlobals "_law_signs" = some (some (.ref fSigns)))
    (lSigns : K.lookup fSigns = some ⟨ocSigns, odSigns, .func (PySem.W.fnOf "_law_signs" "_law_signs" (defArgs st_signs) (defBody st_signs) (defScope st_signs) .none kVSigns dcSigns pmSigns anSigns cdSigns ctSigns), slSigns⟩)
    (cSigns : PySem.W.codeIn K cdSigns "_law_signs" = true)
    (kSigns : PySem.W.keepIn K (.ref fSigns) = true)
    (aLead : PySem.W.nsIn K mainGlobals "_law_lead" = some (some (.ref fLead)))
    (lLead : K.lookup fLead = some ⟨ocLead, odLead, .func (PySem.W.fnOf "_law_lead" "_law_lead" (defArgs st_lead) (defBody st_lead) (defScope st_lead) .none kVLead dcLead pmLead anLead cdLead ctLead), slLead⟩)
    (cLead : PySem.W.codeIn K cdLead "_law_lead" = true)
    (kLead : PySem.W.keepIn K (.ref fLead) = true)
    (aTold : PySem.W.nsIn K mainGlobals "_law_told" = some (some (.ref fTold)))
    (lTold : K.lookup fTold = some ⟨ocTold, odTold, .func (PySem.W.fnOf "_law_told" "_law_told" (defArgs st_told) (defBody st_told) (defScope st_told) .none kVTold dcTold pmTold anTold cdTold ctTold), slTold⟩)
    (cTold : PySem.W.codeIn K cdTold "_law_told" = true)
    (kTold : PySem.W.keepIn K (.ref fTold) = true)
    (aRight : PySem.W.nsIn K mainGlobals "_law_right" = some (some (.ref fRight)))
    (lRight : K.lookup fRight = some ⟨ocRight, odRight, .func (PySem.W.fnOf "_law_right" "_law_right" (defArgs st_right) (defBody st_right) (defScope st_right) .none kVRight dcRight pmRight anRight cdRight ctRight), slRight⟩)
    (cRight : PySem.W.codeIn K cdRight "_law_right" = true)
    (kRight : PySem.W.keepIn K (.ref fRight) = true)
    (aFil : PySem.W.nsIn K mainGlobals "filled" = some (some (.ref fFil)))
    (lFil : K.lookup fFil = some ⟨ocFil, odFil, .func (PySem.W.fnOf "filled" "filled" (defArgs st_filled) (defBody st_filled) (defScope st_filled) (.ref TF) kVFil dcFil pmFil anFil cdFil ctFil), slFil⟩)
    (cFil : PySem.W.codeIn K cdFil "filled" = true)
    (kFil : PySem.W.keepIn K (.ref fFil) = true)
    (lTF : K.lookup TF = some ⟨ocTF, odTF, .seq [.str (Str.ofString "") t1, .str (Str.ofString "") t2].toArray nTF, slTF⟩)
    (z_len : PySem.W.nsIn K mainGlobals "len" = some none)
    (z_max : PySem.W.nsIn K mainGlobals "max" = some none)
    (z_min : PySem.W.nsIn K mainGlobals "min" = some none)
    (z_abs : PySem.W.nsIn K mainGlobals "abs" = some none)
    (z_range : PySem.W.nsIn K mainGlobals "range" = some none)
    (z_list : PySem.W.nsIn K mainGlobals "list" = some none)
    (z_isinstance : PySem.W.nsIn K mainGlobals "isinstance" = some none)
    (z_str : PySem.W.nsIn K mainGlobals "str" = some none)
    (z_enumerate : PySem.W.nsIn K mainGlobals "enumerate" = some none)
    (aLaw : PySem.W.nsIn K mainGlobals "law" = some (some (.ref fLaw)))
    (lLaw : K.lookup fLaw = some ⟨ocLaw, odLaw, .func (PySem.W.fnOf "law" "law" (defArgs st_law) (defBody st_law) (defScope st_law) .none kVLaw dcLaw pmLaw anLaw cdLaw ctLaw), slLaw⟩)
    (cLaw : PySem.W.codeIn K cdLaw "law" = true)
    (kLaw : PySem.W.keepIn K (.ref fLaw) = true) :
    ∃ fd : FuncData, (∀ (s : Shared) (v : Value), BindsTo s fd ⟨[v], []⟩ [("_law_script", v)]) ∧ ∀ base : Heap, K.In base → base.Ns mainGlobals mg → FnOk l.prog w K mg base CX0 5 fa fd ["_law_script"] (spLaw K) := by
  have e := hfa.symm.trans (PySem.W.mg_of X G aLaw)
  cases e
  have g0 : ∀ {x : Str}, PySem.W.nsIn K mainGlobals x = some none → mg x = none := fun {x} z => PySem.W.mg_none_of X G z
  have DCell := df_mk (st := sCell) (ps := ["_law_script", "_law_k"]) X G aCell lCell cCell kCell fun _ _ _ _ _ _ us hl => match us, hl with | [_, _], _ => rfl
  have DPot := df_mk (st := sPot) (ps := ["_law_script", "_law_k"]) X G aPot lPot cPot kPot fun _ _ _ _ _ _ us hl => match us, hl with | [_, _], _ => rfl
  have DTake := df_mk (st := sTake) (ps := ["_law_pot_here", "_law_room"]) X G aTake lTake cTake kTake fun _ _ _ _ _ _ us hl => match us, hl with | [_, _], _ => rfl
  have DSigns := df_mk (st := st_signs) (ps := ["_law_pot_here", "_law_most"]) X G aSigns lSigns cSigns kSigns fun _ _ _ _ _ _ us hl => match us, hl with | [_, _], _ => rfl
  have DLead := df_mk (st := st_lead) (ps := ["_law_pot_here"]) X G aLead lLead cLead kLead fun _ _ _ _ _ _ us hl => match us, hl with | [_], _ => rfl
  have DTold := df_mk (st := st_told) (ps := ["_law_things", "_law_room", "_law_lead_here", "_law_tail", "_law_way"]) X G aTold lTold cTold kTold fun _ _ _ _ _ _ us hl => match us, hl with | [_, _, _, _, _], _ => rfl
  have DRight := df_mk (st := st_right) (ps := ["_law_lines", "_law_things", "_law_room", "_law_lead_here", "_law_tail"]) X G aRight lRight cRight kRight fun _ _ _ _ _ _ us hl => match us, hl with | [_, _, _, _, _], _ => rfl
  have FLaw := fun_mk (st := st_law) lLaw cLaw kLaw
  have DF : FilD K fFil _ := ⟨⟨_, _, _, _, _, _, _, _, _, _, rfl, lFil, cFil, .inr ⟨by simp, TF, _, _, _, rfl, lTF, rfl, .cons ⟨_, rfl⟩ (.cons ⟨_, rfl⟩ .nil)⟩, .inl rfl⟩, kFil⟩
  refine ⟨PySem.W.fnOf "law" "law" (defArgs st_law) (defBody st_law) (defScope st_law) .none kVLaw dcLaw pmLaw anLaw cdLaw ctLaw, fun s v => ?_, fun base _ _ => ?_⟩
  · exact .of_eq rfl
  · exact ok_law FLaw DCell DPot DTake DSigns DLead DTold DRight DF (PySem.W.mg_of X G aFil) (g0 z_len) (g0 z_max) (g0 z_min) (g0 z_abs) (g0 z_range) (g0 z_list) (g0 z_str) (g0 z_isinstance) (g0 z_enumerate)
end WB

open PySem PySem.W PyProof.Rows
set_option maxRecDepth 100000
set_option Elab.async false
set_option maxHeartbeats 0 in
theorem PySem.Challenge.cw_wordbench_k91_whole_filled_holds : PySem.Challenge.rw_wordbench_k91_whole_filled.Holds := by
  w_on; o_law; k_head; (case hw => w_witness2)
  k_fill
  refine L2.walk_of (l := PySem.Challenge.rw_wordbench_k91_whole_filled) (n := 63) (k := 5) (x := "_law_script") (CX := fun _ => L2.CX0) (sp := fun w => WB.spLaw _) rfl (by decide) rfl ⟨rfl, by decide, by decide⟩ (fun w h Y => PySem.W.kIn_of Y) ?F (fun _ _ a ns hl _ hS => ⟨a, ns, rfl, hS, hl, fun _ => rfl⟩) (fun _ _ _ _ _ h => h)
  case F =>
    intro w mg fa h KX G hmg
    refine' WB.all_mk KX G hmg ?aCell ?lCell ?cCell ?kCell ?aPot ?lPot ?cPot ?kPot ?aTake ?lTake ?cTake ?kTake ?aSigns ?lSigns ?cSigns ?kSigns ?aLead ?lLead ?cLead ?kLead ?aTold ?lTold ?cTold ?kTold ?aRight ?lRight ?cRight ?kRight ?aFil ?lFil ?cFil ?kFil ?lTF ?z_len ?z_max ?z_min ?z_abs ?z_range ?z_list ?z_isinstance ?z_str ?z_enumerate ?aLaw ?lLaw ?cLaw ?kLaw
    (case aCell => k_is)
    (case lCell => k_is)
    (case cCell => k_is)
    (case kCell => k_is)
    (case aPot => k_is)
    (case lPot => k_is)
    (case cPot => k_is)
    (case kPot => k_is)
    (case aTake => k_is)
    (case lTake => k_is)
    (case cTake => k_is)
    (case kTake => k_is)
    (case aSigns => k_is)
    (case lSigns => k_is)
    (case cSigns => k_is)
    (case kSigns => k_is)
    (case aLead => k_is)
    (case lLead => k_is)
    (case cLead => k_is)
    (case kLead => k_is)
    (case aTold => k_is)
    (case lTold => k_is)
    (case cTold => k_is)
    (case kTold => k_is)
    (case aRight => k_is)
    (case lRight => k_is)
    (case cRight => k_is)
    (case kRight => k_is)
    (case aFil => k_is)
    (case lFil => k_is)
    (case cFil => k_is)
    (case kFil => k_is)
    (case lTF => k_is)
    (case z_len => k_is)
    (case z_max => k_is)
    (case z_min => k_is)
    (case z_abs => k_is)
    (case z_range => k_is)
    (case z_list => k_is)
    (case z_isinstance => k_is)
    (case z_str => k_is)
    (case z_enumerate => k_is)
    (case aLaw => k_is)
    (case lLaw => k_is)
    (case cLaw => k_is)
    (case kLaw => k_is)
