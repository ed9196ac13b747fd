import PyProof.Rows.All
import Wide.All
import OpenK.AllK
import Wide.FinOn
import PySem.Challenge.RW_wordbench_k25_whole_rows_as_texts
import HandS.ForMost
import HandS.IsInst
import HandS.Walk
import HandS.Style
import HandS.ReplaceLit
import HandS.ReplaceDef
import HandS.ReplaceList
import HandS.FStr
import PyProof.Draws
import PyProof.EnumMake
set_option Elab.async false
set_option linter.all false
set_option maxRecDepth 100000
set_option maxHeartbeats 4000000
namespace WB
open PySem PySem.Spec PyProof.Rows L2
open TL (tl)
def topS (i : Nat) : Stmt := PySem.Challenge.pw_wordbench_k25_whole_rows_as_texts.main.body.getD i (.Pass ⟨0, 0, 0, 0⟩)
abbrev st_cell : Stmt := topS 11
theorem sc_cell : FnScope ["_law_script", "_law_k"] ["_law_script", "_law_k"] (defScope st_cell) := ⟨rfl, rfl, rfl, by decide +kernel, rfl, by decide +kernel, by decide +kernel⟩
abbrev st_pot : Stmt := topS 12
theorem sc_pot : FnScope ["_law_script", "_law_k", "_law_cell_here"] ["_law_script", "_law_k"] (defScope st_pot) := ⟨rfl, rfl, rfl, by decide +kernel, rfl, by decide +kernel, by decide +kernel⟩
abbrev st_draw : Stmt := topS 13
theorem sc_draw : FnScope ["_law_pot_here", "_law_many", "_law_digit"] ["_law_pot_here", "_law_many"] (defScope st_draw) := ⟨rfl, rfl, rfl, by decide +kernel, rfl, by decide +kernel, by decide +kernel⟩
abbrev sCell := st_cell
abbrev sPot := st_pot
abbrev sDraw := st_draw
abbrev scCell := sc_cell
abbrev scPot := sc_pot
abbrev scDraw := sc_draw
/-- a def of the top: its object, how it binds, its name -/
structure Df (K : PySem.W.Frag) (mg : Str → Option Value) (x : Str) (st : Stmt) (ps : List Str) (f : Addr) (fd : FuncData) : Prop where
  F : Fun K x x st f fd
  b : Binds K fd ps []
  g : mg x = some (.ref f)
/-! ### heaps -/
theorem same_upd {H : Hp} {p : Addr} {o : HO} (h : H p = none) : Same H (upd H p o) := fun b x e => by
  rw [upd_ne (ne_of_none e h)]
  exact e
/-- all that was tracked but at p is as it was -/
def But (p : Addr) (H H' : Hp) : Prop := ∀ b o, b ≠ p → H b = some o → H' b = some o
theorem But.refl (p : Addr) (H : Hp) : But p H H := fun _ _ _ h => h
theorem But.trans {p : Addr} {H H1 H2 : Hp} (a : But p H H1) (b : But p H1 H2) : But p H H2 := fun c o n h => b c o n (a c o n h)
theorem But.of_same {p : Addr} {H H' : Hp} (a : Same H H') : But p H H' := fun c o _ h => a c o h
theorem But.upd (p : Addr) (H : Hp) (o : HO) : But p H (upd H p o) := fun c u n h => by
  rw [upd_ne n]
  exact h
theorem But.new {p : Addr} {H : Hp} {q : Addr} {o : HO} (h : H q = none) : But p H (L2.upd H q o) := But.of_same (same_upd h)
/-- at p a pot stands -/
def Pot (H : Hp) (p : Addr) : Prop := ∃ a b : Int, H p = some (.lst [.int a, .int b]) ∧ 0 ≤ b ∧ b < 2147483648
theorem Pot.some {H : Hp} {p : Addr} (h : Pot H p) : ∃ o, H p = some o := by
  obtain ⟨a, b, e, _⟩ := h
  exact ⟨_, e⟩
theorem Pot.ne {H : Hp} {p q : Addr} (h : Pot H p) (n : H q = none) : p ≠ q := by
  obtain ⟨a, b, e, _⟩ := h
  exact ne_of_none e n
theorem Pot.new {H : Hp} {p q : Addr} {o : HO} (h : Pot H p) (n : H q = none) : Pot (L2.upd H q o) p := by
  have ne := h.ne n
  obtain ⟨a, b, e, h1, h2⟩ := h
  refine ⟨a, b, ?_, h1, h2⟩
  rw [upd_ne ne]
  exact e
/-! ### texts of some signs -/
structure Tq (p : Nat → Prop) (n : Nat) (y : Str) : Prop where
  le : y.length ≤ n
  pl : ∀ c ∈ tl y, p c
theorem Tq.mono {p q : Nat → Prop} {n m : Nat} {y : Str} (h : Tq p n y) (e : n ≤ m) (f : ∀ c, p c → q c) : Tq q m y := ⟨Nat.le_trans h.le e, fun c hc => f c (h.pl c hc)⟩
theorem Tq.app {p : Nat → Prop} {n m : Nat} {x y : Str} (h : Tq p n x) (k : Tq p m y) : Tq p (n + m) (x ++ y) := by
  refine ⟨?_, fun c hc => ?_⟩
  · rw [Str.length_append]
    exact Nat.add_le_add h.le k.le
  · rw [TL.tl_append] at hc
    exact (List.mem_append.mp hc).elim (h.pl c) (k.pl c)
theorem Tq.cut {p : Nat → Prop} {n : Nat} {x : Str} (h : Tq p n x) (lo hi : Option Int) : Tq p n (cutS x lo hi) := by
  refine ⟨Nat.le_trans (cutS_length x lo hi) h.le, fun c hc => h.pl c ?_⟩
  have e : c ∈ (x.cps.toList.drop _).take _ := hc
  exact List.mem_of_mem_drop (List.mem_of_mem_take e)
theorem Tq.sign {p : Nat → Prop} {c : Nat} (h : p c) : Tq p 1 ⟨#[c]⟩ := by
  refine ⟨Nat.le_refl 1, fun d hd => ?_⟩
  have e : d ∈ [c] := hd
  rw [List.mem_singleton.mp e]
  exact h
theorem mem_joinL (S : List Nat) : ∀ (ps : List (List Nat)) (c : Nat), c ∈ TL.joinL S ps → c ∈ S ∨ ∃ p ∈ ps, c ∈ p
  | [], c, h => by cases h
  | [p], c, h => .inr ⟨p, List.mem_singleton.mpr rfl, h⟩
  | p :: q :: r, c, h => by
    rcases List.mem_append.mp (show c ∈ p ++ (S ++ TL.joinL S (q :: r)) from h) with h | h
    · exact .inr ⟨p, List.mem_cons_self, h⟩
    · rcases List.mem_append.mp h with h | h
      · exact .inl h
      · rcases mem_joinL S (q :: r) c h with h | ⟨p', hp, hc⟩
        · exact .inl h
        · exact .inr ⟨p', List.mem_cons_of_mem _ hp, hc⟩
theorem sum_most {p : Nat → Prop} (m : Nat) : ∀ ys : List Str, (∀ y ∈ ys, Tq p m y) → (ys.map (·.length)).sum ≤ ys.length * m
  | [], _ => Nat.zero_le _
  | y :: r, h => by
    have h1 := sum_most m r fun z hz => h z (List.mem_cons_of_mem _ hz)
    have h2 := (h y List.mem_cons_self).le
    rw [List.map_cons, List.sum_cons, List.length_cons, Nat.succ_mul]
    omega
theorem Tq.join {p : Nat → Prop} {sep : Str} {k m n : Nat} {ys : List Str} (hs : Tq p k sep) (h : ∀ y ∈ ys, Tq p m y) (hn : ys.length * m + ys.length * k ≤ n) : Tq p n (Txt.join sep ys) := by
  refine ⟨?_, fun c hc => ?_⟩
  · rw [TL.join_eq]
    have e := StrLaws.join_length_le sep ys
    have e2 := sum_most m ys h
    have e3 : ys.length * sep.length ≤ ys.length * k := Nat.mul_le_mul_left _ hs.le
    omega
  · rw [TL.join_eq, TL.tl_join] at hc
    rcases mem_joinL _ _ c hc with h1 | ⟨p, hp, h1⟩
    · exact hs.pl c h1
    · obtain ⟨y, hy, rfl⟩ := List.mem_map.mp hp
      exact (h y hy).pl c h1
section
variable {P : Program} {w : World} {K : PySem.W.Frag} {mg : Str → Option Value} {base : Heap}
/-! ### _law_cell -/
def spCell (K : PySem.W.Frag) : Sp := fun vs H Q _ => ∃ (a : Addr) (ns : List Int) (k : Int), vs = [.ref a, .int k] ∧ SqL K H a (ns.map V.int) ∧ 0 ≤ k ∧ ∀ z : Int, Q (.int z) H
theorem ok_cell {f : Addr} {fd : FuncData} {k : Nat} (F : Fun K "_law_cell" "_law_cell" sCell f fd) (mL : mg "len" = none) : FnOk P w K mg base CX0 (k + 1) f fd ["_law_script", "_law_k"] (spCell K) := by
  refine F.ok scCell (fun vs H Q E h => ?_) (fun cdv A outer s H vs Q E hr h => ?_)
  · obtain ⟨a, ns, k, rfl, _⟩ := h
    rfl
  · obtain ⟨a, ns, k, rfl, hS, hk, q⟩ := h
    refine ⟨_, pss_one (ps_ret (pe_ifExp (pt_cmpR op_lt (pv 1) (pe_callB call_len_seq (by rfl) mL PySem.boot_len (pa_cons (pv 0) pa_nil)) (nomark _)) (pe_ix ix_list (pv 0) (pv 1) (fun _ _ => rfl)) pe_int)), ?_⟩
    refine ⟨.int k, rfl, .ref a, rfl, a, _, rfl, .inl hS, k, _, rfl, rfl, _, rfl, ite2 (fun e => ?_) (fun e => q 0)⟩
    have e1 := of_decide_eq_true e
    obtain ⟨n, rfl⟩ := Int.eq_ofNat_of_zero_le hk
    rw [List.length_map] at e1
    have hn : n < ns.length := by omega
    exact ⟨.ref a, rfl, .int n, rfl, a, _, _, .int ns[n], rfl, rfl, hS, atI_nat (j := n) (by rw [List.getElem?_map, List.getElem?_eq_getElem hn]; rfl), q _⟩
/-! ### _law_pot -/
def spPot (K : PySem.W.Frag) : Sp := fun vs H Q _ => ∃ (a : Addr) (ns : List Int) (k : Int), vs = [.ref a, .int k] ∧ SqL K H a (ns.map V.int) ∧ 0 ≤ k ∧
  ∀ H' p, Same H H' → H p = none → Pot H' p → Q (.ref p) H'
theorem ok_pot {f fC : Addr} {fd fdC : FuncData} {k : Nat} (F : Fun K "_law_pot" "_law_pot" sPot f fd) (C : Df K mg "_law_cell" sCell ["_law_script", "_law_k"] fC fdC) (mL : mg "len" = none) (mM : mg "max" = none) :
    FnOk P w K mg base CX0 (k + 2) f fd ["_law_script", "_law_k"] (spPot K) := by
  have GC : FnOk P w K mg base CX0 (k + 1) fC fdC ["_law_script", "_law_k"] (spCell K) := ok_cell C.F mL
  refine F.ok scPot (fun vs H Q E h => ?_) (fun cdv A outer s H vs Q E hr h => ?_)
  · obtain ⟨a, ns, k, rfl, _⟩ := h
    rfl
  · obtain ⟨a, ns, k, rfl, hS, hk, q⟩ := h
    refine ⟨_, pss_cons (ps_set (i := 2) scPot.nd rfl (.inl rfl) (pe_call GC hr (by rfl) C.g C.F.kp C.b .nil pass0 (pa_cons (pv 0) (pa_cons (pv 1) pa_nil))))
      (pss_one (ps_ret (pe_lst (pa_cons (pe_callB (call_max2 rfl) (by rfl) mM (by decide +kernel) (pa_cons pe_int (pa_cons (pe_op op_sub (pv 2) (pe_op op_pow pe_int pe_int)) pa_nil)))
        (pa_cons (pe_op op_mod (pe_op op_add (pe_op op_add (pe_op op_mul (pe_op op_mod (pv 2) pe_int) pe_int) (pe_op op_mul pe_int (pv 1))) pe_int) pe_int) pa_nil))))), ?_⟩
    refine ⟨.ref a, rfl, .int k, rfl, a, ns, k, rfl, hS, hk, fun z => ?_⟩
    refine ⟨.int z, rfl, 10, 18, rfl, rfl, ⟨by decide, by decide, by decide⟩, z, _, rfl, rfl, 0, _, rfl, ?_⟩
    refine ⟨.int z, rfl, z, 2147483629, rfl, rfl, (by show (0 : Int) < 2147483629; decide), _, 48271, rfl, rfl, .inr ⟨by decide, by decide⟩, .int k, rfl, 7919, k, rfl, rfl, .inl ⟨by decide, by decide⟩, _, _, rfl, rfl, _, 31, rfl, rfl, _, 2147483629, rfl, rfl, (by show (0 : Int) < 2147483629; decide), ?_⟩
    refine ⟨by show 2 ≤ sizeLine; decide, fun p hp => q _ p (same_upd hp) hp ⟨_, _, upd_same, Int.emod_nonneg _ (by decide), ?_⟩⟩
    exact Int.lt_trans (Int.emod_lt_of_pos _ (by decide)) (by decide)
/-! ### _law_draw -/
def spDraw : Sp := fun vs H Q _ => ∃ (p : Addr) (m : Int), vs = [.ref p, .int m] ∧ Pot H p ∧ 0 < m ∧ m ≤ 1000 ∧ ∀ H' (d : Int), But p H H' → Pot H' p → 0 ≤ d → d < m → Q (.int d) H'
theorem ok_draw {f : Addr} {fd : FuncData} {k : Nat} (F : Fun K "_law_draw" "_law_draw" sDraw f fd) (mD : mg "divmod" = none) : FnOk P w K mg base CX0 (k + 1) f fd ["_law_pot_here", "_law_many"] spDraw := by
  refine F.ok scDraw (fun vs H Q E h => ?_) (fun cdv A outer s H vs Q E hr h => ?_)
  · obtain ⟨p, m, rfl, _⟩ := h
    rfl
  · obtain ⟨p, m, rfl, ⟨a, b, hp, hb0, hb1⟩, hm0, hm1, q⟩ := h
    refine ⟨_, pss_cons (ps_if (pt_cmpR op_gt (pe_ix ix_list (pv 0) pe_int (fun _ _ => rfl)) pe_int (nomark _))
        (pss_cons (ps_asg (pe_callB call_divmod (by rfl) mD (by decide +kernel) (pa_cons (pe_ix ix_list (pv 0) pe_int (fun _ _ => rfl)) (pa_cons (pv 1) pa_nil)))
            (pg_tup rfl (pgs_cons (pg_sub (pv 0) pe_int set_list) (pgs_cons (pg_name (i := 2) scDraw.nd rfl (.inl rfl)) pgs_nil))))
          (pss_one (ps_ret (pv 2)))) pss_nil)
      (pss_cons (ps_asg (pe_op op_mod (pe_op op_add (pe_op op_mul (pe_ix ix_list (pv 0) pe_int (fun _ _ => rfl)) pe_int) pe_int) pe_int) (pg_sub (pv 0) pe_int set_list))
      (pss_one (ps_ret (pe_op op_mod (pe_op op_fdiv (pe_op op_mod (pe_op op_pow (pe_ix ix_list (pv 0) pe_int (fun _ _ => rfl)) pe_int) pe_int) pe_int) (pv 1))))), ?_⟩
    refine ⟨.ref p, rfl, p, _, 0, .int a, rfl, rfl, SqL.of hp, atI_nat (j := 0) rfl, a, 0, rfl, rfl, _, rfl, ite2 (fun e => ?_) (fun e => ?_)⟩
    · refine ⟨.ref p, rfl, p, _, 0, .int a, rfl, rfl, SqL.of hp, atI_nat (j := 0) rfl, .int m, rfl, a, m, rfl, ⟨hm0, by omega⟩, fun t nt => ?_⟩
      have npt : p ≠ t := ne_of_none hp nt
      have hp1 : (upd H t (.tup [.int (a / m), .int (a % m)])) p = some (.lst [.int a, .int b]) := by
        rw [upd_ne npt]
        exact hp
      refine ⟨t, _, rfl, SqT.of upd_same, rfl, _, _, rfl, .ref p, rfl, p, _, 0, 0, rfl, rfl, hp1, rfl, _, _, rfl, rfl, ?_⟩
      refine ⟨.int (a % m), rfl, q _ _ ((But.new nt).trans (But.upd _ _ _)) ⟨a / m, b, upd_same, hb0, hb1⟩ (Int.emod_nonneg _ (by omega)) (Int.emod_lt_of_pos _ hm0)⟩
    · refine ⟨.ref p, rfl, p, _, 1, .int b, rfl, rfl, SqL.of hp, atI_nat (j := 1) rfl, b, 39373, rfl, rfl, .inr ⟨by decide, by decide⟩, _, 8191, rfl, rfl, _, 2147483587, rfl, rfl, (by show (0 : Int) < 2147483587; decide), ?_⟩
      refine ⟨.ref p, rfl, p, _, 1, 1, rfl, rfl, hp, rfl, ?_⟩
      have c0 : 0 ≤ (b * 39373 + 8191) % 2147483587 := Int.emod_nonneg _ (by decide)
      have c1 : (b * 39373 + 8191) % 2147483587 < 2147483587 := Int.emod_lt_of_pos _ (by decide)
      refine ⟨.ref p, rfl, p, _, 1, .int ((b * 39373 + 8191) % 2147483587), rfl, rfl, SqL.of upd_same, atI_nat (j := 1) rfl, (b * 39373 + 8191) % 2147483587, 2, rfl, rfl, ⟨by decide, by decide, by omega⟩, _, 2147483543, rfl, rfl, (by show (0 : Int) < 2147483543; decide), _, 13, rfl, rfl, ⟨by decide, by decide⟩, .int m, rfl, _, m, rfl, rfl, hm0, ?_⟩
      exact q _ _ (But.upd _ _ _) ⟨a, _, upd_same, c0, by omega⟩ (Int.emod_nonneg _ (by omega)) (Int.emod_lt_of_pos _ hm0)
end
theorem at_strs (ys : List Str) (d : Int) (h0 : 0 ≤ d) (h1 : d < (ys.length : Int)) : ∃ y ∈ ys, atI (ys.map V.str) d = some (.str y) := by
  obtain ⟨n, rfl⟩ := Int.eq_ofNat_of_zero_le h0
  have hn : n < ys.length := by omega
  exact ⟨ys[n], List.getElem_mem hn, atI_nat (by rw [List.getElem?_map, List.getElem?_eq_getElem hn]; rfl)⟩
theorem at_ints (ys : List Int) (d : Int) (h0 : 0 ≤ d) (h1 : d < (ys.length : Int)) : ∃ y ∈ ys, atI (ys.map V.int) d = some (.int y) := by
  obtain ⟨n, rfl⟩ := Int.eq_ofNat_of_zero_le h0
  have hn : n < ys.length := by omega
  exact ⟨ys[n], List.getElem_mem hn, atI_nat (by rw [List.getElem?_map, List.getElem?_eq_getElem hn]; rfl)⟩
theorem at_any (ys : List V) (d : Int) (h0 : 0 ≤ d) (h1 : d < (ys.length : Int)) : ∃ y ∈ ys, atI ys d = some y := by
  obtain ⟨n, rfl⟩ := Int.eq_ofNat_of_zero_le h0
  have hn : n < ys.length := by omega
  exact ⟨ys[n], List.getElem_mem hn, atI_nat (List.getElem?_eq_getElem hn)⟩
theorem go {R : Hp → Prop} {H : Hp} {a : Addr} {o : HO} (n : H a = none) (h : ∀ H', Same H H' → H' a = some o → R H') : R (upd H a o) := h _ (same_upd n) upd_same
theorem goT {α : Type} {R : Hp → α → Prop} {Q : α} {H : Hp} {a : Addr} {o : HO} (n : H a = none) (h : ∀ H', Same H H' → H' a = some o → R H' Q) : R (upd H a o) Q := h _ (same_upd n) upd_same
theorem goU {R : Hp → Prop} {H : Hp} {a : Addr} {o : HO} (h : ∀ H', But a H H' → H' a = some o → R H') : R (upd H a o) := h _ (But.upd _ _ _) upd_same
theorem ev_use {t : TE} {σ : L2.St} {H : Hp} {v : V} {R : VK} (e : ∀ R : VK, R v H → t σ H R) (c : R v H) : t σ H R := e R c
theorem ev_gen {t : TE} {σ : L2.St} {H : Hp} (D : V → Hp → Prop) {R : VK} (e : ∀ R : VK, (∀ v H', D v H' → R v H') → t σ H R) (c : ∀ v H', D v H' → R v H') : t σ H R := e R c
theorem ts_gen {t : TS} {κ : L2.Ends} {σ : L2.St} {H : Hp} (D : L2.St → Hp → Prop) (e : ∀ κ : L2.Ends, (∀ σ' H', D σ' H' → κ.nx σ' H') → t κ σ H) (c : ∀ σ' H', D σ' H' → κ.nx σ' H') : t κ σ H := e κ c
theorem dp_strs {K : PySem.W.Frag} {H : Hp} : ∀ ys : List Str, DpAll K H (ys.map V.str) (ys.map PyData.str)
  | [] => .nil
  | y :: r => .cons (.str y) (dp_strs r)
theorem strOk_of {z : Str} (h : ∀ c ∈ tl z, c < 256) : PyData.strOk z = true := by
  unfold PyData.strOk
  rw [← Array.all_toList]
  exact List.all_eq_true.mpr fun c hc => decide_eq_true (Nat.lt_trans (h c hc) (by decide))
theorem lay_strs : ∀ ys : List Str, (∀ y ∈ ys, PyData.strOk y = true) → PyData.canLayAll0 (ys.map PyData.str) = true ∧ PyData.depthAll (ys.map PyData.str) = 0
  | [], _ => ⟨by simp [PyData.canLayAll0], by simp [PyData.depthAll]⟩
  | y :: r, h => by
    obtain ⟨h1, h2⟩ := lay_strs r fun z hz => h z (List.mem_cons_of_mem _ hz)
    rw [List.map_cons]
    exact ⟨by simp [PyData.canLayAll0, PyData.canLay0, h1, h y List.mem_cons_self], by simp [PyData.depthAll, PyData.depth, h2]⟩
theorem shaped_strs (ys : List Str) (h : ∀ y ∈ ys, PyData.strOk y = true) : SeqAt.shaped (.list (ys.map PyData.str)) = true := by
  obtain ⟨h1, h2⟩ := lay_strs ys h
  unfold SeqAt.shaped
  simp [PyData.canLay0, PyData.depth, h1, h2]
theorem eqv_nil (ds : List PyData) : PyData.eqv (.list ds) (.list []) = ds.isEmpty := by
  cases ds with
  | nil => simp [PyData.eqv, PyData.eqvAll]
  | cons d r => simp [PyData.eqv, PyData.eqvAll]
theorem strs_flat (ys : List Str) : (ys.map V.str).all flatV = true := by
  rw [List.all_map]
  exact List.all_eq_true.mpr fun _ _ => rfl
theorem eqvAll_strs : ∀ xs ys : List Str, PyData.eqvAll (xs.map PyData.str) (ys.map PyData.str) = decide (xs = ys)
  | [], [] => by simp [PyData.eqvAll]
  | [], y :: r => by simp [PyData.eqvAll]
  | x :: r, [] => by simp [PyData.eqvAll]
  | x :: r, y :: t => by
    rw [List.map_cons, List.map_cons]
    simp only [PyData.eqvAll, PyData.eqv]
    rw [eqvAll_strs r t]
    by_cases h : x = y
    · subst h
      by_cases h2 : r = t
      · subst h2
        simp
      · simp [h2]
    · simp [h]
theorem eqv_strs (xs ys : List Str) : PyData.eqv (.list (xs.map PyData.str)) (.list (ys.map PyData.str)) = decide (xs = ys) := by
  simp only [PyData.eqv]
  exact eqvAll_strs xs ys
theorem inV_strs (z : Str) (ys : List Str) : inV (.str z) (ys.map V.str) = decide (z ∈ ys) := by
  unfold inV
  rw [List.any_map]
  induction ys with
  | nil => rfl
  | cons y r ih =>
    rw [List.any_cons, ih]
    show (decide (y = z) || decide (z ∈ r)) = _
    by_cases h : y = z
    · subst h
      simp
    · have h2 : ¬ z = y := fun e => h e.symm
      simp [h, h2]
theorem tl_cut_to (x : Str) (k : Nat) : tl (cutS x none (some (k : Int))) = (tl x).take k := by
  show ((((tl x).drop (HT.sIx x.length 0 none)).take (HT.sIx x.length x.length (some (k : Int)) - HT.sIx x.length 0 none)).toArray).toList = _
  rw [HT.sIx_none, HT.sIx_nat, List.drop_zero, Nat.sub_zero]
  show (tl x).take (min k x.length) = _
  rw [TL.len_tl, ← List.take_take, List.take_length]
theorem tl_cut_from (x : Str) (k : Nat) : tl (cutS x (some (k : Int)) none) = (tl x).drop k := by
  show ((((tl x).drop (HT.sIx x.length 0 (some (k : Int)))).take (HT.sIx x.length x.length none - HT.sIx x.length 0 (some (k : Int)))).toArray).toList = _
  rw [HT.sIx_none, HT.sIx_nat]
  show ((tl x).drop (min k x.length)).take (x.length - min k x.length) = _
  have hl := TL.len_tl x
  by_cases h : k ≤ x.length
  · rw [Nat.min_eq_left h, List.take_of_length_le (by rw [List.length_drop]; omega)]
  · rw [Nat.min_eq_right (by omega), List.drop_of_length_le (by omega), List.drop_of_length_le (by omega), List.take_nil]
theorem fold_toList : ∀ (l : List (Array Nat)) (acc : Array Nat), (l.foldl (· ++ ·) acc).toList = acc.toList ++ (l.map Array.toList).flatten
  | [], acc => by simp
  | x :: l, acc => by
    rw [List.foldl_cons, fold_toList l]
    simp
theorem mul_tl (z : Str) (n : Nat) : (Txt.mul z (n : Int)).cps.toList = (List.replicate n z.cps.toList).flatten := by
  unfold Txt.mul
  by_cases h1 : (n : Int) < 1
  · have e : n = 0 := by omega
    subst e
    rw [if_pos h1]
    rfl
  · rw [if_neg h1]
    by_cases h2 : ((n : Int) == 1 || z.length == 0) = true
    · rw [if_pos h2]
      rcases Bool.or_eq_true_iff.mp h2 with e | e
      · have e1 : n = 1 := by
          have := eq_of_beq e
          omega
        subst e1
        simp
      · have e1 : z.cps.toList = [] := List.length_eq_zero_iff.mp (by
          have := eq_of_beq e
          simpa [Str.length] using this)
        rw [e1]
        simp
    · rw [if_neg h2]
      show ((List.replicate (n : Int).toNat z.cps).foldl (· ++ ·) #[]).toList = _
      rw [fold_toList, Int.toNat_natCast, List.map_replicate]
      rfl
theorem op_mul_str {X : Cx} : OpR X (binaryOp .Mult) (fun x y H Q => ∃ (z : Str) (n : Nat), x = .str z ∧ y = .int (n : Int) ∧ n ≤ 1000 ∧ z.length ≤ 1000 ∧ ∀ y : Str, tl y = (List.replicate n (tl z)).flatten → Q (.str y) H) := by
  intro pins s σ H x y v u Q I rx ry h
  obtain ⟨z, n, rfl, rfl, hn, hz, q⟩ := h
  obtain ⟨tx, rfl⟩ := rx
  obtain ⟨ty, rfl⟩ := ry
  have pw : z.length * n ≤ 1000000 := Nat.le_trans (Nat.mul_le_mul hz hn) (by decide)
  refine PySem.SB.mul ⟨?_, fun h1 h2 => ?_, fun h1 h2 => ?_⟩ fun t' k => ⟨.str _, H, I.tok k, ⟨t', rfl⟩, q _ ?_⟩
  · rw [decide_eq_false (by omega), decide_eq_false (by omega)]
    rfl
  · have e : (1000 : Int) ≤ (2 ^ 63 - 1) / (n : Int) := by
      have h3 : (0 : Int) < n := by omega
      exact (Int.le_ediv_iff_mul_le h3).mpr (by omega)
    omega
  · rw [Int.toNat_natCast]
    exact decide_eq_false (by show ¬ sizeLine < _; have : sizeLine = 16777216 := sizeLine_eq; omega)
  · exact mul_tl z n
theorem tt_use {t : TT} {σ : L2.St} {H : Hp} {b : Bool} {R : Bool → Hp → Prop} (e : ∀ R : Bool → Hp → Prop, R b H → t σ H R) (c : R b H) : t σ H R := e R c
theorem str_ext {a b : Str} (h : tl a = tl b) : a = b := by
  cases a; cases b
  exact congrArg Str.mk (Array.toList_inj.mp h)
abbrev B8 : Nat → Prop := fun c => c < 256
theorem Pot.same {H H' : Hp} {p : Addr} (h : Pot H p) (s : Same H H') : Pot H' p := by
  obtain ⟨x, y, e, h1, h2⟩ := h
  exact ⟨x, y, s _ _ e, h1, h2⟩
end WB

set_option Elab.async false
set_option linter.all false
set_option maxRecDepth 100000
set_option maxHeartbeats 4000000
namespace WB
open PySem PySem.Spec PyProof.Rows L2
open TL (tl)
abbrev st_signs : Stmt := topS 14
theorem sc_signs : FnScope ["_law_letters"] [] (defScope st_signs) := ⟨rfl, rfl, rfl, by decide +kernel, rfl, by decide +kernel, by decide +kernel⟩
abbrev st_text : Stmt := topS 15
theorem sc_text : FnScope ["_law_pot_here", "_law_most", "_law_signs_here", "_law_k"] ["_law_pot_here", "_law_most", "_law_signs_here"] (defScope st_text) := ⟨rfl, rfl, rfl, by decide +kernel, rfl, by decide +kernel, by decide +kernel⟩
abbrev sSigns := st_signs
abbrev sText := st_text
abbrev scSigns := sc_signs
abbrev scText := sc_text
section
variable {P : Program} {w : World} {K : PySem.W.Frag} {mg : Str → Option Value} {base : Heap}
/-! ### _law_signs -/
def signs2 : Str := Str.ofString " !\"#$&'()*+,-./0123456789:;<=>?@" ++ Str.ofString "[\\]^_`{|}~abcdefghijklmnopqrstuvwxyzABCDEFGHIJKLMNOPQRSTUVWXYZ"
def spSigns : Sp := fun vs H Q _ => vs = [] ∧ Q (.str signs2) H
theorem ok_signs {f : Addr} {fd : FuncData} {k : Nat} (F : Fun K "_law_signs" "_law_signs" sSigns f fd) : FnOk P w K mg base CX0 (k + 1) f fd [] spSigns := by
  refine F.ok scSigns (fun vs H Q E h => ?_) (fun cdv A outer s H vs Q E hr h => ?_)
  · obtain ⟨rfl, _⟩ := h
    rfl
  · obtain ⟨rfl, q⟩ := h
    refine ⟨_, pss_cons (ps_set (i := 0) scSigns.nd rfl (.inl rfl) pe_str) (pss_one (ps_ret (pe_op op_add_str (pe_op op_add_str pe_str (pv 0)) (pe_upper (pv 0))))), ?_⟩
    refine ⟨_, rfl, _, _, rfl, rfl, ?_, _, rfl, ⟨_, rfl⟩, _, rfl, rfl, ?_, _, _, rfl, rfl, ?_, (congrArg (fun z => Q (.str z) H) (by decide +kernel)).mp q⟩ <;> decide +kernel
/-! ### _law_text -/
def spText : Sp := fun vs H Q _ => ∃ (p : Addr) (m : Int) (z : Str), vs = [.ref p, .int m, .str z] ∧ Pot H p ∧ 0 ≤ m ∧ m ≤ 100 ∧ 0 < z.length ∧ z.length ≤ 200 ∧
  ∀ H' (y : Str), But p H H' → Pot H' p → Tq (· ∈ tl z) m.toNat y → Q (.str y) H'
theorem ok_text {f fD : Addr} {fd fdD : FuncData} {k : Nat} (F : Fun K "_law_text" "_law_text" sText f fd) (D : Df K mg "_law_draw" sDraw ["_law_pot_here", "_law_many"] fD fdD) (mD : mg "divmod" = none) (mL : mg "len" = none) (mR : mg "range" = none) :
    FnOk P w K mg base CX0 (k + 2) f fd ["_law_pot_here", "_law_most", "_law_signs_here"] spText := by
  have GD : FnOk P w K mg base CX0 (k + 1) fD fdD ["_law_pot_here", "_law_many"] spDraw := ok_draw D.F mD
  refine F.ok scText (fun vs H Q E h => ?_) (fun cdv A outer s H vs Q E hr h => ?_)
  · obtain ⟨p, m, z, rfl, _⟩ := h
    rfl
  · obtain ⟨p, m, z, rfl, hp, hm0, hm1, hz0, hz1, q⟩ := h
    refine ⟨_, pss_one (ps_ret (pe_join pe_str (pe_lc (own := [("_law_k", 3)]) (g := gName 3) (tt := tYes) rfl scText.nd
      (pi_range1 rfl mR (pa_cons (pe_call GD hr (by rfl) D.g D.F.kp D.b .nil pass0 (pa_cons (pv 0) (pa_cons (pe_op op_add (pv 1) pe_int) pa_nil))) pa_nil))
      (blkOk_by (N := ["_law_pot_here", "_law_most", "_law_signs_here", "_law_k"]) (sc := defScope sText) (by decide +kernel))
      (fun _ _ _ _ _ => pg_name (i := 3) scText.nd rfl (Or.inl rfl)) (fun _ _ _ _ _ => pts_nil)
      (fun _ _ _ _ _ => pe_ix ix_str (pv 2) (pe_call GD hr (by rfl) D.g D.F.kp D.b .nil pass0 (pa_cons (pv 0) (pa_cons (pe_callB call_len_str (by rfl) mL PySem.boot_len (pa_cons (pv 2) pa_nil)) pa_nil))) (fun _ _ => rfl))))), ?_⟩
    refine ⟨⟨_, rfl⟩, .ref p, rfl, .int m, rfl, m, 1, rfl, rfl, p, m + 1, rfl, hp, by omega, by omega, fun H1 d b1 p1 d0 d1 => ?_⟩
    refine ⟨d, rfl, by omega, by omega, fun T nT => ?_⟩
    have npT : p ≠ T := p1.ne nT
    refine lc_range (lo := 0) (n := d.toNat) (fun i Hc => But p H1 Hc ∧ Pot Hc p ∧ ∃ ys : List Str, Hc T = some (.lst (ys.map V.str)) ∧ ys.length = i ∧ ∀ y ∈ ys, Tq (· ∈ tl z) 1 y)
      ⟨But.new nT, p1.new nT, [], upd_same, rfl, fun y hy => by cases hy⟩ (fun i Hc hi ⟨bc, pc, ys, eT, el, e1⟩ => ?_) (fun Hc ⟨bc, pc, ys, eT, el, e1⟩ => ?_)
    · refine ⟨rfl, ?_⟩
      have hzl : z.length ≤ sizeLine := Nat.le_trans hz1 (by decide)
      refine ⟨.str z, rfl, .ref p, rfl, .str z, rfl, z, rfl, hzl, p, z.length, rfl, pc, by omega, by omega, fun H4 j b4 p4 j0 j1 => ?_⟩
      obtain ⟨n, rfl⟩ := Int.eq_ofNat_of_zero_le j0
      have hn : n < z.cps.toList.length := by
        have e : z.cps.toList.length = z.length := by simp [Str.length]
        omega
      have eT4 : H4 T = some (.lst (ys.map V.str)) := b4 T _ npT.symm eT
      refine ⟨z, n, z.cps.toList[n], rfl, rfl, hzl, atI_nat (List.getElem?_eq_getElem hn), ys.map V.str, eT4, ?_, ?_, ?_, ys ++ [⟨#[z.cps.toList[n]]⟩], ?_, ?_, ?_⟩
      · rw [List.length_map, el]
        exact small1000 (by omega)
      · exact fun b o nb e => by
          rw [upd_ne (ne_of_none e nT)]
          exact b4 b o nb (bc b o nb e)
      · obtain ⟨x, y, e, h1, h2⟩ := p4
        refine ⟨x, y, ?_, h1, h2⟩
        rw [upd_ne npT]
        exact e
      · rw [upd_same, List.map_append]
        rfl
      · rw [List.length_append, el]
        rfl
      · intro y hy
        rcases List.mem_append.mp hy with hy | hy
        · exact e1 y hy
        · rw [List.mem_singleton.mp hy]
          exact Tq.sign (List.getElem_mem hn)
    · have e0 : (Str.ofString "").length = 0 := by decide +kernel
      have es := sum_most 1 ys e1
      refine ⟨_, T, ys, rfl, rfl, .inl (SqL.of eT), ?_, q _ _ (b1.trans bc) pc ?_⟩
      · rw [e0]
        omega
      · exact Tq.join ⟨by rw [e0]; exact Nat.le_refl 0, fun c hc => by cases hc⟩ e1 (by omega)
end
end WB

set_option Elab.async false
set_option linter.all false
set_option maxRecDepth 100000
set_option maxHeartbeats 4000000
namespace WB
open PySem PySem.Spec PyProof.Rows L2
open TL (tl)
abbrev st_row : Stmt := topS 16
theorem sc_row : FnScope ["_law_pot_here", "_law_found", "_law_k", "_law_signs_here"] ["_law_pot_here"] (defScope st_row) := ⟨rfl, rfl, rfl, by decide +kernel, rfl, by decide +kernel, by decide +kernel⟩
section
variable {P : Program} {w : World} {K : PySem.W.Frag} {mg : Str → Option Value} {base : Heap}
/-- a row of words -/
def RowOk (ys : List Str) : Prop := ys.length ≤ 40 ∧ ∀ y ∈ ys, Tq B8 60 y
theorem row_sets : ∀ y ∈ [signs2, Str.ofString " '", Str.ofString " 'a-=", Str.ofString "abc"], 0 < y.length ∧ y.length ≤ 200 ∧ ∀ c ∈ tl y, c < 256 := by decide +kernel
def spRow : Sp := fun vs H Q _ => ∃ p : Addr, vs = [.ref p] ∧ Pot H p ∧ ∀ H' l (ys : List Str), But p H H' → Pot H' p → H l = none → l ≠ p → H' l = some (.lst (ys.map V.str)) → RowOk ys → Q (.ref l) H'
theorem ok_row {f fD fS fT : Addr} {fd fdD fdS fdT : FuncData} {k : Nat} (F : Fun K "_law_row" "_law_row" st_row f fd) (D_draw : Df K mg "_law_draw" sDraw ["_law_pot_here", "_law_many"] fD fdD) (D_signs : Df K mg "_law_signs" sSigns [] fS fdS)
    (D_text : Df K mg "_law_text" sText ["_law_pot_here", "_law_most", "_law_signs_here"] fT fdT) (m_divmod : mg "divmod" = none) (m_len : mg "len" = none) (m_range : mg "range" = none) :
    FnOk P w K mg base CX0 (k + 3) f fd ["_law_pot_here"] spRow := by
  have G_draw : FnOk P w K mg base CX0 (k + 2) fD fdD ["_law_pot_here", "_law_many"] spDraw := ok_draw D_draw.F m_divmod
  have G_signs : FnOk P w K mg base CX0 (k + 2) fS fdS [] spSigns := ok_signs D_signs.F
  have G_text : FnOk P w K mg base CX0 (k + 2) fT fdT ["_law_pot_here", "_law_most", "_law_signs_here"] spText := ok_text D_text.F D_draw m_divmod m_len m_range
  refine F.ok sc_row (fun vs H Q E h => ?_) (fun cdv A outer s H vs Q E hr h => ?_)
  · obtain ⟨p, rfl, _⟩ := h
    rfl
  · obtain ⟨p, rfl, hp, q⟩ := h
    refine ⟨_, pss_cons (ps_set (i := 1) sc_row.nd rfl (.inl rfl) (pe_lst pa_nil))
      (pss_cons (ps_for PassesOwn.never rfl (pi_range1 rfl m_range (pa_cons (pe_call G_draw hr (by rfl) D_draw.g D_draw.F.kp D_draw.b .nil pass0 (pa_cons (pv 0) (pa_cons (pe_ix ix_list (pe_lst (pa_cons pe_int (pa_cons pe_int (pa_cons pe_int pa_nil)))) (pe_call G_draw hr (by rfl) D_draw.g D_draw.F.kp D_draw.b .nil pass0 (pa_cons (pv 0) (pa_cons pe_int pa_nil))) (fun _ _ => rfl)) pa_nil))) pa_nil)) (pg_name (i := 2) sc_row.nd rfl (Or.inl rfl)) (pss_cons (ps_set (i := 3) sc_row.nd rfl (.inl rfl) (pe_ix ix_list (pe_lst (pa_cons (pe_call0 G_signs hr (by rfl) D_signs.g D_signs.F.kp D_signs.b .nil pass0) (pa_cons pe_str (pa_cons pe_str (pa_cons pe_str pa_nil))))) (pe_call G_draw hr (by rfl) D_draw.g D_draw.F.kp D_draw.b .nil pass0 (pa_cons (pv 0) (pa_cons pe_int pa_nil))) (fun _ _ => rfl)))
      (pss_one (ps_expr (pe_bm PySem.F.plainAttrs_list PySem.F.slot_list_append PySem.F.type_list_append mt_append (pv 1) (pa_cons (pe_call G_text hr (by rfl) D_text.g D_text.F.kp D_text.b .nil pass0 (pa_cons (pv 0) (pa_cons (pe_ix ix_list (pe_lst (pa_cons pe_int (pa_cons pe_int (pa_cons pe_int (pa_cons pe_int pa_nil))))) (pe_call G_draw hr (by rfl) D_draw.g D_draw.F.kp D_draw.b .nil pass0 (pa_cons (pv 0) (pa_cons pe_int pa_nil))) (fun _ _ => rfl)) (pa_cons (pv 3) pa_nil)))) pa_nil))))))
      (pss_one (ps_ret (pv 1)))), ?_⟩
    refine ⟨Nat.zero_le _, fun l nl => ?_⟩
    have nlp : l ≠ p := (hp.ne nl).symm
    first | refine go nl fun H1 s1 e1 => ?_ | refine goT nl fun H1 s1 e1 => ?_
    have p1 : Pot H1 p := hp.same s1
    refine ⟨.ref p, rfl, by decide +kernel, fun l2 n2 => ?_⟩
    have p2 := p1.new (o := .lst ([(4 : Int), 10, 41].map V.int)) n2
    have nl2 := p1.ne n2
    refine ⟨.ref p, rfl, p, 3, rfl, p2, by decide, by decide, fun H3 d3 b3 p3 d30 d31 => ?_⟩
    obtain ⟨mo, mom, moe⟩ := at_ints [(4 : Int), 10, 41] d3 d30 (by show d3 < 3; exact d31)
    have hmo : 0 < mo ∧ mo ≤ 41 := (by decide : ∀ y ∈ [(4 : Int), 10, 41], 0 < y ∧ y ≤ 41) mo mom
    refine ⟨l2, _, d3, .int mo, rfl, rfl, SqL.of (b3 _ _ nl2.symm upd_same), moe, p, mo, rfl, p3, hmo.1, by omega, fun H4 d b4 p4 d0 d1 => ?_⟩
    have bb4 : But p H H4 := (((But.of_same s1).trans (But.new n2)).trans b3).trans b4
    have el4 : H4 l = some (.lst []) := b4 _ _ nlp (b3 _ _ nlp (same_upd n2 _ _ e1))
    refine ⟨d, rfl, by omega, by omega, for_range (lo := 0) (n := d.toNat) (fun i σ H' => But p H H' ∧ Pot H' p ∧ ∃ (ys : List Str) (x2 x3 : Option V), σ = [some (.ref p), some (.ref l), x2, x3] ∧ H' l = some (.lst (ys.map V.str)) ∧ ys.length ≤ i ∧ (∀ y ∈ ys, Tq B8 60 y))
      ⟨bb4, p4, [], none, none, rfl, el4, Nat.le_refl 0, fun y hy => by cases hy⟩ ?_ ?_⟩
    · rintro i σ H5 hi ⟨b5, p5, ys, x2, x3, rfl, el, hlen, hys⟩
      refine ⟨rfl, by show 4 ≤ sizeLine; decide, fun l3 n3 => ?_⟩
      have p6 := p5.new (o := .lst ([signs2, Str.ofString " '", Str.ofString " 'a-=", Str.ofString "abc"].map V.str)) n3
      have nl3 := p5.ne n3
      refine ⟨.ref p, rfl, p, 4, rfl, p6, by decide, by decide, fun H7 d7 b7 p7 d70 d71 => ?_⟩
      obtain ⟨sg, sgm, sge⟩ := at_strs [signs2, Str.ofString " '", Str.ofString " 'a-=", Str.ofString "abc"] d7 d70 (by show d7 < 4; exact d71)
      obtain ⟨hz0, hz1, hz2⟩ := row_sets sg sgm
      refine ⟨l3, _, d7, .str sg, rfl, rfl, SqL.of (b7 _ _ nl3.symm upd_same), sge, ?_⟩
      have el7 : H7 l = some (.lst (ys.map V.str)) := b7 _ _ nlp (same_upd n3 _ _ el)
      refine ⟨.ref l, rfl, .inl ⟨rfl, _, SqL.of el7⟩, .ref p, rfl, by decide +kernel, fun l4 n4 => ?_⟩
      have p8 := p7.new (o := .lst ([(0 : Int), 2, 9, 60].map V.int)) n4
      have nl4 := p7.ne n4
      refine ⟨.ref p, rfl, p, 4, rfl, p8, by decide, by decide, fun H9 d9 b9 p9 d90 d91 => ?_⟩
      obtain ⟨mq, mqm, mqe⟩ := at_ints [(0 : Int), 2, 9, 60] d9 d90 (by show d9 < 4; exact d91)
      have hmq : 0 ≤ mq ∧ mq ≤ 60 := (by decide : ∀ y ∈ [(0 : Int), 2, 9, 60], 0 ≤ y ∧ y ≤ 60) mq mqm
      refine ⟨l4, _, d9, .int mq, rfl, rfl, SqL.of (b9 _ _ nl4.symm upd_same), mqe, .str sg, rfl, p, mq, sg, rfl, p9, hmq.1, by omega, hz0, hz1, fun H10 y b10 p10 ty => ?_⟩
      have bb10 : But p H5 H10 := ((((But.new n3).trans b7).trans (But.new n4)).trans b9).trans b10
      have el10 := bb10 _ _ nlp el
      refine ⟨l, _, _, rfl, rfl, el10, by rw [List.length_map]; exact small1000 (by omega), ?_⟩
      refine goU fun H11 u11 e11 => ?_
      refine ⟨fun b o nb e => u11 b o (ne_of_none e nl) (bb10 b o nb (b5 b o nb e)), ?_, ys ++ [y], _, _, rfl, ?_, ?_, ?_⟩
      · obtain ⟨x, y, e, h1, h2⟩ := p10
        exact ⟨x, y, u11 _ _ (fun z => nlp z.symm) e, h1, h2⟩
      · rw [e11, List.map_append]
        rfl
      · rw [List.length_append]
        have : [y].length = 1 := rfl
        omega
      · intro z hz
        rcases List.mem_append.mp hz with h | h
        · exact hys z h
        · rw [List.mem_singleton.mp h]
          exact ty.mono (by omega) hz2
    · rintro σ H5 ⟨b5, p5, ys, x2, x3, rfl, el, hlen, hys⟩
      exact ⟨_, rfl, q _ l ys b5 p5 nl nlp el ⟨by omega, hys⟩⟩
end
end WB

set_option Elab.async false
set_option linter.all false
set_option maxRecDepth 100000
set_option maxHeartbeats 4000000
namespace WB
open PySem PySem.Spec PyProof.Rows L2
open TL (tl)
/-! ### a row's text, sign by sign -/
def dblq (cs : List Nat) : List Nat := cs.flatMap fun c => if c = 39 then [39, 39] else [c]
def needq (cs : List Nat) : Bool := decide (cs = []) || (decide (32 ∈ cs) || decide (39 ∈ cs))
def wq (cs : List Nat) : List Nat := if needq cs then 39 :: (dblq cs ++ [39]) else cs
def rowL (ws : List (List Nat)) : List Nat := TL.joinL [32] (ws.map wq)
theorem joinL_snoc (S : List Nat) : ∀ (ps : List (List Nat)) (p : List Nat), TL.joinL S (ps ++ [p]) = if ps = [] then p else TL.joinL S ps ++ (S ++ p)
  | [], p => rfl
  | [x], p => rfl
  | x :: y :: r, p => by
    rw [if_neg (by simp)]
    show x ++ (S ++ TL.joinL S ((y :: r) ++ [p])) = (x ++ (S ++ TL.joinL S (y :: r))) ++ (S ++ p)
    rw [joinL_snoc S (y :: r) p, if_neg (by simp)]
    simp [List.append_assoc]
theorem rowL_snoc (ws : List (List Nat)) (w : List Nat) : rowL (ws ++ [w]) = if ws = [] then wq w else rowL ws ++ (32 :: wq w) := by
  unfold rowL
  rw [List.map_append, List.map_cons, List.map_nil, joinL_snoc]
  by_cases h : ws = []
  · rw [if_pos h, if_pos (by rw [h]; rfl)]
  · rw [if_neg h, if_neg (by simpa using h)]
    rfl
theorem joinL_nil : ∀ ps : List (List Nat), TL.joinL [] ps = ps.flatten
  | [] => rfl
  | [p] => by simp [TL.joinL]
  | p :: q :: r => by
    show p ++ ([] ++ TL.joinL [] (q :: r)) = _
    rw [joinL_nil (q :: r)]
    rfl
theorem dblq_len (cs : List Nat) : (dblq cs).length ≤ 2 * cs.length := by
  induction cs with
  | nil => exact Nat.le_refl 0
  | cons c r ih =>
    have e : dblq (c :: r) = (if c = 39 then [39, 39] else [c]) ++ dblq r := rfl
    rw [e, List.length_append, List.length_cons]
    split
    · show 2 + _ ≤ _
      omega
    · show 1 + _ ≤ _
      omega
theorem wq_len {cs : List Nat} (h : cs.length ≤ 60) : (wq cs).length ≤ 122 := by
  unfold wq
  split
  · rw [List.length_cons, List.length_append]
    have := dblq_len cs
    show _ + 1 + 1 ≤ 122
    omega
  · omega
abbrev st_written : Stmt := topS 17
theorem sc_written : FnScope ["_law_words", "_law_text_here", "_law_k", "_law_word", "_law_sign"] ["_law_words"] (defScope st_written) := ⟨rfl, rfl, rfl, by decide +kernel, rfl, by decide +kernel, by decide +kernel⟩
section
variable {P : Program} {w : World} {K : PySem.W.Frag} {mg : Str → Option Value} {base : Heap}
def spWritten : Sp := fun vs H Q _ => ∃ (l : Addr) (ys : List Str), vs = [.ref l] ∧ H l = some (.lst (ys.map V.str)) ∧ RowOk ys ∧ ∀ H' (z : Str), Same H H' → tl z = rowL (ys.map tl) → Q (.str z) H'
theorem ok_written {f : Addr} {fd : FuncData} {k : Nat} (F : Fun K "_law_written" "_law_written" st_written f fd) (m_enumerate : mg "enumerate" = none) (m_int : mg "int" = none) :
    FnOk P w K mg base CX0 (k + 1) f fd ["_law_words"] spWritten := by
  refine F.ok sc_written (fun vs H Q E h => ?_) (fun cdv A outer s H vs Q E hr h => ?_)
  · obtain ⟨l, ys, rfl, _⟩ := h
    rfl
  · obtain ⟨l, ys, rfl, el, ok, q⟩ := h
    refine ⟨_, pss_cons (ps_set (i := 1) sc_written.nd rfl (.inl rfl) pe_str)
      (pss_cons (ps_for PassesOwn.never rfl (pi_enum (by rfl) m_enumerate (pa_cons (pv 0) pa_nil)) (pg_tup rfl (pgs_cons (pg_name (i := 2) sc_written.nd rfl (Or.inl rfl)) (pgs_cons (pg_name (i := 3) sc_written.nd rfl (Or.inl rfl)) pgs_nil))) (pss_cons (ps_set (i := 1) sc_written.nd rfl (.inl rfl) (pe_op op_add_str (pv 1) (pe_op op_mul_str pe_str (pe_callTy call_int1 (by rfl) m_int (by decide +kernel) (pa_cons (pe_cmpR op_gt (pv 2) pe_int (nomark _)) pa_nil)))))
      (pss_one (ps_if (PW.pt (pw_or (pt_cmpR op_eq (pv 3) pe_str (nomark _)) (pw_or (pt_cmpR op_in_sign pe_str (pv 3) (by rfl)) (pw_or1 (pt_cmpR op_in_sign pe_str (pv 3) (by rfl)))))) (pss_one (ps_set (i := 1) sc_written.nd rfl (.inl rfl) (pe_op op_add_str (pe_op op_add_str (pe_op op_add_str (pv 1) pe_str) (pe_join pe_str (pe_lc (own := [("_law_sign", 4)]) (g := gName 4) (tt := tYes) rfl sc_written.nd (pi_str (pv 3)) (blkOk_by (N := ["_law_words", "_law_text_here", "_law_k", "_law_word", "_law_sign"]) (sc := defScope st_written) (by decide +kernel)) (fun _ _ _ _ _ => (pg_name (i := 4) sc_written.nd rfl (Or.inl rfl))) (fun _ _ _ _ _ => pts_nil) (fun _ _ _ _ _ => (pe_op op_add_str (pe_op op_mul_str pe_str (pe_callTy call_int1 (by rfl) m_int (by decide +kernel) (pa_cons (pe_cmpR op_eq (pv 4) pe_str (nomark _)) pa_nil))) (pv 4)))))) pe_str))) (pss_one (ps_set (i := 1) sc_written.nd rfl (.inl rfl) (pe_op op_add_str (pv 1) (pv 3))))))))
      (pss_one (ps_ret (pv 1)))), ?_⟩
    have lq : (Str.ofString "'").length = 1 := by decide +kernel
    have tq : tl (Str.ofString "'") = [39] := by decide +kernel
    have lb : (Str.ofString " ").length = 1 := by decide +kernel
    have tb : tl (Str.ofString " ") = [32] := by decide +kernel
    have te : tl (Str.ofString "") = [] := by decide +kernel
    refine ⟨.ref l, rfl, l, _, rfl, SqL.of el, for_it walk_enum (fun i σ H' => Same H H' ∧ ∃ (z : Str) (x2 x3 x4 : Option V), σ = [some (.ref l), some (.str z), x2, x3, x4] ∧ tl z = rowL ((ys.take i).map tl) ∧ z.length ≤ i * 123)
      ⟨Same.refl _, Str.ofString "", none, none, none, rfl, by rw [te]; rfl, by decide +kernel⟩ (fun i σ H' _ ⟨sm, _⟩ => SqL.of (sm _ _ el)) ?_ ?_⟩
    · rintro i x σ H5 H6 hi ⟨sm, z, x2, x3, x4, rfl, ez, hz⟩ ⟨T, k1, k2, rfl, nT, rfl, e1, e2⟩
      have e1' : k1 = .int (i : Nat) := (Option.some.inj e1).symm
      subst e1'
      have e2' : (ys.map V.str)[i]? = some k2 := e2
      rw [List.getElem?_map] at e2'
      obtain ⟨wd, ew, rfl⟩ := Option.map_eq_some_iff.mp e2'
      have hi40 : i < 40 := by
        have := ok.1
        rw [List.length_map] at hi
        omega
      have tw := ok.2 wd (List.mem_of_getElem? ew)
      have etk : ys.take (i + 1) = ys.take i ++ [wd] := by
        rw [List.take_add_one, ew]
        rfl
      have S6 : Same H (upd H5 T (.tup [.int (i : Nat), .str wd])) := sm.trans (same_upd nT)
      refine ⟨T, _, rfl, SqT.of upd_same, rfl, _, _, rfl, _, _, rfl, rfl, ?_⟩
      revert S6
      generalize upd H5 T (.tup [.int (i : Nat), .str wd]) = H6
      intro S6
      obtain ⟨n, hn1, hnv, hnt⟩ : ∃ n : Nat, n ≤ 1 ∧ (V.int (if decide ((0 : Int) < ((i : Nat) : Int)) = true then 1 else 0)) = V.int (n : Int) ∧ ((n = 0 ∧ ys.take i = []) ∨ (n = 1 ∧ ys.take i ≠ [])) := by
        by_cases h0 : i = 0
        · subst h0
          exact ⟨0, by decide, rfl, .inl ⟨rfl, rfl⟩⟩
        · refine ⟨1, by decide, ?_, .inr ⟨rfl, fun c => ?_⟩⟩
          · rw [if_pos (decide_eq_true (by omega))]
            rfl
          · rw [List.take_eq_nil_iff] at c
            rcases c with c | c
            · exact h0 c
            · rw [c] at ew
              cases ew
      refine ⟨.str z, rfl, .int (i : Nat), rfl, (i : Nat), 0, rfl, rfl, .inr ⟨_, rfl, Str.ofString " ", n, rfl, hnv, by omega, by rw [lb]; decide, fun sp hsp => ?_⟩⟩
      have lsp : sp.length ≤ 1 := by
        rw [TL.len_tl, hsp, tb]
        rcases hnt with ⟨h, _⟩ | ⟨h, _⟩ <;> rw [h] <;> decide
      have hzl : z.length + sp.length ≤ sizeLine := Nat.le_trans (show z.length + sp.length ≤ 40 * 123 + 1 by omega) (by decide)
      refine ⟨z, sp, rfl, rfl, hzl, ?_⟩
      have e1z : tl (z ++ sp) ++ wq (tl wd) = rowL ((ys.take (i + 1)).map tl) := by
        rw [etk, List.map_append, List.map_cons, List.map_nil, rowL_snoc, TL.tl_append, ez, hsp, tb]
        rcases hnt with ⟨h, h'⟩ | ⟨h, h'⟩
        · rw [h, h']
          rfl
        · rw [h, if_neg (by simpa using h'), List.append_assoc]
          rfl
      have l1z : (z ++ sp).length ≤ i * 123 + 1 := by
        rw [Str.length_append]
        omega
      dsimp only [tSeq, tAsg, tC, gName, tIfS]
      generalize (z ++ sp : Str) = z1 at e1z l1z
      have lw : (tl wd).length ≤ 60 := by
        rw [← TL.len_tl]
        exact tw.le
      have lwq := wq_len lw
      refine tt_use (t := tOr _ _) (b := needq (tl wd)) (fun R c => ?_) ?_
      · unfold needq at c
        refine ⟨_, rfl, rfl, _, rfl, ite2 (fun e => ?_) (fun e => ?_)⟩
        · have e' : wd = Str.ofString "" := V.str.inj (of_decide_eq_true e)
          rw [e', te] at c
          exact c
        · have e' : tl wd ≠ [] := fun h => e (decide_eq_true (congrArg V.str (str_ext (by rw [h, te]))))
          rw [decide_eq_false e', Bool.false_or] at c
          refine ⟨_, rfl, 32, wd, congrArg V.str (by decide +kernel), rfl, _, rfl, ite2 (fun e => ?_) (fun e => ?_)⟩
          · have e2 : 32 ∈ tl wd := of_decide_eq_true e
            rw [decide_eq_true e2] at c
            exact c
          · have e2 : 32 ∉ tl wd := fun h => e (decide_eq_true h)
            rw [decide_eq_false e2, Bool.false_or] at c
            exact ⟨_, rfl, 39, wd, congrArg V.str (by decide +kernel), rfl, _, rfl, c⟩
      cases hq : needq (tl wd) with
      | false =>
        have hwq : wq (tl wd) = tl wd := by
          unfold wq
          rw [hq]
          rfl
        refine ⟨_, rfl, _, rfl, z1, wd, rfl, rfl, ?_, S6, z1 ++ wd, _, _, _, rfl, ?_, ?_⟩
        · exact Nat.le_trans (show z1.length + wd.length ≤ 40 * 123 + 61 by have := tw.le; omega) (by decide)
        · rw [TL.tl_append, ← e1z, hwq]
        · rw [Str.length_append]
          have := tw.le
          omega
      | true =>
        have hwq : wq (tl wd) = 39 :: (dblq (tl wd) ++ [39]) := by
          unfold wq
          rw [hq]
          rfl
        have lz1 : z1.length + (Str.ofString "'").length ≤ sizeLine := Nat.le_trans (show z1.length + (Str.ofString "'").length ≤ 40 * 123 + 2 by omega) (by decide)
        refine ⟨_, rfl, z1, _, rfl, rfl, lz1, ⟨_, rfl⟩, .str wd, rfl, wd, rfl, fun D nD => ?_⟩
        refine lc_it walk_str (fun j Hc => Same H6 Hc ∧ ∃ us : List Str, Hc D = some (.lst (us.map V.str)) ∧ (us.map tl).flatten = dblq ((tl wd).take j) ∧ us.length = j ∧ ∀ u ∈ us, u.length ≤ 2)
          ⟨same_upd nD, [], upd_same, rfl, rfl, fun u hu => by cases hu⟩ (fun _ _ _ _ => True.intro) (fun j x Hc H' hj ⟨sc, us, eD, ej, elu, e2⟩ ⟨eH, c, ec, ex⟩ => ?_) (fun Hc ⟨sc, us, eD, ej, elu, e2⟩ => ?_)
        · subst eH ex
          have ec' : (tl wd)[j]? = some c := by
            rw [← Array.getElem?_toList] at ec
            exact ec
          obtain ⟨m, hm1, hmv, hmt⟩ : ∃ m : Nat, m ≤ 1 ∧ (V.int (if decide (V.str ⟨#[c]⟩ = V.str (Str.ofString "'")) = true then 1 else 0)) = V.int (m : Int) ∧ (List.replicate m [39]).flatten ++ [c] = (if c = 39 then [39, 39] else [c]) := by
            by_cases h0 : c = 39
            · subst h0
              exact ⟨1, by decide, by rw [if_pos (by decide +kernel)]; rfl, rfl⟩
            · refine ⟨0, by decide, ?_, by rw [if_neg h0]; rfl⟩
              rw [if_neg (fun h => h0 ?_)]
              · rfl
              · have h1 := congrArg tl (V.str.inj (of_decide_eq_true h))
                rw [tq] at h1
                exact (List.cons.inj h1).1
          refine ⟨rfl, .str ⟨#[c]⟩, rfl, rfl, .inr ⟨_, rfl, Str.ofString "'", m, rfl, hmv, by omega, by rw [lq]; decide, fun sp hsp => ?_⟩⟩
          have lsp2 : sp.length ≤ 1 := by
            rw [TL.len_tl, hsp, tq]
            rcases Nat.le_one_iff_eq_zero_or_eq_one.mp hm1 with h | h <;> rw [h] <;> decide
          have lc1 : (⟨#[c]⟩ : Str).length = 1 := rfl
          refine ⟨.str ⟨#[c]⟩, rfl, sp, ⟨#[c]⟩, rfl, rfl, Nat.le_of_lt (small1000 (by omega)), _, eD, ?_, ?_, us ++ [sp ++ ⟨#[c]⟩], ?_, ?_, ?_, ?_⟩
          · rw [List.length_map, elu]
            have h60 : wd.cps.size ≤ 60 := tw.le
            exact small1000 (by omega)
          · intro a o e
            rw [upd_ne (ne_of_none e nD)]
            exact sc a o e
          · rw [upd_same, List.map_append]
            rfl
          · rw [List.map_append, List.flatten_append, ej, List.take_add_one, ec']
            show _ ++ [tl (sp ++ ⟨#[c]⟩)].flatten = dblq ((tl wd).take j ++ [c])
            rw [TL.tl_append, hsp, tq]
            unfold dblq
            rw [List.flatMap_append]
            show _ ++ ((List.replicate m [39]).flatten ++ [c] ++ []) = _ ++ ((if c = 39 then [39, 39] else [c]) ++ [])
            rw [hmt]
          · rw [List.length_append, elu]
            rfl
          · intro u hu
            rcases List.mem_append.mp hu with h | h
            · exact e2 u h
            · rw [List.mem_singleton.mp h, Str.length_append, lc1]
              omega
        · have h60 : wd.cps.size ≤ 60 := tw.le
          have elw : wd.cps.size = (tl wd).length := by simp
          rw [elw, List.take_length] at ej
          have l0 : (Str.ofString "").length = 0 := by decide +kernel
          have hsum : (us.map (·.length)).sum ≤ us.length * 2 := by
            refine sum_most (p := fun _ => True) 2 us fun u hu => ⟨e2 u hu, fun _ _ => True.intro⟩
          have etj : tl (Txt.join (Str.ofString "") us) = dblq (tl wd) := by
            rw [TL.join_eq, TL.tl_join, te, joinL_nil, ej]
          have elj : (Txt.join (Str.ofString "") us).length ≤ 120 := by
            rw [TL.len_tl, etj]
            have := dblq_len (tl wd)
            omega
          refine ⟨_, D, us, rfl, rfl, .inl (SqL.of eD), by rw [l0]; omega, ?_⟩
          generalize Txt.join (Str.ofString "") us = jn at etj elj
          have l1 : (z1 ++ Str.ofString "'").length ≤ i * 123 + 2 := by
            rw [Str.length_append]
            omega
          refine ⟨_, jn, rfl, rfl, Nat.le_trans (show (z1 ++ Str.ofString "'").length + jn.length ≤ 40 * 123 + 122 by omega) (by decide), ?_⟩
          have l2 : ((z1 ++ Str.ofString "'") ++ jn).length = (z1 ++ Str.ofString "'").length + jn.length := Str.length_append _ _
          have ljn : jn.length = (dblq (tl wd)).length := by rw [TL.len_tl, etj]
          refine ⟨_, _, rfl, rfl, Nat.le_trans (show ((z1 ++ Str.ofString "'") ++ jn).length + (Str.ofString "'").length ≤ 40 * 123 + 123 by omega) (by decide), S6.trans sc, _, _, _, _, rfl, ?_, ?_⟩
          · rw [TL.tl_append, TL.tl_append, TL.tl_append, etj, tq, ← e1z, hwq]
            simp [List.append_assoc]
          · rw [Str.length_append, l2, Str.length_append, lq]
            have h5 : (wq (tl wd)).length = (dblq (tl wd)).length + 2 := by
              rw [hwq, List.length_cons, List.length_append]
              rfl
            omega
    · rintro σ H5 ⟨sm, z, x2, x3, x4, rfl, ez, hz⟩
      rw [List.length_map, List.take_length] at ez
      exact ⟨_, rfl, q _ z sm ez⟩
end
end WB

set_option Elab.async false
set_option linter.all false
set_option maxRecDepth 100000
set_option maxHeartbeats 4000000
namespace WB
open PySem PySem.Spec PyProof.Rows L2
open TL (tl)
abbrev st_right : Stmt := topS 18
theorem sc_right : FnScope ["_law_words", "_law_handed", "_law_text_here", "_law_found", "_law_word"] ["_law_words"] (defScope st_right) := ⟨rfl, rfl, rfl, by decide +kernel, rfl, by decide +kernel, by decide +kernel⟩
section
variable {P : Program} {w : World} {K : PySem.W.Frag} {mg : Str → Option Value} {base : Heap}
theorem RowOk.ok {ys : List Str} (h : RowOk ys) : ∀ y ∈ ys, PyData.strOk y = true := fun y hy => strOk_of (h.2 y hy).pl
/-- the text of a row is read as the row -/
def spWordsOf : Sp := fun vs H Q _ => ∃ (z : Str) (ys : List Str), vs = [.str z] ∧ RowOk ys ∧ tl z = rowL (ys.map tl) ∧ ∀ H' o, Same H H' → H o = none → H' o = some (.lst (ys.map V.str)) → Q (.ref o) H'
def spRight : Sp := fun vs H Q _ => ∃ (l : Addr) (ys : List Str), vs = [.ref l] ∧ H l = some (.lst (ys.map V.str)) ∧ RowOk ys ∧ ∀ H', Same H H' → Q (.bl true) H'
theorem ok_right {f fW fR fO : Addr} {fd fdW fdR fdO : FuncData} {sR sO : Stmt} {k : Nat} (F : Fun K "_law_right" "_law_right" st_right f fd) (D_written : Df K mg "_law_written" st_written ["_law_words"] fW fdW)
    (D_row_text : Df K mg "row_text" sR ["words"] fR fdR) (G_row_text : FnOk P w K mg base CX0 (k + 2) fR fdR ["words"] spWritten) (D_words_of : Df K mg "words_of" sO ["text"] fO fdO) (G_words_of : FnOk P w K mg base CX0 (k + 2) fO fdO ["text"] spWordsOf)
    (m_list : mg "list" = none) (m_isinstance : mg "isinstance" = none) (m_str : mg "str" = none) (m_all : mg "all" = none) (m_enumerate : mg "enumerate" = none) (m_int : mg "int" = none) :
    FnOk P w K mg base CX0 (k + 3) f fd ["_law_words"] spRight := by
  have G_written : FnOk P w K mg base CX0 (k + 2) fW fdW ["_law_words"] spWritten := ok_written D_written.F m_enumerate m_int
  refine F.ok sc_right (fun vs H Q E h => ?_) (fun cdv A outer s H vs Q E hr h => ?_)
  · obtain ⟨l, ys, rfl, _⟩ := h
    rfl
  · obtain ⟨l, ys, rfl, el, ok, q⟩ := h
    refine ⟨_, pss_cons (ps_set (i := 1) sc_right.nd rfl (.inl rfl) (pe_callTy call_list_of (by rfl) m_list (by decide +kernel) (pa_cons (pv 0) pa_nil)))
      (pss_cons (ps_set (i := 2) sc_right.nd rfl (.inl rfl) (pe_call G_row_text hr (by rfl) D_row_text.g D_row_text.F.kp D_row_text.b .nil pass0 (pa_cons (pv 1) pa_nil)))
      (pss_cons (ps_if (PW.pt (pw_or (pt_cmpR (op_neD hr.units) (pv 1) (pv 0) (nomark _)) (pw_or (pt_not (pt_val (pe_callB call_isi (by rfl) m_isinstance (by decide +kernel) (pa_cons (pv 2) (pa_cons (pe_bltn (v := .ty "str") (by rfl) m_str (by decide +kernel) rfl) pa_nil))))) (pw_or1 (pt_cmpR op_ne (pv 2) (pe_call G_written hr (by rfl) D_written.g D_written.F.kp D_written.b .nil pass0 (pa_cons (pv 0) pa_nil)) (nomark _)))))) (pss_one (ps_ret pe_bl)) pss_nil)
      (pss_cons (ps_set (i := 3) sc_right.nd rfl (.inl rfl) (pe_call G_words_of hr (by rfl) D_words_of.g D_words_of.F.kp D_words_of.b .nil pass0 (pa_cons (pv 2) pa_nil)))
      (pss_cons (ps_if (PW.pt (pw_or (pt_not (pt_val (pe_callB call_isi (by rfl) m_isinstance (by decide +kernel) (pa_cons (pv 3) (pa_cons (pe_bltn (v := .ty "list") (by rfl) m_list (by decide +kernel) rfl) pa_nil))))) (pw_or (pt_not (pt_val (pe_callB (cr_all rfl) (by rfl) m_all (by decide +kernel) (pa_cons (pe_lc (own := [("_law_word", 4)]) (g := gName 4) (tt := tYes) rfl sc_right.nd (pi_list (pv 3)) (blkOk_by (N := ["_law_words", "_law_handed", "_law_text_here", "_law_found", "_law_word"]) (sc := defScope st_right) (by decide +kernel)) (fun _ _ _ _ _ => (pg_name (i := 4) sc_right.nd rfl (Or.inl rfl))) (fun _ _ _ _ _ => pts_nil) (fun _ _ _ _ _ => (pe_callB (id := "isinstance") (r := rIsi K) call_isi (by rfl) m_isinstance (by decide +kernel) (pa_cons (pv 4) (pa_cons (pe_bltn (v := .ty "str") (by rfl) m_str (by decide +kernel) rfl) pa_nil))))) pa_nil)))) (pw_or1 (pt_cmpR (op_neD hr.units) (pv 3) (pv 0) (nomark _)))))) (pss_one (ps_ret pe_bl)) pss_nil)
      (pss_cons (ps_expr (pe_bm PySem.F.plainAttrs_list PySem.F.slot_list_append PySem.F.type_list_append mt_append (pv 3) (pa_cons pe_str pa_nil)))
      (pss_one (ps_ret (pe_and (pe_cmpR (op_eqD hr.units) (pe_call G_words_of hr (by rfl) D_words_of.g D_words_of.F.kp D_words_of.b .nil pass0 (pa_cons (pv 2) pa_nil)) (pv 0) (nomark _)) (pe_one (pe_cmpR op_eq (pe_call G_row_text hr (by rfl) D_row_text.g D_row_text.F.kp D_row_text.b .nil pass0 (pa_cons (pv 1) pa_nil)) (pv 2) (nomark _))))))))))), ?_⟩
    refine ⟨.ref l, rfl, l, _, rfl, .inl (SqL.of el), fun h1 n1 => ?_⟩
    first | refine go n1 fun H2 s2 e2 => ?_ | refine goT n1 fun H2 s2 e2 => ?_
    refine ⟨.ref h1, rfl, h1, ys, rfl, e2, ok, fun H3 z s3 ez => ?_⟩
    have S3 : Same H H3 := s2.trans s3
    refine ⟨.ref h1, rfl, .ref l, rfl, _, _, .lst (SqL.of (s3 _ _ e2)) (dp_strs _), .lst (SqL.of (S3 _ _ el)) (dp_strs _), shaped_strs _ ok.ok, shaped_strs _ ok.ok, _, rfl, ?_⟩
    rw [eqv_strs, decide_eq_true rfl]
    refine ⟨_, rfl, _, _, _, _, true, rfl, ClsV.ty "str", TyX.base (TyOf.str _), kit_ty (by decide +kernel), _, rfl, ?_⟩
    refine ⟨_, rfl, .ref l, rfl, l, ys, rfl, S3 _ _ el, ok, fun H4 z' s4 ez' => ?_⟩
    have ezz : z' = z := str_ext (by rw [ez, ez'])
    subst ezz
    refine ⟨rfl, _, rfl, iteNS rfl ?_⟩
    refine ⟨_, rfl, z', ys, rfl, ok, ez, fun H5 o s5 no eo => ?_⟩
    have S5 : Same H H5 := (S3.trans s4).trans s5
    refine ⟨.ref o, rfl, .ref o, _, _, _, true, rfl, ClsV.ty "list", TyX.base (TyOf.lst eo), kit_ty (show kitB "list" "list" = some true from by decide +kernel), _, rfl, ?_⟩
    refine ⟨.ref o, rfl, o, rfl, ⟨_, SqL.of eo⟩, fun D nD => ?_⟩
    refine lc_list (K := K) (a := o) (xs := ys.map V.str) (fun i Hc => Same H5 Hc ∧ Hc D = some (.lst ((List.replicate i true).map V.bl))) ⟨same_upd nD, upd_same⟩ (fun i Hc _ ⟨sc, _⟩ => SqL.of (sc _ _ eo)) (fun i x Hc hx ⟨sc, eD⟩ => ?_) (fun Hc ⟨sc, eD⟩ => ?_)
    · have hi : i < 40 := by
        have h1 : i < (ys.map V.str).length := by
          rcases List.getElem?_eq_some_iff.mp hx with ⟨h, _⟩
          exact h
        rw [List.length_map] at h1
        have := ok.1
        omega
      rw [List.getElem?_map] at hx
      obtain ⟨y, ey, rfl⟩ := Option.map_eq_some_iff.mp hx
      refine ⟨rfl, .str y, rfl, .str y, _, _, _, true, rfl, ClsV.ty "str", TyX.base (TyOf.str _), kit_ty (by decide +kernel), _, eD, ?_, ?_, ?_⟩
      · rw [List.length_map, List.length_replicate]
        exact small1000 (by omega)
      · intro b o' e
        rw [upd_ne (ne_of_none e nD)]
        exact sc b o' e
      · rw [upd_same, List.replicate_succ', List.map_append]
        rfl
    have S6 : Same H Hc := S5.trans sc
    have eo6 := sc _ _ eo
    refine ⟨D, _, rfl, SqL.of eD, _, rfl, ?_⟩
    rw [show (List.replicate (ys.map V.str).length true).all id = true from by simp]
    refine ⟨.ref o, rfl, .ref l, rfl, _, _, .lst (SqL.of eo6) (dp_strs _), .lst (SqL.of (S6 _ _ el)) (dp_strs _), shaped_strs _ ok.ok, shaped_strs _ ok.ok, _, rfl, ?_⟩
    rw [eqv_strs, decide_eq_true rfl]
    refine ⟨.ref o, rfl, .inl ⟨rfl, _, SqL.of eo6⟩, o, _, _, rfl, rfl, eo6, by rw [List.length_map]; exact small1000 (by have := ok.1; omega), ?_⟩
    refine goU fun H8 u8 e8 => ?_
    have S8 : Same H H8 := fun a' o' e' => u8 _ _ (ne_of_none ((S3.trans s4) _ _ e') no) (S6 _ _ e')
    have h8 : H8 h1 = some (.lst (ys.map V.str)) := u8 _ _ (ne_of_none (s4 _ _ (s3 _ _ e2)) no) (sc _ _ (s5 _ _ (s4 _ _ (s3 _ _ e2))))
    refine ⟨_, rfl, z', ys, rfl, ok, ez, fun H9 o2 s9 no2 eo2 => ?_⟩
    refine ⟨.ref l, rfl, _, _, .lst (SqL.of eo2) (dp_strs _), .lst (SqL.of (s9 _ _ (S8 _ _ el))) (dp_strs _), shaped_strs _ ok.ok, shaped_strs _ ok.ok, _, rfl, ?_⟩
    rw [eqv_strs, decide_eq_true rfl]
    refine ⟨.ref h1, rfl, h1, ys, rfl, s9 _ _ h8, ok, fun H10 z2 s10 ez2 => ?_⟩
    have ez3 : z2 = z' := str_ext (by rw [ez, ez2])
    subst ez3
    refine ⟨_, rfl, rfl, ?_⟩
    rw [decide_eq_true rfl]
    exact q _ ((S8.trans s9).trans s10)
end
end WB

set_option Elab.async false
set_option linter.all false
set_option maxRecDepth 100000
set_option maxHeartbeats 4000000
namespace WB
open PySem PySem.Spec PyProof.Rows L2
open TL (tl)
abbrev st_law : Stmt := topS 19
theorem sc_law : FnScope ["_law_script", "_law_k", "_law_words", "_law_fixed"] ["_law_script"] (defScope st_law) := ⟨rfl, rfl, rfl, by decide +kernel, rfl, by decide +kernel, by decide +kernel⟩
section
variable {P : Program} {w : World} {K : PySem.W.Frag} {mg : Str → Option Value} {base : Heap}
theorem RowOk.rev {ys : List Str} (h : RowOk ys) : RowOk ys.reverse := ⟨by rw [List.length_reverse]; exact h.1, fun y hy => h.2 y (List.mem_reverse.mp hy)⟩
def fixedW : List (List Str) := [[], [Str.ofString ""], [Str.ofString "", Str.ofString ""], [Str.ofString "'"], [Str.ofString "''"], [Str.ofString " "], [Str.ofString "a", Str.ofString "", Str.ofString "b"], [Str.ofString "a'", Str.ofString "'a"]]
theorem fixedW_ok : ∀ ys ∈ fixedW, RowOk ys := by
  have h : ∀ ys ∈ fixedW, ys.length ≤ 40 ∧ ∀ y ∈ ys, y.length ≤ 60 ∧ ∀ c ∈ tl y, c < 256 := by decide +kernel
  exact fun ys hy => ⟨(h ys hy).1, fun y hm => ⟨((h ys hy).2 y hm).1, ((h ys hy).2 y hm).2⟩⟩
def spLaw (K : PySem.W.Frag) : Sp := fun vs H Q _ => ∃ (a : Addr) (ns : List Int), vs = [.ref a] ∧ SqL K H a (ns.map V.int) ∧ ns.length ≤ 63 ∧ ∀ H', Q (.bl true) H'
theorem ok_law {f fC fP fD fS fT fN fG fW fR fO : Addr} {fd fdC fdP fdD fdS fdT fdN fdG fdW fdR fdO : FuncData} {sR sO : Stmt} {k : Nat} (F : Fun K "law" "law" st_law f fd)
    (D_cell : Df K mg "_law_cell" sCell ["_law_script", "_law_k"] fC fdC) (D_pot : Df K mg "_law_pot" sPot ["_law_script", "_law_k"] fP fdP) (D_draw : Df K mg "_law_draw" sDraw ["_law_pot_here", "_law_many"] fD fdD)
    (D_signs : Df K mg "_law_signs" sSigns [] fS fdS) (D_text : Df K mg "_law_text" sText ["_law_pot_here", "_law_most", "_law_signs_here"] fT fdT) (D_row : Df K mg "_law_row" st_row ["_law_pot_here"] fN fdN)
    (D_right : Df K mg "_law_right" st_right ["_law_words"] fG fdG) (D_written : Df K mg "_law_written" st_written ["_law_words"] fW fdW)
    (D_row_text : Df K mg "row_text" sR ["words"] fR fdR) (G_row_text : FnOk P w K mg base CX0 (k + 2) fR fdR ["words"] spWritten) (D_words_of : Df K mg "words_of" sO ["text"] fO fdO) (G_words_of : FnOk P w K mg base CX0 (k + 2) fO fdO ["text"] spWordsOf)
    (m_len : mg "len" = none) (m_max : mg "max" = none) (m_min : mg "min" = none) (m_divmod : mg "divmod" = none) (m_range : mg "range" = none) (m_list : mg "list" = none) (m_isinstance : mg "isinstance" = none) (m_str : mg "str" = none) (m_all : mg "all" = none) (m_enumerate : mg "enumerate" = none) (m_int : mg "int" = none) :
    FnOk P w K mg base CX0 (k + 4) f fd ["_law_script"] (spLaw K) := by
  have G_pot : FnOk P w K mg base CX0 (k + 3) fP fdP ["_law_script", "_law_k"] (spPot K) := ok_pot D_pot.F D_cell m_len m_max
  have G_row : FnOk P w K mg base CX0 (k + 3) fN fdN ["_law_pot_here"] spRow := ok_row D_row.F D_draw D_signs D_text m_divmod m_len m_range
  have G_right : FnOk P w K mg base CX0 (k + 3) fG fdG ["_law_words"] spRight := ok_right D_right.F D_written D_row_text G_row_text D_words_of G_words_of m_list m_isinstance m_str m_all m_enumerate m_int
  refine F.ok sc_law (fun vs H Q E h => ?_) (fun cdv A outer s H vs Q E hr h => ?_)
  · obtain ⟨a, ns, rfl, _⟩ := h
    rfl
  · obtain ⟨a, ns, rfl, hS, hlen, q⟩ := h
    refine ⟨_, pss_cons (ps_for PassesOwn.never rfl (pi_range1 rfl m_range (pa_cons (pe_callB (call_max2 rfl) (by rfl) m_max (by decide +kernel) (pa_cons pe_int (pa_cons (pe_callB (call_min2 rfl) (by rfl) m_min (by decide +kernel) (pa_cons (pe_callB call_len_seq (by rfl) m_len PySem.boot_len (pa_cons (pv 0) pa_nil)) (pa_cons pe_int pa_nil))) pa_nil))) pa_nil)) (pg_name (i := 1) sc_law.nd rfl (Or.inl rfl)) (pss_cons (ps_set (i := 2) sc_law.nd rfl (.inl rfl) (pe_call G_row hr (by rfl) D_row.g D_row.F.kp D_row.b .nil pass0 (pa_cons (pe_call G_pot hr (by rfl) D_pot.g D_pot.F.kp D_pot.b .nil pass0 (pa_cons (pv 0) (pa_cons (pv 1) pa_nil))) pa_nil)))
      (pss_one (ps_if (PW.pt (pw_or (pt_not (pt_val (pe_call G_right hr (by rfl) D_right.g D_right.F.kp D_right.b .nil pass0 (pa_cons (pv 2) pa_nil)))) (pw_or1 (pt_not (pt_val (pe_call G_right hr (by rfl) D_right.g D_right.F.kp D_right.b .nil pass0 (pa_cons (pe_revL (pv 2)) pa_nil))))))) (pss_one (ps_ret pe_bl)) pss_nil))))
      (pss_cons (ps_set (i := 3) sc_law.nd rfl (.inl rfl) (pe_lst (pa_cons (pe_lst pa_nil) (pa_cons (pe_lst (pa_cons pe_str pa_nil)) (pa_cons (pe_lst (pa_cons pe_str (pa_cons pe_str pa_nil))) (pa_cons (pe_lst (pa_cons pe_str pa_nil)) (pa_cons (pe_lst (pa_cons pe_str pa_nil)) (pa_cons (pe_lst (pa_cons pe_str pa_nil)) (pa_cons (pe_lst (pa_cons pe_str (pa_cons pe_str (pa_cons pe_str pa_nil)))) (pa_cons (pe_lst (pa_cons pe_str (pa_cons pe_str pa_nil))) pa_nil))))))))))
      (pss_one (ps_ret (pe_callB (cr_all rfl) (by rfl) m_all (by decide +kernel) (pa_cons (pe_lc (own := [("_law_words", 2)]) (g := gName 2) (tt := tYes) rfl sc_law.nd (pi_list (pv 3)) (blkOk_by (N := ["_law_script", "_law_k", "_law_words", "_law_fixed"]) (sc := defScope st_law) (by decide +kernel)) (fun _ _ _ _ _ => (pg_name (i := 2) sc_law.nd rfl (Or.inl rfl))) (fun _ _ _ _ _ => pts_nil) (fun _ _ _ _ _ => (pe_call G_right hr (by rfl) D_right.g D_right.F.kp D_right.b .nil pass0 (pa_cons (pv 2) pa_nil)))) pa_nil))))), ?_⟩
    refine ⟨.ref a, rfl, a, _, rfl, .inl hS, _, 6, rfl, 1, _, rfl, _, rfl, ?_, ?_, for_range (lo := 0) (n := _) (fun i σ H' => Same H H' ∧ ∃ x1 x2 x3, σ = [some (.ref a), x1, x2, x3])
      ⟨Same.refl _, none, none, none, rfl⟩ ?_ ?_⟩
    · split <;> split <;> omega
    · split <;> split <;> omega
    · rintro i σ H0 hi ⟨sm, x1, x2, x3, rfl⟩
      refine ⟨.ref a, rfl, .int (0 + (i : Int)), rfl, a, ns, _, rfl, sm.seq hS, by omega, fun H1 p s1 np p1 => ?_⟩
      refine ⟨p, rfl, p1, fun H2 l ys b2 p2 nl nlp el ok => ?_⟩
      have S2 : Same H0 H2 := fun b o e => b2 b o (ne_of_none e np) (s1 b o e)
      refine ⟨.ref l, rfl, l, ys, rfl, el, ok, fun H3 s3 => ?_⟩
      refine ⟨_, rfl, ?_⟩
      refine ⟨.ref l, rfl, l, _, rfl, SqL.of (s3 _ _ el), fun r nr => ?_⟩
      first | refine go nr fun H4 s4 e4 => ?_ | refine goT nr fun H4 s4 e4 => ?_
      refine ⟨r, ys.reverse, rfl, by rw [List.map_reverse]; exact e4, ok.rev, fun H5 s5 => ?_⟩
      refine ⟨_, rfl, ?_⟩
      exact ⟨sm.trans (((S2.trans s3).trans s4).trans s5), _, _, _, rfl⟩
    · rintro σ H0 ⟨sm, x1, x2, x3, rfl⟩
      refine ⟨Nat.zero_le _, fun c1 k1 => ?_⟩
      first | refine go k1 fun H1 s1 e1 => ?_ | refine goT k1 fun H1 s1 e1 => ?_
      refine ⟨by show 1 ≤ sizeLine; decide, fun c2 k2 => ?_⟩
      first | refine go k2 fun H2 s2 e2 => ?_ | refine goT k2 fun H2 s2 e2 => ?_
      refine ⟨by show 2 ≤ sizeLine; decide, fun c3 k3 => ?_⟩
      first | refine go k3 fun H3 s3 e3 => ?_ | refine goT k3 fun H3 s3 e3 => ?_
      refine ⟨by show 1 ≤ sizeLine; decide, fun c4 k4 => ?_⟩
      first | refine go k4 fun H4 s4 e4 => ?_ | refine goT k4 fun H4 s4 e4 => ?_
      refine ⟨by show 1 ≤ sizeLine; decide, fun c5 k5 => ?_⟩
      first | refine go k5 fun H5 s5 e5 => ?_ | refine goT k5 fun H5 s5 e5 => ?_
      refine ⟨by show 1 ≤ sizeLine; decide, fun c6 k6 => ?_⟩
      first | refine go k6 fun H6 s6 e6 => ?_ | refine goT k6 fun H6 s6 e6 => ?_
      refine ⟨by show 3 ≤ sizeLine; decide, fun c7 k7 => ?_⟩
      first | refine go k7 fun H7 s7 e7 => ?_ | refine goT k7 fun H7 s7 e7 => ?_
      refine ⟨by show 2 ≤ sizeLine; decide, fun c8 k8 => ?_⟩
      first | refine go k8 fun H8 s8 e8 => ?_ | refine goT k8 fun H8 s8 e8 => ?_
      refine ⟨by show 8 ≤ sizeLine; decide, fun L nL => ?_⟩
      first | refine go nL fun HL sL eL => ?_ | refine goT nL fun HL sL eL => ?_
      have at_ : ∀ (i : Nat) (x : V), [V.ref c1, V.ref c2, V.ref c3, V.ref c4, V.ref c5, V.ref c6, V.ref c7, V.ref c8][i]? = some x → ∃ (c : Addr) (ys : List Str), x = .ref c ∧ HL c = some (.lst (ys.map V.str)) ∧ RowOk ys := by
        intro i x hx
        match i, hx with
        | 0, hx => exact ⟨c1, fixedW[0]'(by decide), (Option.some.inj hx).symm, sL _ _ (s8 _ _ (s7 _ _ (s6 _ _ (s5 _ _ (s4 _ _ (s3 _ _ (s2 _ _ e1))))))), fixedW_ok _ (List.getElem_mem _)⟩
        | 1, hx => exact ⟨c2, fixedW[1]'(by decide), (Option.some.inj hx).symm, sL _ _ (s8 _ _ (s7 _ _ (s6 _ _ (s5 _ _ (s4 _ _ (s3 _ _ e2)))))), fixedW_ok _ (List.getElem_mem _)⟩
        | 2, hx => exact ⟨c3, fixedW[2]'(by decide), (Option.some.inj hx).symm, sL _ _ (s8 _ _ (s7 _ _ (s6 _ _ (s5 _ _ (s4 _ _ e3))))), fixedW_ok _ (List.getElem_mem _)⟩
        | 3, hx => exact ⟨c4, fixedW[3]'(by decide), (Option.some.inj hx).symm, sL _ _ (s8 _ _ (s7 _ _ (s6 _ _ (s5 _ _ e4)))), fixedW_ok _ (List.getElem_mem _)⟩
        | 4, hx => exact ⟨c5, fixedW[4]'(by decide), (Option.some.inj hx).symm, sL _ _ (s8 _ _ (s7 _ _ (s6 _ _ e5))), fixedW_ok _ (List.getElem_mem _)⟩
        | 5, hx => exact ⟨c6, fixedW[5]'(by decide), (Option.some.inj hx).symm, sL _ _ (s8 _ _ (s7 _ _ e6)), fixedW_ok _ (List.getElem_mem _)⟩
        | 6, hx => exact ⟨c7, fixedW[6]'(by decide), (Option.some.inj hx).symm, sL _ _ (s8 _ _ e7), fixedW_ok _ (List.getElem_mem _)⟩
        | 7, hx => exact ⟨c8, fixedW[7]'(by decide), (Option.some.inj hx).symm, sL _ _ e8, fixedW_ok _ (List.getElem_mem _)⟩
        | i + 8, hx => cases hx
      refine ⟨.ref L, rfl, L, rfl, ⟨_, SqL.of eL⟩, fun D nD => ?_⟩
      refine lc_list (K := K) (a := L) (xs := [V.ref c1, V.ref c2, V.ref c3, V.ref c4, V.ref c5, V.ref c6, V.ref c7, V.ref c8]) (fun i Hc => Same HL Hc ∧ i ≤ 8 ∧ Hc D = some (.lst ((List.replicate i true).map V.bl))) ⟨same_upd nD, by decide, upd_same⟩ (fun i Hc _ ⟨sc, _⟩ => SqL.of (sc _ _ eL)) (fun i x Hc hx ⟨sc, i8, eD⟩ => ?_) (fun Hc ⟨sc, i8, eD⟩ => ?_)
      · have hi : i < 8 := by
          rcases List.getElem?_eq_some_iff.mp hx with ⟨h, _⟩
          exact h
        obtain ⟨c, ys, rfl, ec, okc⟩ := at_ i x hx
        refine ⟨rfl, .ref c, rfl, c, ys, rfl, sc _ _ ec, okc, fun H9 s9 => ?_⟩
        refine ⟨_, s9 _ _ eD, ?_, ?_, by omega, ?_⟩
        · rw [List.length_map, List.length_replicate]
          exact small1000 (by omega)
        · intro b o' e
          rw [upd_ne (ne_of_none e nD)]
          exact s9 _ _ (sc b o' e)
        · rw [upd_same, List.replicate_succ', List.map_append]
          rfl
      · refine ⟨D, _, rfl, SqL.of eD, ?_⟩
        rw [show (List.replicate [V.ref c1, V.ref c2, V.ref c3, V.ref c4, V.ref c5, V.ref c6, V.ref c7, V.ref c8].length true).all id = true from rfl]
        exact q _
end
end WB

set_option Elab.async false
set_option linter.all false
set_option maxRecDepth 100000
set_option maxHeartbeats 4000000
namespace WB
open PySem PySem.Spec PyProof.Rows L2 CwR
open TL (tl)
/-! ### a def of which a token is out when its body begins -/
section
variable {X : Cx}
theorem nox_tok {ss : List Stmt} {t : TS} (b : PSsT X.nox ss t) : PSsT X ss t := fun ps st0 sl hp ends tok inv want =>
  wpAny_mono (b ps st0 sl hp ends tok (inv.wish _) want) (fun _ _ got => got.unwish) fun _ _ no => no.elim
theorem set_tok {i : Nat} {nm : Str} {ex : Expr} {te : TE} {p1 p2 : Pos} (nodup : X.N.Nodup) (at_ : X.N[i]? = some nm) (loc : Loc X.env.scope nm) (val : PET X ex te) (hs : swapsWith ex (some (.Name nm p1)) p2.line X.env = pure false := by rfl)
    (hf : X.fn nm = true ∨ X.env.scope.names.lookup nm = some .local := by first | exact .inl rfl | exact .inr rfl | assumption) : PST X (.Assign [.Name nm p1] ex p2) (tAsg te (gName i)) := fun ps st0 sl hp _ tok inv want =>
  wpAny_Assign_Name (thn (val ps st0 sl hp _ tok inv want) fun _ _ ⟨_, hp1, inv1, rel, go⟩ => store_ok inv1 nodup at_ loc rel (fun _ inv2 => ⟨_, hp1, inv2, go⟩) hf) hs
end
section
variable {P : Program} {w : World} {K : PySem.W.Frag} {mg : Str → Option Value} {base : Heap}
theorem ok_tok {nm qual : Str} {st : Stmt} {f : Addr} {fd : FuncData} {N ps : List Str} {k : Nat} {sp : Sp} (F : Fun K nm qual st f fd) (S : FnScope N ps (defScope st)) (nocell : ∀ y ∈ (defScope st).names, y.2 ≠ .cell) (some1 : 1 ≤ ps.length)
    (len : ∀ vs H Q E, sp vs H Q E → vs.length = ps.length)
    (body : ∀ (cdv : Value) (A : Around) (outer : List Env) (s : Shared) (H : Hp) (vs : List V) (Q : VK) (E : XK), Room k (A.deeper (envOfC qual (defScope st) s.heap.objs.size f cdv)) → sp vs H Q E →
      ∃ t, PSsT (cxOf CX0 P w K mg base N qual (defScope st) f cdv A outer s H E).nox (defBody st) t ∧ t { nx := fun _ H' => Q .non H', rt := Q } (start N vs) H) : FnOk P w K mg base CX0 (k + 1) f fd ps sp := by
  obtain ⟨a1, a2, a3, a4, a5, a6, cdv, a8, a9, rfl, look, code⟩ := F.ex
  exact fn_ofT look code S nocell some1 len fun A outer s H vs Q E room ask => let ⟨t, b, q⟩ := body cdv A outer s H vs Q E room ask; ⟨t, nox_tok b, q⟩
end
/-! ### enumerate of a text -/
/-- the signs of a text, each with its number in a new pair -/
def ItES (z : Str) : It :=
  ⟨fun i _ => i < z.cps.size, fun i H v H' => ∃ T c, v = .ref T ∧ H T = none ∧ H' = upd H T (.tup [.int (i : Nat), .str ⟨#[c]⟩]) ∧ z.cps[i]? = some c, fun i _ => i = z.cps.size⟩
theorem draws_str {P : Program} {w : World} {A : Around} (hh : A.handled = none) (it : Addr) (z : Str) (t : Tok) : Draws P w A it [it] z.cps.size (fun i v => ∃ c u, z.cps[i]? = some c ∧ v = .str ⟨#[c]⟩ u) (fun i h => h.IsStrIter it (strIterType z) z t i) := by
  unfold strIterType
  cases z.cps.all (· < 128) with
  | true => exact Draws.strAscii hh it z t
  | false => exact Draws.strWide hh it z t
theorem turn_ES {P : Program} {w : World} {K : PySem.W.Frag} {elts : List Expr} {kk : Nat} {tpos : Pos} (z : Str) (t : Tok) (e it : Addr) :
    Turn P w K (.Tuple elts kk tpos) (ItES z) [e, it] e (fun i h => (∃ old, IsEnum h e it ((i : Nat) : Int) old) ∧ h.IsStrIter it (strIterType z) z t i ∧ e ≠ it) where
  mem := List.mem_cons_self
  obj := by
    rintro i h ⟨⟨old, en⟩, ⟨ob, look, cl, dat⟩, ne⟩ b hb
    rcases List.mem_cons.mp hb with r | r
    · subst r
      exact ⟨_, en, fun v q => by cases q⟩
    · rw [List.mem_singleton.mp r]
      exact ⟨ob, look, fun v q => by rw [dat] at q; cases q⟩
  keep := by
    rintro i h h' ⟨⟨old, en⟩, ⟨ob, look, rest⟩, ne⟩ k
    exact ⟨⟨old, k e List.mem_cons_self _ en⟩, ⟨ob, k it (List.mem_cons_of_mem _ List.mem_cons_self) _ look, rest⟩, ne⟩
  item := by
    intro X hP hw hK hc i pins s σ H E I hf st hg
    subst hP hw hK
    obtain ⟨⟨old, en⟩, si, ne⟩ := st
    have le : e < s.heap.objs.size := Heap.lt_size en
    have li : it < s.heap.objs.size := by
      obtain ⟨_, look, _⟩ := si
      exact Heap.lt_size look
    have D := draws_str (P := X.prog) (w := X.w) (A := X.A.in1) (I.ok.hd hc) it z t
    refine wpAny_pyNext_enum_itemD D en si hg ne (by intro m; rw [List.mem_singleton] at m; exact ne m) fun x h' tk px out si' tup size kept => ?_
    obtain ⟨c, u, hcx, rfl⟩ := px
    refine ⟨_, rfl, wpAny_letOwnedTupleGo_enum (s := { s with heap := h', toks := tk + 1 }) out fun h2 en2 sb => ?_⟩
    have tup2 : h2.get? s.heap.objs.size = some { cls := .type "tuple", data := .seq #[.int i tk, .str ⟨#[c]⟩ u] } := (sb.2 _ (Nat.ne_of_gt le)).trans tup
    have ob : ObjOk X.prog X.w (upd H s.heap.objs.size (.tup [.int (i : Nat), .str ⟨#[c]⟩])) h2 s.heap.objs.size (.tup [.int (i : Nat), .str ⟨#[c]⟩]) :=
      ⟨(by decide : 2 ≤ sizeLine), [.int i tk, .str ⟨#[c]⟩ u], .cons ⟨_, rfl⟩ (.cons ⟨_, rfl⟩ .nil), ⟨_, tup2, rfl, _, rfl⟩⟩
    have I1 : Inv X pins σ (upd H s.heap.objs.size (.tup [.int (i : Nat), .str ⟨#[c]⟩])) { s with heap := h2, toks := tk + 1 } :=
      I.turnedNew (ch := [e, it]) (fun b o' hb q => (sb.2 b (fun r => hb (by rw [r]; exact List.mem_cons_self))).trans (kept b o' (fun r => hb (by rw [r]; exact List.mem_cons_self)) (fun r => hb (by rw [r]; exact List.mem_cons_of_mem _ List.mem_cons_self)) q)) hf (Nat.le_refl _) ob
    have e1 : ((i + 1 : Nat) : Int) = (i : Int) + 1 := by omega
    obtain ⟨oi, look, rest⟩ := si'
    refine ⟨.ref s.heap.objs.size, _, I1, rfl, ⟨_, c, rfl, I.hok.fresh (Nat.le_refl _), rfl, hcx⟩, ⟨⟨.str ⟨#[c]⟩ u, by rw [e1]; exact en2⟩, ⟨oi, (sb.2 it ne.symm).trans look, rest⟩, ne⟩, fun b hb => ?_⟩
    have lb : b < s.heap.objs.size := by
      rcases List.mem_cons.mp hb with r | r
      · rw [r]
        exact le
      · rw [List.mem_singleton.mp r]
        exact li
    rw [upd_ne (Nat.ne_of_lt lb)]
    exact (hf b hb).1
  done := by
    intro X hP hw hK hc i pins s σ H E I hf st hg
    subst hP hw hK
    obtain ⟨⟨old, en⟩, si, ne⟩ := st
    have hi : i = z.cps.size := hg
    subst hi
    obtain ⟨f0, f1, f2, f3, f4, f5⟩ := hf it (List.mem_cons_of_mem _ List.mem_cons_self)
    exact wpAny_pyNext_enum_endD (draws_str (P := X.prog) (w := X.w) (A := X.A.in1) (I.ok.hd hc) it z t) en si fun h' eb => ⟨rfl, I.turned (t' := s.toks) (fun b o hb q => eb b o hb q) f0 f1 f3 f4 f5⟩
  self := fun A i s Q E st h => let ⟨⟨_, en⟩, _⟩ := st; wpAny_pyIter_enum en h
def iES (ta : TA) : TI := fun σ H R => ta σ H fun vs H1 => ∃ z : Str, vs = [.str z] ∧ R (ItES z) H1
theorem pi_ES {X : Cx} {e : Expr} {ta : TA} {p pos tpos : Pos} {elts : List Expr} {kk : Nat} (glob : Gl X "enumerate") (free : X.mg "enumerate" = none) (arg : PA X [e] ta) (hs : starEach [e] X.env = [(false, eval e X.env)] := by rfl) :
    PI X (.Tuple elts kk tpos) (.Call (.Name "enumerate" p) [e] [] pos) (iES ta) := by
  refine ⟨fun pins s σ H R I ask => ?_⟩
  refine Call_ (ld_blt I glob free boot_enumerate (PyProof.Rows.callWith_type1 (thn (arg.run pos pins s σ H _ I ask) fun us s1 ⟨vs, H1, I1, r1, q1⟩ => ?_) hs rfl))
  obtain ⟨z, rfl, q⟩ := q1
  cases r1 with
  | cons r rr =>
    cases rr
    obtain ⟨t, rfl⟩ := r
    refine call_enumerate_str fun h' en si size kept => wpAny_pyIter_enum en ?_
    have I2 : Inv X pins σ H1 { s1 with heap := h' } := I1.kept (t' := s1.toks) kept
    refine ⟨s1.heap.objs.size + 1, [s1.heap.objs.size + 1, s1.heap.objs.size], _, _, H1, rfl, I2, turn_ES z t (s1.heap.objs.size + 1) s1.heap.objs.size, ⟨⟨.none, en⟩, si, Nat.succ_ne_self _⟩, fun b hb => ?_, q⟩
    have hle : s1.heap.objs.size ≤ b := by
      rcases List.mem_cons.mp hb with r | r
      · rw [r]
        exact Nat.le_succ _
      · rw [List.mem_singleton.mp r]
        exact Nat.le_refl _
    exact I1.fpOk hle (I1.hok.fresh hle)
theorem walk_ES {z : Str} : Walk (ItES z) z.cps.size (fun _ => True) (YPair (fun i => some (.int (i : Nat))) (fun i => (tl z)[i]?.map fun c => V.str ⟨#[c]⟩)) := by
  refine ⟨fun _ _ hi _ => hi, fun _ _ => rfl, fun i H v H' _ _ y => ?_⟩
  obtain ⟨T, c, h1, h2, h3, h4⟩ := y
  refine ⟨T, .int (i : Nat), .str ⟨#[c]⟩, h1, h2, h3, rfl, ?_⟩
  have e : (tl z)[i]? = some c := by
    rw [← h4]
    exact Array.getElem?_toList
  show ((tl z)[i]?.map fun c => V.str ⟨#[c]⟩) = _
  rw [e]
  rfl
end WB

set_option Elab.async false
set_option linter.all false
set_option maxRecDepth 100000
set_option maxHeartbeats 4000000
namespace WB
open PySem PySem.Spec PyProof.Rows L2
open TL (tl)
/-! ### the mathematics: a row's text cut between its words -/
def cutW : List Nat → Bool → List Nat → List (List Nat)
  | [], _, cur => [cur]
  | c :: r, q, cur => if c = 39 then cutW r (!q) (cur ++ [c]) else if c = 32 ∧ q = false then cur :: cutW r q [] else cutW r q (cur ++ [c])
theorem cutW_plain : ∀ (cs rest : List Nat) (cur : List Nat), 32 ∉ cs → 39 ∉ cs → cutW (cs ++ rest) false cur = cutW rest false (cur ++ cs)
  | [], rest, cur, _, _ => by rw [List.nil_append, List.append_nil]
  | c :: r, rest, cur, h1, h2 => by
    have c1 : c ≠ 32 := fun e => h1 (by rw [e]; exact List.mem_cons_self)
    have c2 : c ≠ 39 := fun e => h2 (by rw [e]; exact List.mem_cons_self)
    rw [List.cons_append]
    show (if c = 39 then _ else if c = 32 ∧ false = false then _ else cutW (r ++ rest) false (cur ++ [c])) = _
    rw [if_neg c2, if_neg (fun h => c1 h.1), cutW_plain r rest _ (fun h => h1 (List.mem_cons_of_mem _ h)) (fun h => h2 (List.mem_cons_of_mem _ h)), List.append_assoc]
    rfl
theorem cutW_dbl : ∀ (cs rest : List Nat) (cur : List Nat), cutW (dblq cs ++ rest) true cur = cutW rest true (cur ++ dblq cs)
  | [], rest, cur => by
    show cutW ([] ++ rest) true cur = cutW rest true (cur ++ [])
    rw [List.nil_append, List.append_nil]
  | c :: r, rest, cur => by
    have e : dblq (c :: r) = (if c = 39 then [39, 39] else [c]) ++ dblq r := rfl
    rw [e]
    by_cases h : c = 39
    · rw [if_pos h, List.append_assoc]
      show cutW (39 :: 39 :: (dblq r ++ rest)) true cur = _
      have s1 : cutW (39 :: 39 :: (dblq r ++ rest)) true cur = cutW (dblq r ++ rest) true (cur ++ [39] ++ [39]) := rfl
      rw [s1, cutW_dbl r rest]
      simp [List.append_assoc]
    · rw [if_neg h, List.append_assoc]
      show (if c = 39 then _ else if c = 32 ∧ true = false then _ else cutW (dblq r ++ rest) true (cur ++ [c])) = _
      rw [if_neg h, if_neg (fun h => Bool.noConfusion h.2), cutW_dbl r rest]
      simp [List.append_assoc]
theorem needq_false {cs : List Nat} (h : needq cs = false) : cs ≠ [] ∧ 32 ∉ cs ∧ 39 ∉ cs := by
  unfold needq at h
  obtain ⟨h1, h2⟩ := Bool.or_eq_false_iff.mp h
  obtain ⟨h2, h3⟩ := Bool.or_eq_false_iff.mp h2
  exact ⟨of_decide_eq_false h1, of_decide_eq_false h2, of_decide_eq_false h3⟩
theorem cutW_wq (w rest cur : List Nat) : cutW (wq w ++ rest) false cur = cutW rest false (cur ++ wq w) := by
  unfold wq
  cases h : needq w with
  | false =>
    obtain ⟨_, h1, h2⟩ := needq_false h
    exact cutW_plain w rest cur h1 h2
  | true =>
    show cutW (39 :: (dblq w ++ [39] ++ rest)) false cur = _
    have s1 : cutW (39 :: (dblq w ++ [39] ++ rest)) false cur = cutW (dblq w ++ [39] ++ rest) true (cur ++ [39]) := rfl
    rw [s1, List.append_assoc, cutW_dbl w]
    have s2 : cutW ([39] ++ rest) true (cur ++ [39] ++ dblq w) = cutW rest false (cur ++ [39] ++ dblq w ++ [39]) := rfl
    rw [s2]
    simp [List.append_assoc]
theorem cutW_row : ∀ (w : List Nat) (ws : List (List Nat)), cutW (rowL (w :: ws)) false [] = (w :: ws).map wq
  | w, [] => by
    have e : rowL [w] = wq w ++ [] := by
      rw [List.append_nil]
      rfl
    rw [e, cutW_wq, List.nil_append]
    rfl
  | w, w2 :: r => by
    have e : rowL (w :: w2 :: r) = wq w ++ (32 :: rowL (w2 :: r)) := rfl
    rw [e, cutW_wq, List.nil_append]
    show wq w :: cutW (rowL (w2 :: r)) false [] = _
    rw [cutW_row w2 r]
    rfl
theorem wq_ne (w : List Nat) : wq w ≠ [] := by
  unfold wq
  cases h : needq w with
  | false => exact (needq_false h).1
  | true => exact fun c => nomatch c
theorem rowL_ne (w : List Nat) (ws : List (List Nat)) : rowL (w :: ws) ≠ [] := by
  cases ws with
  | nil => exact wq_ne w
  | cons a r =>
    intro h
    have e : rowL (w :: a :: r) = wq w ++ (32 :: rowL (a :: r)) := rfl
    rw [e] at h
    exact wq_ne w (List.append_eq_nil_iff.mp h).1
theorem rowL_len : ∀ ws : List (List Nat), (∀ w ∈ ws, w.length ≤ 60) → (rowL ws).length ≤ ws.length * 123
  | [], _ => Nat.zero_le _
  | [w], h => by
    have := wq_len (h w List.mem_cons_self)
    show (wq w).length ≤ 1 * 123
    omega
  | w :: a :: r, h => by
    have h1 := wq_len (h w List.mem_cons_self)
    have h2 := rowL_len (a :: r) fun x hx => h x (List.mem_cons_of_mem _ hx)
    have e : rowL (w :: a :: r) = wq w ++ (32 :: rowL (a :: r)) := rfl
    rw [e, List.length_append, List.length_cons, List.length_cons]
    omega
theorem dbl_back : ∀ cs : List Nat, StrLaws.replL [39, 39] [39] (dblq cs) = cs
  | [] => StrLaws.replL_nil
  | c :: r => by
    have e : dblq (c :: r) = (if c = 39 then [39, 39] else [c]) ++ dblq r := rfl
    rw [e]
    by_cases h : c = 39
    · rw [if_pos h]
      show StrLaws.replL [39, 39] [39] (39 :: (39 :: dblq r)) = _
      rw [StrLaws.replL_hit (by decide) rfl]
      show 39 :: StrLaws.replL [39, 39] [39] (dblq r) = _
      rw [dbl_back r, h]
    · rw [if_neg h]
      show StrLaws.replL [39, 39] [39] (c :: dblq r) = _
      have hm : ¬ (c :: dblq r).take [39, 39].length = [39, 39] := fun k => by
        have k' : c :: (dblq r).take 1 = [39, 39] := k
        exact h (List.cons.inj k').1
      rw [StrLaws.replL_miss hm, dbl_back r]
theorem dbl_is : ∀ cs : List Nat, StrLaws.replL [39] [39, 39] cs = dblq cs
  | [] => StrLaws.replL_nil
  | c :: r => by
    have e : dblq (c :: r) = (if c = 39 then [39, 39] else [c]) ++ dblq r := rfl
    rw [e]
    by_cases h : c = 39
    · rw [if_pos h, h, StrLaws.replL_hit (by decide) rfl]
      show [39, 39] ++ StrLaws.replL [39] [39, 39] r = _
      rw [dbl_is r]
    · have hm : ¬ (c :: r).take [39].length = [39] := fun k => by
        have k' : c :: r.take 0 = [39] := k
        exact h (List.cons.inj k').1
      rw [if_neg h, StrLaws.replL_miss hm, dbl_is r]
      rfl
/-- a text from b on up to k, b ≤ k -/
theorem tl_cut_mid (x : Str) {b k : Nat} (hb : b ≤ k) (hk : k ≤ x.length) : tl (cutS x (some (b : Int)) (some (k : Int))) = ((tl x).take k).drop b := by
  show ((((tl x).drop (HT.sIx x.length 0 (some (b : Int)))).take (HT.sIx x.length x.length (some (k : Int)) - HT.sIx x.length 0 (some (b : Int)))).toArray).toList = _
  rw [HT.sIx_nat, HT.sIx_nat]
  show ((tl x).drop (min b x.length)).take (min k x.length - min b x.length) = _
  rw [Nat.min_eq_left (show b ≤ x.length by omega), Nat.min_eq_left hk, List.drop_take]
/-- a text without its first and its last sign -/
theorem tl_cut_in (x : Str) (cs : List Nat) (h : tl x = 39 :: (cs ++ [39])) : tl (cutS x (some 1) (some (-1))) = cs := by
  have hl : x.length = cs.length + 2 := by
    rw [TL.len_tl, h, List.length_cons, List.length_append]
    rfl
  show ((((tl x).drop (HT.sIx x.length 0 (some 1))).take (HT.sIx x.length x.length (some (-1)) - HT.sIx x.length 0 (some 1))).toArray).toList = _
  have e1 : HT.sIx x.length 0 (some 1) = 1 := by
    have := HT.sIx_nat x.length 0 1
    rw [show ((1 : Nat) : Int) = (1 : Int) from rfl] at this
    rw [this]
    show min 1 x.length = 1
    omega
  have e2 : HT.sIx x.length x.length (some (-1)) = cs.length + 1 := by
    rw [hl]
    simp [HT.sIx]
    omega
  rw [e1, e2, h]
  show (cs ++ [39]).take (cs.length + 1 - 1) = _
  rw [Nat.add_sub_cancel, List.take_left]
end WB

set_option Elab.async false
set_option linter.all false
set_option maxRecDepth 100000
set_option maxHeartbeats 4000000
namespace WB
open PySem PySem.Spec PyProof.Rows L2 CwR
open TL (tl)
abbrev st_needs_quotes : Stmt := topS 4
theorem sc_needs_quotes : FnScope ["word"] ["word"] (defScope st_needs_quotes) := ⟨rfl, rfl, rfl, by decide +kernel, rfl, by decide +kernel, by decide +kernel⟩
abbrev st_word_text : Stmt := topS 5
theorem sc_word_text : FnScope ["word", "doubled"] ["word"] (defScope st_word_text) := ⟨rfl, rfl, rfl, by decide +kernel, rfl, by decide +kernel, by decide +kernel⟩
abbrev st_row_text : Stmt := topS 6
theorem sc_row_text : FnScope ["words", "word"] ["words"] (defScope st_row_text) := ⟨rfl, rfl, rfl, by decide +kernel, rfl, by decide +kernel, by decide +kernel⟩
section
variable {P : Program} {w : World} {K : PySem.W.Frag} {mg : Str → Option Value} {base : Heap}
def spNeeds : Sp := fun vs H Q _ => ∃ z : Str, vs = [.str z] ∧ Q (.bl (needq (tl z))) H
theorem ok_needs {f : Addr} {fd : FuncData} {k : Nat} (F : Fun K "needs_quotes" "needs_quotes" st_needs_quotes f fd) : FnOk P w K mg base CX0 (k + 1) f fd ["word"] spNeeds := by
  refine F.ok sc_needs_quotes (fun vs H Q E h => ?_) (fun cdv A outer s H vs Q E hr h => ?_)
  · obtain ⟨z, rfl, _⟩ := h
    rfl
  · obtain ⟨z, rfl, q⟩ := h
    refine ⟨_, pss_one (ps_ret (pe_or (pe_cmpR op_eq (pv 0) pe_str (nomark _)) (pe_or (pe_cmpR op_in_sign pe_str (pv 0) (by rfl)) (pe_one (pe_cmpR op_in_sign pe_str (pv 0) (by rfl)))))), ?_⟩
    have te : tl (Str.ofString "") = [] := by decide +kernel
    unfold needq at q
    refine ⟨_, rfl, rfl, _, rfl, ite2 (fun e => ?_) (fun e => ?_)⟩
    · have e' : z = Str.ofString "" := V.str.inj (of_decide_eq_true e)
      rw [e', te] at q
      exact q
    · have e' : tl z ≠ [] := fun h => e (decide_eq_true (congrArg V.str (str_ext (by rw [h, te]))))
      rw [decide_eq_false e', Bool.false_or] at q
      refine ⟨_, rfl, 32, z, congrArg V.str (by decide +kernel), rfl, _, rfl, ite2 (fun e => ?_) (fun e => ?_)⟩
      · have e2 : 32 ∈ tl z := of_decide_eq_true e
        rw [decide_eq_true e2] at q
        exact q
      · have e2 : 32 ∉ tl z := fun h => e (decide_eq_true h)
        rw [decide_eq_false e2, Bool.false_or] at q
        exact ⟨_, rfl, 39, z, congrArg V.str (by decide +kernel), rfl, q⟩
def spWordText : Sp := fun vs H Q _ => ∃ z : Str, vs = [.str z] ∧ z.length ≤ 60 ∧ ∀ y : Str, tl y = wq (tl z) → Q (.str y) H
theorem ok_word_text {f fN : Addr} {fd fdN : FuncData} {k : Nat} (F : Fun K "word_text" "word_text" st_word_text f fd) (D_needs_quotes : Df K mg "needs_quotes" st_needs_quotes ["word"] fN fdN) : FnOk P w K mg base CX0 (k + 2) f fd ["word"] spWordText := by
  have G_needs_quotes : FnOk P w K mg base CX0 (k + 1) fN fdN ["word"] spNeeds := ok_needs D_needs_quotes.F
  refine ok_tok F sc_word_text (by decide +kernel) (by decide) (fun vs H Q E h => ?_) (fun cdv A outer s H vs Q E hr h => ?_)
  · obtain ⟨z, rfl, _⟩ := h
    rfl
  · obtain ⟨z, rfl, hz, q⟩ := h
    refine ⟨_, psst_cons (pst_if (pt_not (pt_val (pe_call G_needs_quotes hr (by rfl) D_needs_quotes.g D_needs_quotes.F.kp D_needs_quotes.b .nil pass0 (pa_cons (pv 0) pa_nil)))) (PSsT.of (pss_one (ps_ret (pv 0)))) (PSsT.of pss_nil))
      (psst_cons (set_tok (i := 1) sc_word_text.nd rfl (.inl rfl) (pet_replC (pv 0) (by decide +kernel)))
      (PSsT.of (pss_one (ps_ret (pe_joined (.cons pe_str (.cons (pe_fmt (pv 1)) (.cons pe_str .nil)))))))), ?_⟩
    have tq : tl (Str.ofString "'") = [39] := by decide +kernel
    have lq : (Str.ofString "'").length = 1 := by decide +kernel
    have tqq : tl (Str.ofString "''") = [39, 39] := by decide +kernel
    have lqq : (Str.ofString "''").length = 2 := by decide +kernel
    have ez := TL.len_tl z
    refine ⟨_, rfl, z, rfl, _, rfl, ?_⟩
    cases hn : needq (tl z) with
    | false =>
      refine ⟨_, rfl, q z ?_⟩
      unfold wq
      rw [hn]
      rfl
    | true =>
      have er : tl (Txt.replace z (Str.ofString "'") (Str.ofString "''")) = dblq (tl z) := by
        have h := StrLaws.replace_list (x := z) (y := Str.ofString "'") (z := Str.ofString "''") (by rw [lq]; exact Nat.le_refl 1)
        rw [show (Str.ofString "'").cps.toList = [39] from tq, show (Str.ofString "''").cps.toList = [39, 39] from tqq] at h
        exact h.trans (dbl_is (tl z))
      have hl := dblq_len (tl z)
      have lr : (Txt.replace z (Str.ofString "'") (Str.ofString "''")).length ≤ 120 := by
        rw [TL.len_tl, er]
        omega
      refine ⟨_, rfl, z, rfl, ?_, ?_⟩
      · rw [lqq]
        omega
      generalize Txt.replace z (Str.ofString "'") (Str.ofString "''") = dd at er lr
      have le : (Str.empty ++ Str.ofString "'").length = 1 := by decide +kernel
      refine ⟨_, rfl, ?_, _, rfl, .inl ⟨dd, rfl, ?_, dd, rfl, ?_, _, rfl, ?_, q _ ?_⟩⟩
      · rw [le]
        decide
      · exact Nat.le_of_lt (small1000 (by omega))
      · rw [Str.length_append, le]
        exact Nat.le_of_lt (small1000 (by omega))
      · rw [Str.length_append, Str.length_append, le, lq]
        exact Nat.le_of_lt (small1000 (by omega))
      · rw [TL.tl_append, TL.tl_append, TL.tl_append, er, tq]
        unfold wq
        rw [hn]
        rfl
theorem ok_row_text {f fN fW : Addr} {fd fdN fdW : FuncData} {k : Nat} (F : Fun K "row_text" "row_text" st_row_text f fd) (D_needs_quotes : Df K mg "needs_quotes" st_needs_quotes ["word"] fN fdN) (D_word_text : Df K mg "word_text" st_word_text ["word"] fW fdW) : FnOk P w K mg base CX0 (k + 3) f fd ["words"] spWritten := by
  have G_word_text : FnOk P w K mg base CX0 (k + 2) fW fdW ["word"] spWordText := ok_word_text D_word_text.F D_needs_quotes
  refine F.ok sc_row_text (fun vs H Q E h => ?_) (fun cdv A outer s H vs Q E hr h => ?_)
  · obtain ⟨l, ys, rfl, _⟩ := h
    rfl
  · obtain ⟨l, ys, rfl, el, ok, q⟩ := h
    refine ⟨_, pss_one (ps_ret (pe_join pe_str (pe_lc (own := [("word", 1)]) (g := gName 1) (tt := tYes) rfl sc_row_text.nd (pi_list (pv 0)) (blkOk_by (N := ["words", "word"]) (sc := defScope st_row_text) (by decide +kernel)) (fun _ _ _ _ _ => (pg_name (i := 1) sc_row_text.nd rfl (Or.inl rfl))) (fun _ _ _ _ _ => pts_nil) (fun _ _ _ _ _ => (pe_call G_word_text hr (by rfl) D_word_text.g D_word_text.F.kp D_word_text.b .nil pass0 (pa_cons (pv 1) pa_nil)))))), ?_⟩
    have tb : tl (Str.ofString " ") = [32] := by decide +kernel
    have lb : (Str.ofString " ").length = 1 := by decide +kernel
    refine ⟨⟨_, rfl⟩, .ref l, rfl, l, rfl, ⟨_, SqL.of el⟩, fun D nD => ?_⟩
    refine lc_list (K := K) (a := l) (xs := ys.map V.str) (fun i Hc => Same H Hc ∧ ∃ us : List Str, Hc D = some (.lst (us.map V.str)) ∧ us.map tl = ((ys.take i).map tl).map wq) ⟨same_upd nD, [], upd_same, rfl⟩ (fun i Hc _ ⟨sc, _⟩ => SqL.of (sc _ _ el)) (fun i x Hc hx ⟨sc, us, eD, eu⟩ => ?_) (fun Hc ⟨sc, us, eD, eu⟩ => ?_)
    · rw [List.getElem?_map] at hx
      obtain ⟨z, ez, rfl⟩ := Option.map_eq_some_iff.mp hx
      have hz := (ok.2 z (List.mem_of_getElem? ez)).le
      have etk : ys.take (i + 1) = ys.take i ++ [z] := by
        rw [List.take_add_one, ez]
        rfl
      have elu : us.length ≤ 40 := by
        have h := congrArg List.length eu
        rw [List.length_map, List.length_map, List.length_map, List.length_take] at h
        have := ok.1
        omega
      refine ⟨rfl, .str z, rfl, z, rfl, hz, fun y hy => ⟨_, eD, ?_, ?_, us ++ [y], ?_, ?_⟩⟩
      · rw [List.length_map]
        exact small1000 (by omega)
      · intro b o e
        rw [upd_ne (ne_of_none e nD)]
        exact sc b o e
      · rw [upd_same, List.map_append]
        rfl
      · rw [etk, List.map_append, List.map_append, List.map_append, eu, List.map_cons, List.map_nil, hy]
        rfl
    · rw [List.length_map, List.take_length] at eu
      have elu : us.length = ys.length := by
        have h := congrArg List.length eu
        rw [List.length_map, List.length_map, List.length_map] at h
        exact h
      have hu : ∀ u ∈ us, Tq (fun _ => True) 122 u := by
        intro u hu
        have h1 : tl u ∈ us.map tl := List.mem_map_of_mem hu
        rw [eu] at h1
        obtain ⟨cs, hcs, e⟩ := List.mem_map.mp h1
        obtain ⟨y, hy, rfl⟩ := List.mem_map.mp hcs
        refine ⟨?_, fun _ _ => True.intro⟩
        rw [TL.len_tl, ← e]
        refine wq_len ?_
        rw [← TL.len_tl]
        exact (ok.2 y hy).le
      have es := sum_most 122 us hu
      refine ⟨_, D, us, rfl, rfl, .inl (SqL.of eD), ?_, q _ _ sc ?_⟩
      · rw [lb]
        have := ok.1
        omega
      · rw [TL.join_eq, TL.tl_join, tb, eu]
        rfl
end
end WB

set_option Elab.async false
set_option linter.all false
set_option maxRecDepth 100000
set_option maxHeartbeats 4000000
namespace WB
open PySem PySem.Spec PyProof.Rows L2 CwR
open TL (tl)
abbrev st_cut_between_words : Stmt := topS 7
theorem sc_cut_between_words : FnScope ["text", "parts", "begin", "quoted", "at", "sign"] ["text"] (defScope st_cut_between_words) := ⟨rfl, rfl, rfl, by decide +kernel, rfl, by decide +kernel, by decide +kernel⟩
abbrev st_word_of : Stmt := topS 8
theorem sc_word_of : FnScope ["part"] ["part"] (defScope st_word_of) := ⟨rfl, rfl, rfl, by decide +kernel, rfl, by decide +kernel, by decide +kernel⟩
abbrev st_words_of : Stmt := topS 9
theorem sc_words_of : FnScope ["text", "words", "part"] ["text"] (defScope st_words_of) := ⟨rfl, rfl, rfl, by decide +kernel, rfl, by decide +kernel, by decide +kernel⟩
section
variable {P : Program} {w : World} {K : PySem.W.Frag} {mg : Str → Option Value} {base : Heap}
def spCut : Sp := fun vs H Q _ => ∃ z : Str, vs = [.str z] ∧ z.length ≤ 5000 ∧ ∀ H' o (ps : List Str), Same H H' → H o = none → H' o = some (.lst (ps.map V.str)) → ps.map tl = cutW (tl z) false [] → Q (.ref o) H'
theorem ok_cut {f : Addr} {fd : FuncData} {k : Nat} (F : Fun K "cut_between_words" "cut_between_words" st_cut_between_words f fd) (m_enumerate : mg "enumerate" = none) : FnOk P w K mg base CX0 (k + 1) f fd ["text"] spCut := by
  refine F.ok sc_cut_between_words (fun vs H Q E h => ?_) (fun cdv A outer s H vs Q E hr h => ?_)
  · obtain ⟨z, rfl, _⟩ := h
    rfl
  · obtain ⟨z, rfl, hz, q⟩ := h
    refine ⟨_, pss_cons (ps_set (i := 1) sc_cut_between_words.nd rfl (.inl rfl) (pe_lst pa_nil))
      (pss_cons (ps_set (i := 2) sc_cut_between_words.nd rfl (.inl rfl) pe_int)
      (pss_cons (ps_set (i := 3) sc_cut_between_words.nd rfl (.inl rfl) pe_bl)
      (pss_cons (ps_for PassesOwn.never rfl (pi_ES (by rfl) m_enumerate (pa_cons (pv 0) pa_nil)) (pg_tup rfl (pgs_cons (pg_name (i := 4) sc_cut_between_words.nd rfl (Or.inl rfl)) (pgs_cons (pg_name (i := 5) sc_cut_between_words.nd rfl (Or.inl rfl)) pgs_nil))) (pss_one (ps_if (pt_cmpR op_eq (pv 5) pe_str (nomark _)) (pss_one (ps_set (i := 3) sc_cut_between_words.nd rfl (.inl rfl) (pe_not (pv 3)))) (pss_one (ps_if (PW.pt (pw_and (pt_cmpR op_eq (pv 5) pe_str (nomark _)) (pw_and1 (pt_not (pt_val (pv 3)))))) (pss_cons (ps_expr (pe_bm PySem.F.plainAttrs_list PySem.F.slot_list_append PySem.F.type_list_append mt_append (pv 1) (pa_cons (pe_slice sl_str (pv 0) (po_some (pv 2)) (po_some (pv 4))) pa_nil)))
      (pss_one (ps_set (i := 2) sc_cut_between_words.nd rfl (.inl rfl) (pe_op op_add (pv 4) pe_int)))) pss_nil)))))
      (pss_cons (ps_expr (pe_bm PySem.F.plainAttrs_list PySem.F.slot_list_append PySem.F.type_list_append mt_append (pv 1) (pa_cons (pe_slice sl_str (pv 0) (po_some (pv 2)) po_none) pa_nil)))
      (pss_one (ps_ret (pv 1))))))), ?_⟩
    have hzl : z.length ≤ sizeLine := Nat.le_trans hz (by decide)
    have tq : tl (Str.ofString "'") = [39] := by decide +kernel
    have tb : tl (Str.ofString " ") = [32] := by decide +kernel
    have ez := TL.len_tl z
    have esz : z.cps.size = (tl z).length := by simp
    refine ⟨Nat.zero_le _, fun l nl => ?_⟩
    first | refine go nl fun H1 s1 e1 => ?_ | refine goT nl fun H1 s1 e1 => ?_
    refine ⟨.str z, rfl, z, rfl, for_it walk_ES (fun i σ H' => Same H H' ∧ i ≤ (tl z).length ∧ ∃ (b : Nat) (q : Bool) (ps : List Str) (x4 x5 : Option V), σ = [some (.str z), some (.ref l), some (.int (b : Int)), some (.bl q), x4, x5] ∧ H' l = some (.lst (ps.map V.str)) ∧ b ≤ i ∧ ps.length ≤ i ∧ ps.map tl ++ cutW ((tl z).drop i) q (((tl z).take i).drop b) = cutW (tl z) false [])
      ⟨s1, Nat.zero_le _, 0, false, [], none, none, rfl, e1, Nat.le_refl 0, Nat.le_refl 0, rfl⟩ (fun _ _ _ _ _ => True.intro) ?_ ?_⟩
    · rintro i x σ H5 H6 hi ⟨sm, hle, b, q5, ps, x4, x5, rfl, el, hb, hps, ecut⟩ ⟨T, k1, k2, rfl, nT, rfl, e1', e2'⟩
      have ek1 : k1 = .int (i : Nat) := (Option.some.inj e1').symm
      subst ek1
      have e2 : ((tl z)[i]?.map fun c => V.str ⟨#[c]⟩) = some k2 := e2'
      obtain ⟨c, ec, rfl⟩ := Option.map_eq_some_iff.mp e2
      have hi' : i < (tl z).length := by omega
      have nlT : l ≠ T := ne_of_none el nT
      have S6 : Same H (upd H5 T (.tup [.int (i : Nat), .str ⟨#[c]⟩])) := sm.trans (same_upd nT)
      have el6 : (upd H5 T (.tup [.int (i : Nat), .str ⟨#[c]⟩])) l = some (.lst (ps.map V.str)) := by
        rw [upd_ne nlT]
        exact el
      have edr : (tl z).drop i = c :: (tl z).drop (i + 1) := by
        rw [List.drop_eq_getElem_cons hi']
        rw [List.getElem?_eq_getElem hi'] at ec
        rw [Option.some.inj ec]
      have etk : ((tl z).take (i + 1)).drop b = ((tl z).take i).drop b ++ [c] := by
        rw [List.take_add_one, ec]
        show ((tl z).take i ++ [c]).drop b = _
        rw [List.drop_append_of_le_length (by rw [List.length_take]; omega)]
      rw [edr] at ecut
      refine ⟨T, _, rfl, SqT.of upd_same, rfl, _, _, rfl, _, _, rfl, rfl, ?_⟩
      revert S6 el6
      generalize upd H5 T (.tup [.int (i : Nat), .str ⟨#[c]⟩]) = H6
      intro S6 el6
      refine ⟨_, rfl, rfl, _, rfl, ite2 (fun e => ?_) (fun e => ?_)⟩
      · have ec39 : c = 39 := by
          have h1 := congrArg tl (V.str.inj (of_decide_eq_true e))
          rw [tq] at h1
          exact (List.cons.inj h1).1
        refine ⟨_, rfl, q5, rfl, ?_⟩
        refine ⟨S6, by omega, b, !q5, ps, _, _, rfl, el6, by omega, by omega, ?_⟩
        rw [etk, ← ecut]
        show _ = ps.map tl ++ (if c = 39 then cutW ((tl z).drop (i + 1)) (!q5) (((tl z).take i).drop b ++ [c]) else _)
        rw [if_pos ec39]
      · have ec39 : c ≠ 39 := fun h => e (decide_eq_true (congrArg V.str (str_ext (by rw [h, tq]))))
        have ecut2 : ps.map tl ++ (if c = 32 ∧ q5 = false then ((tl z).take i).drop b :: cutW ((tl z).drop (i + 1)) q5 [] else cutW ((tl z).drop (i + 1)) q5 (((tl z).take i).drop b ++ [c])) = cutW (tl z) false [] := by
          rw [← ecut]
          show _ = ps.map tl ++ (if c = 39 then _ else _)
          rw [if_neg ec39]
        dsimp only [tIfS]
        refine tt_use (t := tAnd _ _) (b := decide (c = 32) && !q5) (fun R cc => ?_) ?_
        · refine ⟨_, rfl, rfl, _, rfl, ite2 (fun e2 => ?_) (fun e2 => ?_)⟩
          · have ec32 : c = 32 := by
              have h1 := congrArg tl (V.str.inj (of_decide_eq_true e2))
              rw [tb] at h1
              exact (List.cons.inj h1).1
            rw [decide_eq_true ec32, Bool.true_and] at cc
            exact ⟨_, rfl, _, rfl, cc⟩
          · have ec32 : c ≠ 32 := fun h => e2 (decide_eq_true (congrArg V.str (str_ext (by rw [h, tb]))))
            rw [decide_eq_false ec32, Bool.false_and] at cc
            exact cc
        refine ite2 (fun e3 => ?_) (fun e3 => ?_)
        · obtain ⟨k1, k2⟩ := Bool.and_eq_true_iff.mp e3
          have ec32 : c = 32 := of_decide_eq_true k1
          have eq5 : q5 = false := by
            cases q5 with
            | false => rfl
            | true => cases k2
          rw [if_pos ⟨ec32, eq5⟩] at ecut2
          refine ⟨.ref l, rfl, .inl ⟨rfl, _, SqL.of el6⟩, .str z, rfl, .int b, rfl, b, rfl, .int (i : Nat), rfl, (i : Nat), rfl, z, rfl, hzl, l, _, _, rfl, rfl, el6, by rw [List.length_map]; exact Nat.lt_of_le_of_lt (show ps.length ≤ 5000 by omega) (by decide), ?_⟩
          refine goU fun H7 u7 e7 => ?_
          refine ⟨_, rfl, (i : Nat), 1, rfl, rfl, ?_⟩
          refine ⟨fun b' o e => u7 b' o (ne_of_none e nl) (S6 b' o e), by omega, i + 1, q5, ps ++ [cutS z (some (b : Int)) (some (i : Nat))], _, _, rfl, ?_, Nat.le_refl _, ?_, ?_⟩
          · rw [e7, List.map_append]
            rfl
          · rw [List.length_append]
            show ps.length + 1 ≤ i + 1
            omega
          · rw [List.map_append, List.map_cons, List.map_nil, tl_cut_mid z hb (by omega), ← ecut2, List.drop_of_length_le (l := (tl z).take (i + 1)) (by rw [List.length_take]; omega), List.append_assoc]
            rfl
        · have hno : ¬ (c = 32 ∧ q5 = false) := fun h => e3 (by rw [decide_eq_true h.1, h.2]; rfl)
          rw [if_neg hno] at ecut2
          refine ⟨S6, by omega, b, q5, ps, _, _, rfl, el6, by omega, by omega, ?_⟩
          rw [etk]
          exact ecut2
    · rintro σ H5 ⟨sm, hle, b, q5, ps, x4, x5, rfl, el, hb, hps, ecut⟩
      rw [esz] at ecut hb hps
      refine ⟨.ref l, rfl, .inl ⟨rfl, _, SqL.of el⟩, .str z, rfl, .int b, rfl, b, rfl, z, rfl, hzl, l, _, _, rfl, rfl, el, by rw [List.length_map]; exact Nat.lt_of_le_of_lt (show ps.length ≤ 5000 by omega) (by decide), ?_⟩
      refine goU fun H7 u7 e7 => ?_
      refine ⟨_, rfl, q _ l (ps ++ [cutS z (some (b : Int)) none]) (fun b' o e => u7 b' o (ne_of_none e nl) (sm b' o e)) nl ?_ ?_⟩
      · rw [e7, List.map_append]
        rfl
      · rw [List.map_append, List.map_cons, List.map_nil, tl_cut_from, ← ecut, List.drop_length, List.take_length]
        rfl
def spWordOf : Sp := fun vs H Q _ => ∃ (z : Str) (cs : List Nat), vs = [.str z] ∧ tl z = wq cs ∧ cs.length ≤ 60 ∧ ∀ y : Str, tl y = cs → Q (.str y) H
theorem starts_q (z : Str) : Txt.startswith z (Str.ofString "'") = decide ((tl z).take 1 = [39]) := by
  have tq : tl (Str.ofString "'") = [39] := by decide +kernel
  have lq : (Str.ofString "'").length = 1 := by decide +kernel
  unfold Txt.startswith
  rw [StrLaws.subAt_eq, List.drop_zero, lq]
  have ez := TL.len_tl z
  by_cases h : 1 ≤ z.length
  · rw [decide_eq_true (show 0 + 1 ≤ z.length by omega), Bool.true_and]
    by_cases e : (tl z).take 1 = [39]
    · rw [decide_eq_true e]
      exact beq_iff_eq.mpr (e.trans tq.symm)
    · rw [decide_eq_false e]
      exact beq_eq_false_iff_ne.mpr (fun k => e (k.trans tq))
  · rw [decide_eq_false (show ¬ 0 + 1 ≤ z.length by omega), Bool.false_and]
    refine (decide_eq_false fun e => ?_).symm
    have hn : tl z = [] := List.length_eq_zero_iff.mp (by omega)
    rw [hn] at e
    cases e
theorem ok_word_of {f : Addr} {fd : FuncData} {k : Nat} (F : Fun K "word_of" "word_of" st_word_of f fd) : FnOk P w K mg base CX0 (k + 1) f fd ["part"] spWordOf := by
  refine ok_tok F sc_word_of (by decide +kernel) (by decide) (fun vs H Q E h => ?_) (fun cdv A outer s H vs Q E hr h => ?_)
  · obtain ⟨z, cs, rfl, _⟩ := h
    rfl
  · obtain ⟨z, cs, rfl, ez, hc, q⟩ := h
    refine ⟨_, psst_cons (pst_if (pt_val (pe_m1 PySem.F.slot_str_startswith PySem.F.type_str_startswith mt_startswith (pv 0) pe_str)) (psst_one (pst_ret (pet_replC (pe_slice sl_str (pv 0) (po_some pe_int) (po_some (pe_un un_neg pe_int))) (by decide +kernel)))) (PSsT.of pss_nil))
      (PSsT.of (pss_one (ps_ret (pv 0)))), ?_⟩
    have tq : tl (Str.ofString "'") = [39] := by decide +kernel
    have lq : (Str.ofString "'").length = 1 := by decide +kernel
    have tqq : tl (Str.ofString "''") = [39, 39] := by decide +kernel
    have lqq : (Str.ofString "''").length = 2 := by decide +kernel
    have lz : z.length ≤ 122 := by
      rw [TL.len_tl, ez]
      exact wq_len hc
    have hzl : z.length ≤ sizeLine := Nat.le_trans lz (by decide)
    refine ⟨_, rfl, ⟨_, rfl⟩, _, _, rfl, rfl, _, rfl, ?_⟩
    rw [starts_q]
    cases hn : needq cs with
    | false =>
      obtain ⟨h1, h2, h3⟩ := needq_false hn
      have ew : wq cs = cs := by
        unfold wq
        rw [hn]
        rfl
      rw [ew] at ez
      rw [decide_eq_false (show ¬ (tl z).take 1 = [39] from fun h => h3 (by
        rw [← ez]
        exact List.mem_of_mem_take (i := 1) (by rw [h]; exact List.mem_cons_self)))]
      exact ⟨_, rfl, q z ez⟩
    | true =>
      have ew : wq cs = 39 :: (dblq cs ++ [39]) := by
        unfold wq
        rw [hn]
        rfl
      rw [ew] at ez
      rw [decide_eq_true (show (tl z).take 1 = [39] from by rw [ez]; rfl)]
      have ein := tl_cut_in z (dblq cs) ez
      have hcl : (cutS z (some 1) (some (-1))).length ≤ 122 := Nat.le_trans (cutS_length _ _ _) lz
      refine ⟨_, rfl, 1, rfl, 1, rfl, -1, rfl, z, rfl, hzl, _, rfl, ?_, q _ ?_⟩
      · rw [lq]
        omega
      · have h := StrLaws.replace_list (x := cutS z (some 1) (some (-1))) (y := Str.ofString "''") (z := Str.ofString "'") (by rw [lqq]; decide)
        rw [show (Str.ofString "'").cps.toList = [39] from tq, show (Str.ofString "''").cps.toList = [39, 39] from tqq, show (cutS z (some 1) (some (-1))).cps.toList = dblq cs from ein] at h
        exact h.trans (dbl_back cs)
theorem ok_words_of {f fN fW fR fC fO : Addr} {fd fdN fdW fdR fdC fdO : FuncData} {k : Nat} (F : Fun K "words_of" "words_of" st_words_of f fd) (D_needs_quotes : Df K mg "needs_quotes" st_needs_quotes ["word"] fN fdN) (D_word_text : Df K mg "word_text" st_word_text ["word"] fW fdW)
    (D_row_text : Df K mg "row_text" st_row_text ["words"] fR fdR) (D_cut_between_words : Df K mg "cut_between_words" st_cut_between_words ["text"] fC fdC) (D_word_of : Df K mg "word_of" st_word_of ["part"] fO fdO)
    (m_enumerate : mg "enumerate" = none) (m_isinstance : mg "isinstance" = none) (m_str : mg "str" = none) : FnOk P w K mg base CX0 (k + 4) f fd ["text"] spWordsOf := by
  have G_row_text : FnOk P w K mg base CX0 (k + 3) fR fdR ["words"] spWritten := ok_row_text D_row_text.F D_needs_quotes D_word_text
  have G_cut_between_words : FnOk P w K mg base CX0 (k + 3) fC fdC ["text"] spCut := ok_cut D_cut_between_words.F m_enumerate
  have G_word_of : FnOk P w K mg base CX0 (k + 3) fO fdO ["part"] spWordOf := ok_word_of D_word_of.F
  refine F.ok sc_words_of (fun vs H Q E h => ?_) (fun cdv A outer s H vs Q E hr h => ?_)
  · obtain ⟨z, ys, rfl, _⟩ := h
    rfl
  · obtain ⟨z, ys, rfl, ok, ez, q⟩ := h
    refine ⟨_, pss_cons (ps_if (pt_not (pt_val (pe_callB call_isi (by rfl) m_isinstance (by decide +kernel) (pa_cons (pv 0) (pa_cons (pe_bltn (v := .ty "str") (by rfl) m_str (by decide +kernel) rfl) pa_nil))))) (pss_one (ps_never)) pss_nil)
      (pss_cons (ps_if (pt_cmpR op_eq (pv 0) pe_str (nomark _)) (pss_one (ps_ret (pe_lst pa_nil))) pss_nil)
      (pss_cons (ps_setLc (i := 1) (own := [("part", 2)]) (g := gName 2) (tt := tYes)  rfl sc_words_of.nd rfl rfl (sw_true rfl rfl rfl (by decide +kernel)) (pi_list (pe_call G_cut_between_words hr (by rfl) D_cut_between_words.g D_cut_between_words.F.kp D_cut_between_words.b .nil pass0 (pa_cons (pv 0) pa_nil))) (blkOk_by (N := ["text", "words", "part"]) (sc := defScope st_words_of) (by decide +kernel)) (fun _ _ _ _ _ => (pg_name (i := 2) sc_words_of.nd rfl (Or.inl rfl))) (fun _ _ _ _ _ => pts_nil) (fun _ _ _ _ _ => (pe_call G_word_of hr (by rfl) D_word_of.g D_word_of.F.kp D_word_of.b .nil pass0 (pa_cons (pv 2) pa_nil))))
      (pss_cons (ps_if (pt_cmpR op_ne (pe_call G_row_text hr (by rfl) D_row_text.g D_row_text.F.kp D_row_text.b .nil pass0 (pa_cons (pv 1) pa_nil)) (pv 0) (nomark _)) (pss_one (ps_never)) pss_nil)
      (pss_one (ps_ret (pv 1)))))), ?_⟩
    have te : tl (Str.ofString "") = [] := by decide +kernel
    have lys : ∀ w ∈ ys.map tl, w.length ≤ 60 := fun w hw => by
      obtain ⟨y, hy, rfl⟩ := List.mem_map.mp hw
      rw [← TL.len_tl]
      exact (ok.2 y hy).le
    have lz : z.length ≤ 5000 := by
      have h1 := rowL_len (ys.map tl) lys
      rw [List.length_map] at h1
      rw [TL.len_tl, ez]
      have := ok.1
      omega
    refine ⟨_, rfl, _, _, _, _, true, rfl, ClsV.ty "str", TyX.base (TyOf.str _), kit_ty (by decide +kernel), _, rfl, ?_⟩
    refine ⟨_, rfl, rfl, _, rfl, ite2 (fun e => ?_) (fun e => ?_)⟩
    · have e1 : tl z = [] := by rw [V.str.inj (of_decide_eq_true e), te]
      have e2 : ys = [] := by
        cases ys with
        | nil => rfl
        | cons y r => exact absurd (ez.symm.trans e1) (rowL_ne _ _)
      subst e2
      exact ⟨Nat.zero_le _, fun o no => q _ o (same_upd no) no upd_same⟩
    have hne : ys ≠ [] := fun h => e (decide_eq_true (congrArg V.str (str_ext (by rw [ez, h, te]; rfl))))
    refine ⟨.str z, rfl, z, rfl, lz, fun H1 o ps s1 no eo eps => ?_⟩
    have eps2 : ps.map tl = (ys.map tl).map wq := by
      rw [eps, ez]
      cases ys with
      | nil => exact absurd rfl hne
      | cons y r => exact cutW_row _ _
    have lps : ps.length = ys.length := by
      have h := congrArg List.length eps2
      rw [List.length_map, List.length_map, List.length_map] at h
      exact h
    refine ⟨o, rfl, ⟨_, SqL.of eo⟩, fun D nD => ?_⟩
    refine lc_list (K := K) (a := o) (xs := ps.map V.str) (fun i Hc => Same H1 Hc ∧ ∃ us : List Str, Hc D = some (.lst (us.map V.str)) ∧ us.map tl = (ys.take i).map tl) ⟨same_upd nD, [], upd_same, rfl⟩ (fun i Hc _ ⟨sc, _⟩ => SqL.of (sc _ _ eo)) (fun i x Hc hx ⟨sc, us, eD, eu⟩ => ?_) (fun Hc ⟨sc, us, eD, eu⟩ => ?_)
    · rw [List.getElem?_map] at hx
      obtain ⟨p, ep, rfl⟩ := Option.map_eq_some_iff.mp hx
      have hip : i < ps.length := (List.getElem?_eq_some_iff.mp ep).1
      have hiy : i < ys.length := by omega
      have ept : tl p = wq (tl ys[i]) := by
        have h : (ps.map tl)[i]? = some (tl p) := by rw [List.getElem?_map, ep]; rfl
        rw [eps2, List.getElem?_map, List.getElem?_map, List.getElem?_eq_getElem hiy] at h
        exact (Option.some.inj h).symm
      have etk : ys.take (i + 1) = ys.take i ++ [ys[i]] := by
        rw [List.take_add_one, List.getElem?_eq_getElem hiy]
        rfl
      have elu : us.length ≤ 40 := by
        have h := congrArg List.length eu
        rw [List.length_map, List.length_map, List.length_take] at h
        have := ok.1
        omega
      refine ⟨rfl, .str p, rfl, p, tl ys[i], rfl, ept, lys _ (List.mem_map_of_mem (List.getElem_mem hiy)), fun y hy => ⟨_, eD, ?_, ?_, us ++ [y], ?_, ?_⟩⟩
      · rw [List.length_map]
        exact small1000 (by omega)
      · intro b o' e
        rw [upd_ne (ne_of_none e nD)]
        exact sc b o' e
      · rw [upd_same, List.map_append]
        rfl
      · rw [etk, List.map_append, List.map_append, eu, List.map_cons, List.map_nil, hy]
        rfl
    · rw [List.length_map, lps, List.take_length] at eu
      have eus : us = ys := TL.map_tl_inj eu
      subst eus
      refine ⟨.ref D, rfl, D, us, rfl, eD, ok, fun H3 z3 s3 ez3 => ?_⟩
      have ezz : z3 = z := str_ext (by rw [ez3, ez])
      subst ezz
      refine ⟨_, rfl, rfl, _, rfl, ?_⟩
      rw [show (!decide (V.str z3 = V.str z3)) = false from by simp]
      refine ⟨_, rfl, q _ D ((s1.trans sc).trans s3) (s1.free nD) (s3 _ _ eD)⟩
end
end WB

set_option Elab.async false
set_option linter.all false
set_option maxRecDepth 100000
set_option maxHeartbeats 4000000
namespace WB
open PySem PySem.Spec PyProof.Rows L2
open TL (tl)
theorem df_mk {K : PySem.W.Frag} {h : Heap} {mg : Str → Option Value} {x : Str} {st : Stmt} {ps : List Str} {f : Addr} {oc : Value} {od an : Option Addr} {osl : Array (Option Value)} {kV doc pm cdv ct : Value} (X : K.In h) (G : h.Ns mainGlobals mg)
    (a : PySem.W.nsIn K mainGlobals x = some (some (.ref f))) (l : K.lookup f = some ⟨oc, od, .func (PySem.W.fnOf x x (defArgs st) (defBody st) (defScope st) .none kV doc pm an cdv ct), osl⟩)
    (c : PySem.W.codeIn K cdv x = true) (k : PySem.W.keepIn K (.ref f) = true)
    (b : ∀ (kV doc pm : Value) (an : Option Addr) (cdv ct : Value) (us : List Value), us.length = ps.length → bindArgs (PySem.W.fnOf x x (defArgs st) (defBody st) (defScope st) .none kV doc pm an cdv ct) ⟨us, []⟩ = pure (ps.zip us)) :
    Df K mg x st ps f (PySem.W.fnOf x x (defArgs st) (defBody st) (defScope st) .none kV doc pm an cdv ct) := by
  have F := fun_mk (st := st) l c k
  exact ⟨F, F.binds b, PySem.W.mg_of X G a⟩
theorem all_mk {l : PySem.W.OpenLaw} {w : World} {K : PySem.W.Frag} {h : Heap} {mg : Str → Option Value} {fa : Addr} (X : K.In h) (G : h.Ns mainGlobals mg) (hfa : mg "law" = some (.ref fa))
    {fCell : Addr} {odCell anCell : Option Addr} {slCell : Array (Option Value)} {ocCell kVCell dcCell pmCell cdCell ctCell : Value} {fPot : Addr} {odPot anPot : Option Addr} {slPot : Array (Option Value)} {ocPot kVPot dcPot pmPot cdPot ctPot : Value} {fDraw : Addr} {odDraw anDraw : Option Addr} {slDraw : Array (Option Value)} {ocDraw kVDraw dcDraw pmDraw cdDraw ctDraw : Value} {fSigns : Addr} {odSigns anSigns : Option Addr} {slSigns : Array (Option Value)} {ocSigns kVSigns dcSigns pmSigns cdSigns ctSigns : Value} {fText : Addr} {odText anText : Option Addr} {slText : Array (Option Value)} {ocText kVText dcText pmText cdText ctText : Value} {fRow : Addr} {odRow anRow : Option Addr} {slRow : Array (Option Value)} {ocRow kVRow dcRow pmRow cdRow ctRow : Value} {fRight : Addr} {odRight anRight : Option Addr} {slRight : Array (Option Value)} {ocRight kVRight dcRight pmRight cdRight ctRight : Value} {fWritten : Addr} {odWritten anWritten : Option Addr} {slWritten : Array (Option Value)} {ocWritten kVWritten dcWritten pmWritten cdWritten ctWritten : Value} {fNeeds : Addr} {odNeeds anNeeds : Option Addr} {slNeeds : Array (Option Value)} {ocNeeds kVNeeds dcNeeds pmNeeds cdNeeds ctNeeds : Value} {fWordText : Addr} {odWordText anWordText : Option Addr} {slWordText : Array (Option Value)} {ocWordText kVWordText dcWordText pmWordText cdWordText ctWordText : Value} {fRowText : Addr} {odRowText anRowText : Option Addr} {slRowText : Array (Option Value)} {ocRowText kVRowText dcRowText pmRowText cdRowText ctRowText : Value} {fCut : Addr} {odCut anCut : Option Addr} {slCut : Array (Option Value)} {ocCut kVCut dcCut pmCut cdCut ctCut : Value} {fWordOf : Addr} {odWordOf anWordOf : Option Addr} {slWordOf : Array (Option Value)} {ocWordOf kVWordOf dcWordOf pmWordOf cdWordOf ctWordOf : Value} {fWordsOf : Addr} {odWordsOf anWordsOf : Option Addr} {slWordsOf : Array (Option Value)} {ocWordsOf kVWordsOf dcWordsOf pmWordsOf cdWordsOf ctWordsOf : Value} {fLaw : Addr} {odLaw anLaw : Option Addr} {slLaw : Array (Option Value)} {ocLaw kVLaw dcLaw pmLaw cdLaw ctLaw : Value}
    (aCell : PySem.W.nsIn K mainGlobals "_law_cell" = some (some (.ref fCell)))
    (lCell : K.lookup fCell = some ⟨ocCell, odCell, .func (PySem.W.fnOf "_law_cell" "_law_cell" (defArgs sCell) (defBody sCell) (defScope sCell) .none kVCell dcCell pmCell anCell cdCell ctCell), slCell⟩)
    (cCell : PySem.W.codeIn K cdCell "_law_cell" = true)
    (kCell : PySem.W.keepIn K (.ref fCell) = true)
    (aPot : PySem.W.nsIn K mainGlobals "_law_pot" = some (some (.ref fPot)))
    (lPot : K.lookup fPot = some ⟨ocPot, odPot, .func (PySem.W.fnOf "_law_pot" "_law_pot" (defArgs sPot) (defBody sPot) (defScope sPot) .none kVPot dcPot pmPot anPot cdPot ctPot), slPot⟩)
    (cPot : PySem.W.codeIn K cdPot "_law_pot" = true)
    (kPot : PySem.W.keepIn K (.ref fPot) = true)
    (aDraw : PySem.W.nsIn K mainGlobals "_law_draw" = some (some (.ref fDraw)))
    (lDraw : K.lookup fDraw = some ⟨ocDraw, odDraw, .func (PySem.W.fnOf "_law_draw" "_law_draw" (defArgs sDraw) (defBody sDraw) (defScope sDraw) .none kVDraw dcDraw pmDraw anDraw cdDraw ctDraw), slDraw⟩)
    (cDraw : PySem.W.codeIn K cdDraw "_law_draw" = true)
    (kDraw : PySem.W.keepIn K (.ref fDraw) = true)
    (aSigns : PySem.W.nsIn K mainGlobals "_law_signs" = some (some (.ref fSigns)))
    (lSigns : K.lookup fSigns = some ⟨ocSigns, odSigns, .func (PySem.W.fnOf "_law_signs" "_law_signs" (defArgs sSigns) (defBody sSigns) (defScope sSigns) .none kVSigns dcSigns pmSigns anSigns cdSigns ctSigns), slSigns⟩)
    (cSigns : PySem.W.codeIn K cdSigns "_law_signs" = true)
    (kSigns : PySem.W.keepIn K (.ref fSigns) = true)
    (aText : PySem.W.nsIn K mainGlobals "_law_text" = some (some (.ref fText)))
    (lText : K.lookup fText = some ⟨ocText, odText, .func (PySem.W.fnOf "_law_text" "_law_text" (defArgs sText) (defBody sText) (defScope sText) .none kVText dcText pmText anText cdText ctText), slText⟩)
    (cText : PySem.W.codeIn K cdText "_law_text" = true)
    (kText : PySem.W.keepIn K (.ref fText) = true)
    (aRow : PySem.W.nsIn K mainGlobals "_law_row" = some (some (.ref fRow)))
    (lRow : K.lookup fRow = some ⟨ocRow, odRow, .func (PySem.W.fnOf "_law_row" "_law_row" (defArgs st_row) (defBody st_row) (defScope st_row) .none kVRow dcRow pmRow anRow cdRow ctRow), slRow⟩)
    (cRow : PySem.W.codeIn K cdRow "_law_row" = true)
    (kRow : PySem.W.keepIn K (.ref fRow) = true)
    (aRight : PySem.W.nsIn K mainGlobals "_law_right" = some (some (.ref fRight)))
    (lRight : K.lookup fRight = some ⟨ocRight, odRight, .func (PySem.W.fnOf "_law_right" "_law_right" (defArgs st_right) (defBody st_right) (defScope st_right) .none kVRight dcRight pmRight anRight cdRight ctRight), slRight⟩)
    (cRight : PySem.W.codeIn K cdRight "_law_right" = true)
    (kRight : PySem.W.keepIn K (.ref fRight) = true)
    (aWritten : PySem.W.nsIn K mainGlobals "_law_written" = some (some (.ref fWritten)))
    (lWritten : K.lookup fWritten = some ⟨ocWritten, odWritten, .func (PySem.W.fnOf "_law_written" "_law_written" (defArgs st_written) (defBody st_written) (defScope st_written) .none kVWritten dcWritten pmWritten anWritten cdWritten ctWritten), slWritten⟩)
    (cWritten : PySem.W.codeIn K cdWritten "_law_written" = true)
    (kWritten : PySem.W.keepIn K (.ref fWritten) = true)
    (aNeeds : PySem.W.nsIn K mainGlobals "needs_quotes" = some (some (.ref fNeeds)))
    (lNeeds : K.lookup fNeeds = some ⟨ocNeeds, odNeeds, .func (PySem.W.fnOf "needs_quotes" "needs_quotes" (defArgs st_needs_quotes) (defBody st_needs_quotes) (defScope st_needs_quotes) .none kVNeeds dcNeeds pmNeeds anNeeds cdNeeds ctNeeds), slNeeds⟩)
    (cNeeds : PySem.W.codeIn K cdNeeds "needs_quotes" = true)
    (kNeeds : PySem.W.keepIn K (.ref fNeeds) = true)
    (aWordText : PySem.W.nsIn K mainGlobals "word_text" = some (some (.ref fWordText)))
    (lWordText : K.lookup fWordText = some ⟨ocWordText, odWordText, .func (PySem.W.fnOf "word_text" "word_text" (defArgs st_word_text) (defBody st_word_text) (defScope st_word_text) .none kVWordText dcWordText pmWordText anWordText cdWordText ctWordText), slWordText⟩)
    (cWordText : PySem.W.codeIn K cdWordText "word_text" = true)
    (kWordText : PySem.W.keepIn K (.ref fWordText) = true)
    (aRowText : PySem.W.nsIn K mainGlobals "row_text" = some (some (.ref fRowText)))
    (lRowText : K.lookup fRowText = some ⟨ocRowText, odRowText, .func (PySem.W.fnOf "row_text" "row_text" (defArgs st_row_text) (defBody st_row_text) (defScope st_row_text) .none kVRowText dcRowText pmRowText anRowText cdRowText ctRowText), slRowText⟩)
    (cRowText : PySem.W.codeIn K cdRowText "row_text" = true)
    (kRowText : PySem.W.keepIn K (.ref fRowText) = true)
    (aCut : PySem.W.nsIn K mainGlobals "cut_between_words" = some (some (.ref fCut)))
    (lCut : K.lookup fCut = some ⟨ocCut, odCut, .func (PySem.W.fnOf "cut_between_words" "cut_between_words" (defArgs st_cut_between_words) (defBody st_cut_between_words) (defScope st_cut_between_words) .none kVCut dcCut pmCut anCut cdCut ctCut), slCut⟩)
    (cCut : PySem.W.codeIn K cdCut "cut_between_words" = true)
    (kCut : PySem.W.keepIn K (.ref fCut) = true)
    (aWordOf : PySem.W.nsIn K mainGlobals "word_of" = some (some (.ref fWordOf)))
    (lWordOf : K.lookup fWordOf = some ⟨ocWordOf, odWordOf, .func (PySem.W.fnOf "word_of" "word_of" (defArgs st_word_of) (defBody st_word_of) (defScope st_word_of) .none kVWordOf dcWordOf pmWordOf anWordOf cdWordOf ctWordOf), slWordOf⟩)
    (cWordOf : PySem.W.codeIn K cdWordOf "word_of" = true)
    (kWordOf : PySem.W.keepIn K (.ref fWordOf) = true)
    (aWordsOf : PySem.W.nsIn K mainGlobals "words_of" = some (some (.ref fWordsOf)))
    (lWordsOf : K.lookup fWordsOf = some ⟨ocWordsOf, odWordsOf, .func (PySem.W.fnOf "words_of" "words_of" (defArgs st_words_of) (defBody st_words_of) (defScope st_words_of) .none kVWordsOf dcWordsOf pmWordsOf anWordsOf cdWordsOf ctWordsOf), slWordsOf⟩)
    (cWordsOf : PySem.W.codeIn K cdWordsOf "words_of" = true)
    (kWordsOf : PySem.W.keepIn K (.ref fWordsOf) = true)
    (z_len : PySem.W.nsIn K mainGlobals "len" = some none)
    (z_max : PySem.W.nsIn K mainGlobals "max" = some none)
    (z_min : PySem.W.nsIn K mainGlobals "min" = some none)
    (z_divmod : PySem.W.nsIn K mainGlobals "divmod" = some none)
    (z_range : PySem.W.nsIn K mainGlobals "range" = some none)
    (z_list : PySem.W.nsIn K mainGlobals "list" = some none)
    (z_isinstance : PySem.W.nsIn K mainGlobals "isinstance" = some none)
    (z_str : PySem.W.nsIn K mainGlobals "str" = some none)
    (z_all : PySem.W.nsIn K mainGlobals "all" = some none)
    (z_enumerate : PySem.W.nsIn K mainGlobals "enumerate" = some none)
    (z_int : PySem.W.nsIn K mainGlobals "int" = some none)
    (aLaw : PySem.W.nsIn K mainGlobals "law" = some (some (.ref fLaw)))
    (lLaw : K.lookup fLaw = some ⟨ocLaw, odLaw, .func (PySem.W.fnOf "law" "law" (defArgs st_law) (defBody st_law) (defScope st_law) .none kVLaw dcLaw pmLaw anLaw cdLaw ctLaw), slLaw⟩)
    (cLaw : PySem.W.codeIn K cdLaw "law" = true)
    (kLaw : PySem.W.keepIn K (.ref fLaw) = true) :
    ∃ fd : FuncData, (∀ (s : Shared) (v : Value), BindsTo s fd ⟨[v], []⟩ [("_law_script", v)]) ∧ ∀ base : Heap, K.In base → base.Ns mainGlobals mg → FnOk l.prog w K mg base CX0 6 fa fd ["_law_script"] (spLaw K) := by
  have e := hfa.symm.trans (PySem.W.mg_of X G aLaw)
  cases e
  have g0 : ∀ {x : Str}, PySem.W.nsIn K mainGlobals x = some none → mg x = none := fun {x} z => PySem.W.mg_none_of X G z
  have DCell := df_mk (st := sCell) (ps := ["_law_script", "_law_k"]) X G aCell lCell cCell kCell fun _ _ _ _ _ _ us hl => match us, hl with | [_, _], _ => rfl
  have DPot := df_mk (st := sPot) (ps := ["_law_script", "_law_k"]) X G aPot lPot cPot kPot fun _ _ _ _ _ _ us hl => match us, hl with | [_, _], _ => rfl
  have DDraw := df_mk (st := sDraw) (ps := ["_law_pot_here", "_law_many"]) X G aDraw lDraw cDraw kDraw fun _ _ _ _ _ _ us hl => match us, hl with | [_, _], _ => rfl
  have DSigns := df_mk (st := sSigns) (ps := []) X G aSigns lSigns cSigns kSigns fun _ _ _ _ _ _ us hl => match us, hl with | [], _ => rfl
  have DText := df_mk (st := sText) (ps := ["_law_pot_here", "_law_most", "_law_signs_here"]) X G aText lText cText kText fun _ _ _ _ _ _ us hl => match us, hl with | [_, _, _], _ => rfl
  have DRow := df_mk (st := st_row) (ps := ["_law_pot_here"]) X G aRow lRow cRow kRow fun _ _ _ _ _ _ us hl => match us, hl with | [_], _ => rfl
  have DRight := df_mk (st := st_right) (ps := ["_law_words"]) X G aRight lRight cRight kRight fun _ _ _ _ _ _ us hl => match us, hl with | [_], _ => rfl
  have DWritten := df_mk (st := st_written) (ps := ["_law_words"]) X G aWritten lWritten cWritten kWritten fun _ _ _ _ _ _ us hl => match us, hl with | [_], _ => rfl
  have DNeeds := df_mk (st := st_needs_quotes) (ps := ["word"]) X G aNeeds lNeeds cNeeds kNeeds fun _ _ _ _ _ _ us hl => match us, hl with | [_], _ => rfl
  have DWordText := df_mk (st := st_word_text) (ps := ["word"]) X G aWordText lWordText cWordText kWordText fun _ _ _ _ _ _ us hl => match us, hl with | [_], _ => rfl
  have DRowText := df_mk (st := st_row_text) (ps := ["words"]) X G aRowText lRowText cRowText kRowText fun _ _ _ _ _ _ us hl => match us, hl with | [_], _ => rfl
  have DCut := df_mk (st := st_cut_between_words) (ps := ["text"]) X G aCut lCut cCut kCut fun _ _ _ _ _ _ us hl => match us, hl with | [_], _ => rfl
  have DWordOf := df_mk (st := st_word_of) (ps := ["part"]) X G aWordOf lWordOf cWordOf kWordOf fun _ _ _ _ _ _ us hl => match us, hl with | [_], _ => rfl
  have DWordsOf := df_mk (st := st_words_of) (ps := ["text"]) X G aWordsOf lWordsOf cWordsOf kWordsOf fun _ _ _ _ _ _ us hl => match us, hl with | [_], _ => rfl
  have FLaw := fun_mk (st := st_law) lLaw cLaw kLaw
  refine ⟨PySem.W.fnOf "law" "law" (defArgs st_law) (defBody st_law) (defScope st_law) .none kVLaw dcLaw pmLaw anLaw cdLaw ctLaw, fun s v => ?_, fun base _ _ => ?_⟩
  · exact .of_eq rfl
  · exact ok_law FLaw DCell DPot DDraw DSigns DText DRow DRight DWritten DRowText (ok_row_text DRowText.F DNeeds DWordText) DWordsOf (ok_words_of DWordsOf.F DNeeds DWordText DRowText DCut DWordOf (g0 z_enumerate) (g0 z_isinstance) (g0 z_str)) (g0 z_len) (g0 z_max) (g0 z_min) (g0 z_divmod) (g0 z_range) (g0 z_list) (g0 z_isinstance) (g0 z_str) (g0 z_all) (g0 z_enumerate) (g0 z_int)
end WB

open PySem PySem.W PyProof.Rows
set_option maxRecDepth 100000
set_option Elab.async false
set_option maxHeartbeats 0 in
theorem PySem.Challenge.cw_wordbench_k25_whole_rows_as_texts_holds : PySem.Challenge.rw_wordbench_k25_whole_rows_as_texts.Holds := by
  w_on; o_law; k_head; (case hw => w_witness2)
  k_fill
  refine L2.walk_of (l := PySem.Challenge.rw_wordbench_k25_whole_rows_as_texts) (n := 63) (k := 6) (x := "_law_script") (CX := fun _ => L2.CX0) (sp := fun w => WB.spLaw _) rfl (by decide) rfl ⟨rfl, by decide, by decide⟩ (fun w h Y => PySem.W.kIn_of Y) ?F (fun _ _ a ns hl _ hS => ⟨a, ns, rfl, hS, hl, fun _ => rfl⟩) (fun _ _ _ _ _ h => h)
  case F =>
    intro w mg fa h KX G hmg
    refine' WB.all_mk KX G hmg ?aCell ?lCell ?cCell ?kCell ?aPot ?lPot ?cPot ?kPot ?aDraw ?lDraw ?cDraw ?kDraw ?aSigns ?lSigns ?cSigns ?kSigns ?aText ?lText ?cText ?kText ?aRow ?lRow ?cRow ?kRow ?aRight ?lRight ?cRight ?kRight ?aWritten ?lWritten ?cWritten ?kWritten ?aNeeds ?lNeeds ?cNeeds ?kNeeds ?aWordText ?lWordText ?cWordText ?kWordText ?aRowText ?lRowText ?cRowText ?kRowText ?aCut ?lCut ?cCut ?kCut ?aWordOf ?lWordOf ?cWordOf ?kWordOf ?aWordsOf ?lWordsOf ?cWordsOf ?kWordsOf ?z_len ?z_max ?z_min ?z_divmod ?z_range ?z_list ?z_isinstance ?z_str ?z_all ?z_enumerate ?z_int ?aLaw ?lLaw ?cLaw ?kLaw
    (case aCell => k_is)
    (case lCell => k_is)
    (case cCell => k_is)
    (case kCell => k_is)
    (case aPot => k_is)
    (case lPot => k_is)
    (case cPot => k_is)
    (case kPot => k_is)
    (case aDraw => k_is)
    (case lDraw => k_is)
    (case cDraw => k_is)
    (case kDraw => k_is)
    (case aSigns => k_is)
    (case lSigns => k_is)
    (case cSigns => k_is)
    (case kSigns => k_is)
    (case aText => k_is)
    (case lText => k_is)
    (case cText => k_is)
    (case kText => k_is)
    (case aRow => k_is)
    (case lRow => k_is)
    (case cRow => k_is)
    (case kRow => k_is)
    (case aRight => k_is)
    (case lRight => k_is)
    (case cRight => k_is)
    (case kRight => k_is)
    (case aWritten => k_is)
    (case lWritten => k_is)
    (case cWritten => k_is)
    (case kWritten => k_is)
    (case aNeeds => k_is)
    (case lNeeds => k_is)
    (case cNeeds => k_is)
    (case kNeeds => k_is)
    (case aWordText => k_is)
    (case lWordText => k_is)
    (case cWordText => k_is)
    (case kWordText => k_is)
    (case aRowText => k_is)
    (case lRowText => k_is)
    (case cRowText => k_is)
    (case kRowText => k_is)
    (case aCut => k_is)
    (case lCut => k_is)
    (case cCut => k_is)
    (case kCut => k_is)
    (case aWordOf => k_is)
    (case lWordOf => k_is)
    (case cWordOf => k_is)
    (case kWordOf => k_is)
    (case aWordsOf => k_is)
    (case lWordsOf => k_is)
    (case cWordsOf => k_is)
    (case kWordsOf => k_is)
    (case z_len => k_is)
    (case z_max => k_is)
    (case z_min => k_is)
    (case z_divmod => k_is)
    (case z_range => k_is)
    (case z_list => k_is)
    (case z_isinstance => k_is)
    (case z_str => k_is)
    (case z_all => k_is)
    (case z_enumerate => k_is)
    (case z_int => k_is)
    (case aLaw => k_is)
    (case lLaw => k_is)
    (case cLaw => k_is)
    (case kLaw => k_is)
