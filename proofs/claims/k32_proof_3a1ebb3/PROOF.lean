import PyProof.Rows.All
import Wide.All
import OpenK.AllK
import Wide.FinOn
import PySem.Challenge.RW_wordbench_k32_numbers_of_bases
import HandS.ForMost
import HandS.IsInst
import KE.KIsAll
import PyProof.ReprRoads
import PyProof.StrBlock2
import HandS.Exc
import HandS.ExcInit
import HandS.ExcField
import HandS.ExcIs
import HandS.TryOnly
import HandS.WordsExc
import HandS.Defaults
import HandS.MakeKw
import HandS.MakeKwOnly
import HandS.CallLocal
import HandS.ExcOwn
import HandS.StrMore
import HandS.More
import HandS.Walk
import HandS.Text
import HandS.IntHex
import HandS.FStr
import HandS.Replace
set_option Elab.async false
set_option linter.all false
set_option maxRecDepth 100000
set_option maxHeartbeats 4000000
namespace WB
open PySem PySem.Spec PyProof.Rows L2
open TL (tl)
def topS (i : Nat) : Stmt := PySem.Challenge.pw_wordbench_k32_numbers_of_bases.main.body.getD i (.Pass ⟨0, 0, 0, 0⟩)
abbrev st_cell : Stmt := topS 18
theorem sc_cell : FnScope ["_law_script", "_law_k"] ["_law_script", "_law_k"] (defScope st_cell) := ⟨rfl, rfl, rfl, by decide +kernel, rfl, by decide +kernel, by decide +kernel⟩
abbrev st_pot : Stmt := topS 19
theorem sc_pot : FnScope ["_law_script", "_law_k", "_law_cell_here"] ["_law_script", "_law_k"] (defScope st_pot) := ⟨rfl, rfl, rfl, by decide +kernel, rfl, by decide +kernel, by decide +kernel⟩
abbrev st_draw : Stmt := topS 20
theorem sc_draw : FnScope ["_law_pot_here", "_law_many", "_law_digit"] ["_law_pot_here", "_law_many"] (defScope st_draw) := ⟨rfl, rfl, rfl, by decide +kernel, rfl, by decide +kernel, by decide +kernel⟩
abbrev sCell := st_cell
abbrev sPot := st_pot
abbrev sDraw := st_draw
abbrev scCell := sc_cell
abbrev scPot := sc_pot
abbrev scDraw := sc_draw
/-- a def of the top: its object, how it binds, its name -/
structure Df (K : PySem.W.Frag) (mg : Str → Option Value) (x : Str) (st : Stmt) (ps : List Str) (f : Addr) (fd : FuncData) : Prop where
  F : Fun K x x st f fd
  b : Binds K fd ps []
  g : mg x = some (.ref f)
/-! ### heaps -/
theorem same_upd {H : Hp} {p : Addr} {o : HO} (h : H p = none) : Same H (upd H p o) := fun b x e => by
  rw [upd_ne (ne_of_none e h)]
  exact e
/-- all that was tracked but at p is as it was -/
def But (p : Addr) (H H' : Hp) : Prop := ∀ b o, b ≠ p → H b = some o → H' b = some o
theorem But.refl (p : Addr) (H : Hp) : But p H H := fun _ _ _ h => h
theorem But.trans {p : Addr} {H H1 H2 : Hp} (a : But p H H1) (b : But p H1 H2) : But p H H2 := fun c o n h => b c o n (a c o n h)
theorem But.of_same {p : Addr} {H H' : Hp} (a : Same H H') : But p H H' := fun c o _ h => a c o h
theorem But.upd (p : Addr) (H : Hp) (o : HO) : But p H (upd H p o) := fun c u n h => by
  rw [upd_ne n]
  exact h
theorem But.new {p : Addr} {H : Hp} {q : Addr} {o : HO} (h : H q = none) : But p H (L2.upd H q o) := But.of_same (same_upd h)
/-- at p a pot stands -/
def Pot (H : Hp) (p : Addr) : Prop := ∃ a b : Int, H p = some (.lst [.int a, .int b]) ∧ 0 ≤ b ∧ b < 2147483648
theorem Pot.some {H : Hp} {p : Addr} (h : Pot H p) : ∃ o, H p = some o := by
  obtain ⟨a, b, e, _⟩ := h
  exact ⟨_, e⟩
theorem Pot.ne {H : Hp} {p q : Addr} (h : Pot H p) (n : H q = none) : p ≠ q := by
  obtain ⟨a, b, e, _⟩ := h
  exact ne_of_none e n
theorem Pot.new {H : Hp} {p q : Addr} {o : HO} (h : Pot H p) (n : H q = none) : Pot (L2.upd H q o) p := by
  have ne := h.ne n
  obtain ⟨a, b, e, h1, h2⟩ := h
  refine ⟨a, b, ?_, h1, h2⟩
  rw [upd_ne ne]
  exact e
/-! ### texts of some signs -/
structure Tq (p : Nat → Prop) (n : Nat) (y : Str) : Prop where
  le : y.length ≤ n
  pl : ∀ c ∈ tl y, p c
theorem Tq.mono {p q : Nat → Prop} {n m : Nat} {y : Str} (h : Tq p n y) (e : n ≤ m) (f : ∀ c, p c → q c) : Tq q m y := ⟨Nat.le_trans h.le e, fun c hc => f c (h.pl c hc)⟩
theorem Tq.app {p : Nat → Prop} {n m : Nat} {x y : Str} (h : Tq p n x) (k : Tq p m y) : Tq p (n + m) (x ++ y) := by
  refine ⟨?_, fun c hc => ?_⟩
  · rw [Str.length_append]
    exact Nat.add_le_add h.le k.le
  · rw [TL.tl_append] at hc
    exact (List.mem_append.mp hc).elim (h.pl c) (k.pl c)
theorem Tq.cut {p : Nat → Prop} {n : Nat} {x : Str} (h : Tq p n x) (lo hi : Option Int) : Tq p n (cutS x lo hi) := by
  refine ⟨Nat.le_trans (cutS_length x lo hi) h.le, fun c hc => h.pl c ?_⟩
  have e : c ∈ (x.cps.toList.drop _).take _ := hc
  exact List.mem_of_mem_drop (List.mem_of_mem_take e)
theorem Tq.sign {p : Nat → Prop} {c : Nat} (h : p c) : Tq p 1 ⟨#[c]⟩ := by
  refine ⟨Nat.le_refl 1, fun d hd => ?_⟩
  have e : d ∈ [c] := hd
  rw [List.mem_singleton.mp e]
  exact h
theorem mem_joinL (S : List Nat) : ∀ (ps : List (List Nat)) (c : Nat), c ∈ TL.joinL S ps → c ∈ S ∨ ∃ p ∈ ps, c ∈ p
  | [], c, h => by cases h
  | [p], c, h => .inr ⟨p, List.mem_singleton.mpr rfl, h⟩
  | p :: q :: r, c, h => by
    rcases List.mem_append.mp (show c ∈ p ++ (S ++ TL.joinL S (q :: r)) from h) with h | h
    · exact .inr ⟨p, List.mem_cons_self, h⟩
    · rcases List.mem_append.mp h with h | h
      · exact .inl h
      · rcases mem_joinL S (q :: r) c h with h | ⟨p', hp, hc⟩
        · exact .inl h
        · exact .inr ⟨p', List.mem_cons_of_mem _ hp, hc⟩
theorem sum_most {p : Nat → Prop} (m : Nat) : ∀ ys : List Str, (∀ y ∈ ys, Tq p m y) → (ys.map (·.length)).sum ≤ ys.length * m
  | [], _ => Nat.zero_le _
  | y :: r, h => by
    have h1 := sum_most m r fun z hz => h z (List.mem_cons_of_mem _ hz)
    have h2 := (h y List.mem_cons_self).le
    rw [List.map_cons, List.sum_cons, List.length_cons, Nat.succ_mul]
    omega
theorem Tq.join {p : Nat → Prop} {sep : Str} {k m n : Nat} {ys : List Str} (hs : Tq p k sep) (h : ∀ y ∈ ys, Tq p m y) (hn : ys.length * m + ys.length * k ≤ n) : Tq p n (Txt.join sep ys) := by
  refine ⟨?_, fun c hc => ?_⟩
  · rw [TL.join_eq]
    have e := StrLaws.join_length_le sep ys
    have e2 := sum_most m ys h
    have e3 : ys.length * sep.length ≤ ys.length * k := Nat.mul_le_mul_left _ hs.le
    omega
  · rw [TL.join_eq, TL.tl_join] at hc
    rcases mem_joinL _ _ c hc with h1 | ⟨p, hp, h1⟩
    · exact hs.pl c h1
    · obtain ⟨y, hy, rfl⟩ := List.mem_map.mp hp
      exact (h y hy).pl c h1
section
variable {P : Program} {w : World} {K : PySem.W.Frag} {mg : Str → Option Value} {base : Heap}
/-! ### _law_cell -/
def spCell (K : PySem.W.Frag) : Sp := fun vs H Q _ => ∃ (a : Addr) (ns : List Int) (k : Int), vs = [.ref a, .int k] ∧ SqL K H a (ns.map V.int) ∧ 0 ≤ k ∧ ∀ z : Int, Q (.int z) H
theorem ok_cell {f : Addr} {fd : FuncData} {k : Nat} (F : Fun K "_law_cell" "_law_cell" sCell f fd) (mL : mg "len" = none) : FnOk P w K mg base CX0 (k + 1) f fd ["_law_script", "_law_k"] (spCell K) := by
  refine F.ok scCell (fun vs H Q E h => ?_) (fun cdv A outer s H vs Q E hr h => ?_)
  · obtain ⟨a, ns, k, rfl, _⟩ := h
    rfl
  · obtain ⟨a, ns, k, rfl, hS, hk, q⟩ := h
    refine ⟨_, pss_one (ps_ret (pe_ifExp (pt_cmpR op_lt (pv 1) (pe_callB call_len_seq (by rfl) mL PySem.boot_len (pa_cons (pv 0) pa_nil)) (nomark _)) (pe_ix ix_list (pv 0) (pv 1) (fun _ _ => rfl)) pe_int)), ?_⟩
    refine ⟨.int k, rfl, .ref a, rfl, a, _, rfl, .inl hS, k, _, rfl, rfl, _, rfl, ite2 (fun e => ?_) (fun e => q 0)⟩
    have e1 := of_decide_eq_true e
    obtain ⟨n, rfl⟩ := Int.eq_ofNat_of_zero_le hk
    rw [List.length_map] at e1
    have hn : n < ns.length := by omega
    exact ⟨.ref a, rfl, .int n, rfl, a, _, _, .int ns[n], rfl, rfl, hS, atI_nat (j := n) (by rw [List.getElem?_map, List.getElem?_eq_getElem hn]; rfl), q _⟩
/-! ### _law_pot -/
def spPot (K : PySem.W.Frag) : Sp := fun vs H Q _ => ∃ (a : Addr) (ns : List Int) (k : Int), vs = [.ref a, .int k] ∧ SqL K H a (ns.map V.int) ∧ 0 ≤ k ∧
  ∀ H' p, Same H H' → H p = none → Pot H' p → Q (.ref p) H'
theorem ok_pot {f fC : Addr} {fd fdC : FuncData} {k : Nat} (F : Fun K "_law_pot" "_law_pot" sPot f fd) (C : Df K mg "_law_cell" sCell ["_law_script", "_law_k"] fC fdC) (mL : mg "len" = none) (mM : mg "max" = none) :
    FnOk P w K mg base CX0 (k + 2) f fd ["_law_script", "_law_k"] (spPot K) := by
  have GC : FnOk P w K mg base CX0 (k + 1) fC fdC ["_law_script", "_law_k"] (spCell K) := ok_cell C.F mL
  refine F.ok scPot (fun vs H Q E h => ?_) (fun cdv A outer s H vs Q E hr h => ?_)
  · obtain ⟨a, ns, k, rfl, _⟩ := h
    rfl
  · obtain ⟨a, ns, k, rfl, hS, hk, q⟩ := h
    refine ⟨_, pss_cons (ps_set (i := 2) scPot.nd rfl (.inl rfl) (pe_call GC hr (by rfl) C.g C.F.kp C.b .nil pass0 (pa_cons (pv 0) (pa_cons (pv 1) pa_nil))))
      (pss_one (ps_ret (pe_lst (pa_cons (pe_callB (call_max2 rfl) (by rfl) mM (by decide +kernel) (pa_cons pe_int (pa_cons (pe_op op_sub (pv 2) (pe_op op_pow pe_int pe_int)) pa_nil)))
        (pa_cons (pe_op op_mod (pe_op op_add (pe_op op_add (pe_op op_mul (pe_op op_mod (pv 2) pe_int) pe_int) (pe_op op_mul pe_int (pv 1))) pe_int) pe_int) pa_nil))))), ?_⟩
    refine ⟨.ref a, rfl, .int k, rfl, a, ns, k, rfl, hS, hk, fun z => ?_⟩
    refine ⟨.int z, rfl, 10, 18, rfl, rfl, ⟨by decide, by decide, by decide⟩, z, _, rfl, rfl, 0, _, rfl, ?_⟩
    refine ⟨.int z, rfl, z, 2147483629, rfl, rfl, (by show (0 : Int) < 2147483629; decide), _, 48271, rfl, rfl, .inr ⟨by decide, by decide⟩, .int k, rfl, 7919, k, rfl, rfl, .inl ⟨by decide, by decide⟩, _, _, rfl, rfl, _, 31, rfl, rfl, _, 2147483629, rfl, rfl, (by show (0 : Int) < 2147483629; decide), ?_⟩
    refine ⟨by show 2 ≤ sizeLine; decide, fun p hp => q _ p (same_upd hp) hp ⟨_, _, upd_same, Int.emod_nonneg _ (by decide), ?_⟩⟩
    exact Int.lt_trans (Int.emod_lt_of_pos _ (by decide)) (by decide)
/-! ### _law_draw -/
def spDraw : Sp := fun vs H Q _ => ∃ (p : Addr) (m : Int), vs = [.ref p, .int m] ∧ Pot H p ∧ 0 < m ∧ m ≤ 1000 ∧ ∀ H' (d : Int), But p H H' → Pot H' p → 0 ≤ d → d < m → Q (.int d) H'
theorem ok_draw {f : Addr} {fd : FuncData} {k : Nat} (F : Fun K "_law_draw" "_law_draw" sDraw f fd) (mD : mg "divmod" = none) : FnOk P w K mg base CX0 (k + 1) f fd ["_law_pot_here", "_law_many"] spDraw := by
  refine F.ok scDraw (fun vs H Q E h => ?_) (fun cdv A outer s H vs Q E hr h => ?_)
  · obtain ⟨p, m, rfl, _⟩ := h
    rfl
  · obtain ⟨p, m, rfl, ⟨a, b, hp, hb0, hb1⟩, hm0, hm1, q⟩ := h
    refine ⟨_, pss_cons (ps_if (pt_cmpR op_gt (pe_ix ix_list (pv 0) pe_int (fun _ _ => rfl)) pe_int (nomark _))
        (pss_cons (ps_asg (pe_callB call_divmod (by rfl) mD (by decide +kernel) (pa_cons (pe_ix ix_list (pv 0) pe_int (fun _ _ => rfl)) (pa_cons (pv 1) pa_nil)))
            (pg_tup rfl (pgs_cons (pg_sub (pv 0) pe_int set_list) (pgs_cons (pg_name (i := 2) scDraw.nd rfl (.inl rfl)) pgs_nil))))
          (pss_one (ps_ret (pv 2)))) pss_nil)
      (pss_cons (ps_asg (pe_op op_mod (pe_op op_add (pe_op op_mul (pe_ix ix_list (pv 0) pe_int (fun _ _ => rfl)) pe_int) pe_int) pe_int) (pg_sub (pv 0) pe_int set_list))
      (pss_one (ps_ret (pe_op op_mod (pe_op op_fdiv (pe_op op_mod (pe_op op_pow (pe_ix ix_list (pv 0) pe_int (fun _ _ => rfl)) pe_int) pe_int) pe_int) (pv 1))))), ?_⟩
    refine ⟨.ref p, rfl, p, _, 0, .int a, rfl, rfl, SqL.of hp, atI_nat (j := 0) rfl, a, 0, rfl, rfl, _, rfl, ite2 (fun e => ?_) (fun e => ?_)⟩
    · refine ⟨.ref p, rfl, p, _, 0, .int a, rfl, rfl, SqL.of hp, atI_nat (j := 0) rfl, .int m, rfl, a, m, rfl, ⟨hm0, by omega⟩, fun t nt => ?_⟩
      have npt : p ≠ t := ne_of_none hp nt
      have hp1 : (upd H t (.tup [.int (a / m), .int (a % m)])) p = some (.lst [.int a, .int b]) := by
        rw [upd_ne npt]
        exact hp
      refine ⟨t, _, rfl, SqT.of upd_same, rfl, _, _, rfl, .ref p, rfl, p, _, 0, 0, rfl, rfl, hp1, rfl, _, _, rfl, rfl, ?_⟩
      refine ⟨.int (a % m), rfl, q _ _ ((But.new nt).trans (But.upd _ _ _)) ⟨a / m, b, upd_same, hb0, hb1⟩ (Int.emod_nonneg _ (by omega)) (Int.emod_lt_of_pos _ hm0)⟩
    · refine ⟨.ref p, rfl, p, _, 1, .int b, rfl, rfl, SqL.of hp, atI_nat (j := 1) rfl, b, 39373, rfl, rfl, .inr ⟨by decide, by decide⟩, _, 8191, rfl, rfl, _, 2147483587, rfl, rfl, (by show (0 : Int) < 2147483587; decide), ?_⟩
      refine ⟨.ref p, rfl, p, _, 1, 1, rfl, rfl, hp, rfl, ?_⟩
      have c0 : 0 ≤ (b * 39373 + 8191) % 2147483587 := Int.emod_nonneg _ (by decide)
      have c1 : (b * 39373 + 8191) % 2147483587 < 2147483587 := Int.emod_lt_of_pos _ (by decide)
      refine ⟨.ref p, rfl, p, _, 1, .int ((b * 39373 + 8191) % 2147483587), rfl, rfl, SqL.of upd_same, atI_nat (j := 1) rfl, (b * 39373 + 8191) % 2147483587, 2, rfl, rfl, ⟨by decide, by decide, by omega⟩, _, 2147483543, rfl, rfl, (by show (0 : Int) < 2147483543; decide), _, 13, rfl, rfl, ⟨by decide, by decide⟩, .int m, rfl, _, m, rfl, rfl, hm0, ?_⟩
      exact q _ _ (But.upd _ _ _) ⟨a, _, upd_same, c0, by omega⟩ (Int.emod_nonneg _ (by omega)) (Int.emod_lt_of_pos _ hm0)
end
theorem at_strs (ys : List Str) (d : Int) (h0 : 0 ≤ d) (h1 : d < (ys.length : Int)) : ∃ y ∈ ys, atI (ys.map V.str) d = some (.str y) := by
  obtain ⟨n, rfl⟩ := Int.eq_ofNat_of_zero_le h0
  have hn : n < ys.length := by omega
  exact ⟨ys[n], List.getElem_mem hn, atI_nat (by rw [List.getElem?_map, List.getElem?_eq_getElem hn]; rfl)⟩
theorem at_ints (ys : List Int) (d : Int) (h0 : 0 ≤ d) (h1 : d < (ys.length : Int)) : ∃ y ∈ ys, atI (ys.map V.int) d = some (.int y) := by
  obtain ⟨n, rfl⟩ := Int.eq_ofNat_of_zero_le h0
  have hn : n < ys.length := by omega
  exact ⟨ys[n], List.getElem_mem hn, atI_nat (by rw [List.getElem?_map, List.getElem?_eq_getElem hn]; rfl)⟩
theorem at_any (ys : List V) (d : Int) (h0 : 0 ≤ d) (h1 : d < (ys.length : Int)) : ∃ y ∈ ys, atI ys d = some y := by
  obtain ⟨n, rfl⟩ := Int.eq_ofNat_of_zero_le h0
  have hn : n < ys.length := by omega
  exact ⟨ys[n], List.getElem_mem hn, atI_nat (List.getElem?_eq_getElem hn)⟩
theorem go {R : Hp → Prop} {H : Hp} {a : Addr} {o : HO} (n : H a = none) (h : ∀ H', Same H H' → H' a = some o → R H') : R (upd H a o) := h _ (same_upd n) upd_same
theorem goT {α : Type} {R : Hp → α → Prop} {Q : α} {H : Hp} {a : Addr} {o : HO} (n : H a = none) (h : ∀ H', Same H H' → H' a = some o → R H' Q) : R (upd H a o) Q := h _ (same_upd n) upd_same
theorem goU {R : Hp → Prop} {H : Hp} {a : Addr} {o : HO} (h : ∀ H', But a H H' → H' a = some o → R H') : R (upd H a o) := h _ (But.upd _ _ _) upd_same
theorem ev_use {t : TE} {σ : L2.St} {H : Hp} {v : V} {R : VK} (e : ∀ R : VK, R v H → t σ H R) (c : R v H) : t σ H R := e R c
theorem ev_gen {t : TE} {σ : L2.St} {H : Hp} (D : V → Hp → Prop) {R : VK} (e : ∀ R : VK, (∀ v H', D v H' → R v H') → t σ H R) (c : ∀ v H', D v H' → R v H') : t σ H R := e R c
theorem ts_gen {t : TS} {κ : L2.Ends} {σ : L2.St} {H : Hp} (D : L2.St → Hp → Prop) (e : ∀ κ : L2.Ends, (∀ σ' H', D σ' H' → κ.nx σ' H') → t κ σ H) (c : ∀ σ' H', D σ' H' → κ.nx σ' H') : t κ σ H := e κ c
theorem dp_strs {K : PySem.W.Frag} {H : Hp} : ∀ ys : List Str, DpAll K H (ys.map V.str) (ys.map PyData.str)
  | [] => .nil
  | y :: r => .cons (.str y) (dp_strs r)
theorem strOk_of {z : Str} (h : ∀ c ∈ tl z, c < 256) : PyData.strOk z = true := by
  unfold PyData.strOk
  rw [← Array.all_toList]
  exact List.all_eq_true.mpr fun c hc => decide_eq_true (Nat.lt_trans (h c hc) (by decide))
theorem lay_strs : ∀ ys : List Str, (∀ y ∈ ys, PyData.strOk y = true) → PyData.canLayAll0 (ys.map PyData.str) = true ∧ PyData.depthAll (ys.map PyData.str) = 0
  | [], _ => ⟨by simp [PyData.canLayAll0], by simp [PyData.depthAll]⟩
  | y :: r, h => by
    obtain ⟨h1, h2⟩ := lay_strs r fun z hz => h z (List.mem_cons_of_mem _ hz)
    rw [List.map_cons]
    exact ⟨by simp [PyData.canLayAll0, PyData.canLay0, h1, h y List.mem_cons_self], by simp [PyData.depthAll, PyData.depth, h2]⟩
theorem shaped_strs (ys : List Str) (h : ∀ y ∈ ys, PyData.strOk y = true) : SeqAt.shaped (.list (ys.map PyData.str)) = true := by
  obtain ⟨h1, h2⟩ := lay_strs ys h
  unfold SeqAt.shaped
  simp [PyData.canLay0, PyData.depth, h1, h2]
theorem eqv_nil (ds : List PyData) : PyData.eqv (.list ds) (.list []) = ds.isEmpty := by
  cases ds with
  | nil => simp [PyData.eqv, PyData.eqvAll]
  | cons d r => simp [PyData.eqv, PyData.eqvAll]
theorem strs_flat (ys : List Str) : (ys.map V.str).all flatV = true := by
  rw [List.all_map]
  exact List.all_eq_true.mpr fun _ _ => rfl
theorem eqvAll_strs : ∀ xs ys : List Str, PyData.eqvAll (xs.map PyData.str) (ys.map PyData.str) = decide (xs = ys)
  | [], [] => by simp [PyData.eqvAll]
  | [], y :: r => by simp [PyData.eqvAll]
  | x :: r, [] => by simp [PyData.eqvAll]
  | x :: r, y :: t => by
    rw [List.map_cons, List.map_cons]
    simp only [PyData.eqvAll, PyData.eqv]
    rw [eqvAll_strs r t]
    by_cases h : x = y
    · subst h
      by_cases h2 : r = t
      · subst h2
        simp
      · simp [h2]
    · simp [h]
theorem eqv_strs (xs ys : List Str) : PyData.eqv (.list (xs.map PyData.str)) (.list (ys.map PyData.str)) = decide (xs = ys) := by
  simp only [PyData.eqv]
  exact eqvAll_strs xs ys
theorem inV_strs (z : Str) (ys : List Str) : inV (.str z) (ys.map V.str) = decide (z ∈ ys) := by
  unfold inV
  rw [List.any_map]
  induction ys with
  | nil => rfl
  | cons y r ih =>
    rw [List.any_cons, ih]
    show (decide (y = z) || decide (z ∈ r)) = _
    by_cases h : y = z
    · subst h
      simp
    · have h2 : ¬ z = y := fun e => h e.symm
      simp [h, h2]
theorem tl_cut_to (x : Str) (k : Nat) : tl (cutS x none (some (k : Int))) = (tl x).take k := by
  show ((((tl x).drop (HT.sIx x.length 0 none)).take (HT.sIx x.length x.length (some (k : Int)) - HT.sIx x.length 0 none)).toArray).toList = _
  rw [HT.sIx_none, HT.sIx_nat, List.drop_zero, Nat.sub_zero]
  show (tl x).take (min k x.length) = _
  rw [TL.len_tl, ← List.take_take, List.take_length]
theorem tl_cut_from (x : Str) (k : Nat) : tl (cutS x (some (k : Int)) none) = (tl x).drop k := by
  show ((((tl x).drop (HT.sIx x.length 0 (some (k : Int)))).take (HT.sIx x.length x.length none - HT.sIx x.length 0 (some (k : Int)))).toArray).toList = _
  rw [HT.sIx_none, HT.sIx_nat]
  show ((tl x).drop (min k x.length)).take (x.length - min k x.length) = _
  have hl := TL.len_tl x
  by_cases h : k ≤ x.length
  · rw [Nat.min_eq_left h, List.take_of_length_le (by rw [List.length_drop]; omega)]
  · rw [Nat.min_eq_right (by omega), List.drop_of_length_le (by omega), List.drop_of_length_le (by omega), List.take_nil]
theorem fold_toList : ∀ (l : List (Array Nat)) (acc : Array Nat), (l.foldl (· ++ ·) acc).toList = acc.toList ++ (l.map Array.toList).flatten
  | [], acc => by simp
  | x :: l, acc => by
    rw [List.foldl_cons, fold_toList l]
    simp
theorem mul_tl (z : Str) (n : Nat) : (Txt.mul z (n : Int)).cps.toList = (List.replicate n z.cps.toList).flatten := by
  unfold Txt.mul
  by_cases h1 : (n : Int) < 1
  · have e : n = 0 := by omega
    subst e
    rw [if_pos h1]
    rfl
  · rw [if_neg h1]
    by_cases h2 : ((n : Int) == 1 || z.length == 0) = true
    · rw [if_pos h2]
      rcases Bool.or_eq_true_iff.mp h2 with e | e
      · have e1 : n = 1 := by
          have := eq_of_beq e
          omega
        subst e1
        simp
      · have e1 : z.cps.toList = [] := List.length_eq_zero_iff.mp (by
          have := eq_of_beq e
          simpa [Str.length] using this)
        rw [e1]
        simp
    · rw [if_neg h2]
      show ((List.replicate (n : Int).toNat z.cps).foldl (· ++ ·) #[]).toList = _
      rw [fold_toList, Int.toNat_natCast, List.map_replicate]
      rfl
theorem op_mul_str {X : Cx} : OpR X (binaryOp .Mult) (fun x y H Q => ∃ (z : Str) (n : Nat), x = .str z ∧ y = .int (n : Int) ∧ n ≤ 1000 ∧ z.length ≤ 1000 ∧ ∀ y : Str, tl y = (List.replicate n (tl z)).flatten → Q (.str y) H) := by
  intro pins s σ H x y v u Q I rx ry h
  obtain ⟨z, n, rfl, rfl, hn, hz, q⟩ := h
  obtain ⟨tx, rfl⟩ := rx
  obtain ⟨ty, rfl⟩ := ry
  have pw : z.length * n ≤ 1000000 := Nat.le_trans (Nat.mul_le_mul hz hn) (by decide)
  refine PySem.SB.mul ⟨?_, fun h1 h2 => ?_, fun h1 h2 => ?_⟩ fun t' k => ⟨.str _, H, I.tok k, ⟨t', rfl⟩, q _ ?_⟩
  · rw [decide_eq_false (by omega), decide_eq_false (by omega)]
    rfl
  · have e : (1000 : Int) ≤ (2 ^ 63 - 1) / (n : Int) := by
      have h3 : (0 : Int) < n := by omega
      exact (Int.le_ediv_iff_mul_le h3).mpr (by omega)
    omega
  · rw [Int.toNat_natCast]
    exact decide_eq_false (by show ¬ sizeLine < _; have : sizeLine = 16777216 := sizeLine_eq; omega)
  · exact mul_tl z n
theorem tt_use {t : TT} {σ : L2.St} {H : Hp} {b : Bool} {R : Bool → Hp → Prop} (e : ∀ R : Bool → Hp → Prop, R b H → t σ H R) (c : R b H) : t σ H R := e R c
theorem str_ext {a b : Str} (h : tl a = tl b) : a = b := by
  cases a; cases b
  exact congrArg Str.mk (Array.toList_inj.mp h)
abbrev B8 : Nat → Prop := fun c => c < 256
theorem Pot.same {H H' : Hp} {p : Addr} (h : Pot H p) (s : Same H H') : Pot H' p := by
  obtain ⟨x, y, e, h1, h2⟩ := h
  exact ⟨x, y, s _ _ e, h1, h2⟩
end WB

set_option Elab.async false
set_option linter.all false
set_option maxRecDepth 100000
set_option maxHeartbeats 4000000
namespace WG
open PySem PySem.Spec PyProof.Rows L2
/-! ### a def's promise where no repr is under way -/
structure GOk (P : Program) (w : World) (K : PySem.W.Frag) (mg : Str → Option Value) (base : Heap) (CX : CXT) (k : Nat) (f : Addr) (fd : FuncData) (ps : List Str) (sp : Sp) : Prop where
  len : ∀ vs H Q E, sp vs H Q E → vs.length = ps.length
  run : ∀ (A : Around) (outer : List Env) (s : Shared) (H : Hp) (args : Args) (us : List Value) (vs : List V) (Q : VK) (E : XK), A.guards = some [] → Room k A → Env0 P w K mg base A outer s H →
    BindsTo s fd args (ps.zip us) → Vals vs us → sp vs H Q E → codeAny (model P w) A (.call (.ref f) args) (CR CX outer P w H s Q E) s
theorem GOk.of {P : Program} {w : World} {K : PySem.W.Frag} {mg : Str → Option Value} {base : Heap} {CX : CXT} {k : Nat} {f : Addr} {fd : FuncData} {ps : List Str} {sp : Sp} (F : FnOk P w K mg base CX k f fd ps sp) : GOk P w K mg base CX k f fd ps sp :=
  ⟨F.len, fun A o s H args us vs Q E _ => F.run A o s H args us vs Q E⟩
section
variable {CX : CXT} {P : Program} {w : World} {K : PySem.W.Frag} {mg : Str → Option Value} {base : Heap} {k : Nat} {f : Addr} {N ps : List Str} {sp : Sp}
theorem gfn_of {name qual : Str} {params : Arguments} {body : List Stmt} {scope : Scope} {dV kV doc pm cdv ct oc : Value} {an od : Option Addr} {osl : Array (Option Value)}
    (lk : K.lookup f = some ⟨oc, od, .func (PySem.W.fnOf name qual params body scope dV kV doc pm an cdv ct), osl⟩) (hcd : PySem.W.codeIn K cdv qual = true) (S : FnScope N ps scope) (len : ∀ vs H Q E, sp vs H Q E → vs.length = ps.length)
    (hbody : ∀ (A : Around) (outer : List Env) (s : Shared) (H : Hp) (vs : List V) (Q : VK) (E : XK), A.guards = some [] → Room k (A.deeper (envOfC qual scope s.heap.objs.size f cdv)) → sp vs H Q E →
      ∃ t, PSs (cxOf CX P w K mg base N qual scope f cdv A outer s H E) body t ∧ t { nx := fun _ H' => Q .non H', rt := Q } (L2.start N vs) H) :
    GOk P w K mg base CX (k + 1) f (PySem.W.fnOf name qual params body scope dV kV doc pm an cdv ct) ps sp := by
  refine ⟨len, fun A outer s H args us vs Q E hgd room env bnd rel want => ?_⟩
  have hlen := len _ _ _ _ want
  have kin : K.In s.heap := env.mod.kin.keeps fun b o q => (env.bs b o q).1
  have nolim : s.heap.NoLimit := env.mod.nolimit.keeps fun b o q => (env.bs b o q).1
  have kinds : ∀ y ∈ ps.zip us, scope.names.lookup y.1 = some .local ∨ (scope.names.lookup y.1 = some .cell ∧ ((cellsFrom (s.heap.objs.size + 1) scope.names []).lookup y.1).isSome = true) := by
    intro y hy
    obtain ⟨n, v⟩ := y
    cases S.par n (List.of_mem_zip hy).1 with
    | inl z => exact .inl z
    | inr z => exact .inr ⟨z, PySem.W.cellsFrom_some _ _ _ (.inl z)⟩
  refine codeAny_call_function room.depth (kin _ _ lk) rfl S.co S.gen rfl (PySem.W.codeRec_of kin hcd) (bnd _ _ _ _ ?_)
  refine wpAny_newFunctionEnv_cells S.kind kinds fun e2 he2 s1 hx => ?_
  subst he2
  refine ⟨nolim.keeps hx.toInCall.keep, codeAny_func ?_⟩
  obtain ⟨t, tb, tq⟩ := hbody A outer s H vs Q E hgd (room.deeper _) want
  have I : Inv (cxOf CX P w K mg base N qual scope f cdv A outer s H E) [] (L2.start N vs) H s1 := inv_start S room.hd env hlen rel hx
  refine wpAny_mono (tb.run [] s1 (L2.start N vs) H _ I tq) (fun fl s' hs => ?_) fun e s' hs => hs
  cases fl with
  | ret u =>
    obtain ⟨v, _, H', J, rv, q⟩ := hs
    exact ⟨v, H', J.os, J.bare, J.base, J.hok, rv, q⟩
  | next =>
    obtain ⟨_, H', J, q⟩ := hs
    exact ⟨V.non, H', J.os, J.bare, J.base, J.hok, rfl, q⟩
  | brk =>
    obtain ⟨_, _, _, q⟩ := hs
    exact False.elim q
  | cont =>
    obtain ⟨_, _, _, q⟩ := hs
    exact False.elim q
theorem gfun_ok {x qual : Str} {st : Stmt} {fd : FuncData} (F : Fun K x qual st f fd) (S : FnScope N ps (defScope st)) (len : ∀ vs H Q E, sp vs H Q E → vs.length = ps.length)
    (hbody : ∀ (cdv : Value) (A : Around) (outer : List Env) (s : Shared) (H : Hp) (vs : List V) (Q : VK) (E : XK), A.guards = some [] → Room k (A.deeper (envOfC qual (defScope st) s.heap.objs.size f cdv)) → sp vs H Q E →
      ∃ t, PSs (cxOf CX P w K mg base N qual (defScope st) f cdv A outer s H E) (defBody st) t ∧ t { nx := fun _ H' => Q .non H', rt := Q } (L2.start N vs) H) : GOk P w K mg base CX (k + 1) f fd ps sp := by
  obtain ⟨oc, od, kV, doc, pm, an, cdv, ct, osl, rfl, lk, hcd⟩ := F.ex
  exact gfn_of lk hcd S len fun A outer s H vs Q E hg hr hsp => hbody cdv A outer s H vs Q E hg hr hsp
end
section
variable {X : Cx} {CX : CXT} {k : Nat} {f : Addr} {fd : FuncData} {ps : List Str} {sp : Sp} {E : XK} {x : Str} {p pos : Pos} {e : Expr} {es : List Expr} {t : TA}
theorem pe_callG (F : GOk X.prog X.w X.K X.mg X.base CX k f fd ps sp) (hgd : X.A.guards = some []) (hr : Room k X.A) (hg : Gl X x) (hm : X.mg x = some (.ref f)) (hk : PySem.W.keepIn X.K (.ref f) = true) (hb : Binds X.K fd ps []) (hx : Passes CX X E)
    (ha : PA X (e :: es) t) (hdb : (x == ("__debug__" : Str)) = false := by decide) (he : starEach (e :: es) X.env = (false, eval e X.env) :: starEach es X.env := by rfl) (hpl : (backTo pos (starEach es X.env)).any (·.1) = false := by rfl) :
    PE X (.Call (.Name x p) (e :: es) [] pos) (tCall sp [] E t) := by
  constructor
  intro pins s σ H Q I h
  refine wpAny_Call_Name_kw (ld_glob I hg hm ?_ hdb)
  refine PySem.W.callWith_K (h₀ := X.base) I.ok.mod.kin hk (thn (ha.run pos pins s σ H _ I h) fun us s1 ⟨vs, H1, I1, r, q⟩ => ⟨I1.kIn, ?_⟩) he hpl
  have q : sp vs H1 Q E := by
    have z : sp (vs ++ []) H1 Q E := q
    rw [List.append_nil] at z
    exact z
  have hl : (us ++ []).length = ps.length := by
    rw [List.append_nil, ← r.length]
    exact F.len _ _ _ _ q
  have b := hb s1 us I1.kIn hl
  rw [List.append_nil] at b
  refine wpAny_call (codeAny_mono (F.run X.A X.stack s1 H1 ⟨us, []⟩ us vs Q E hgd hr I1.env0 b r q) fun rr s' hq => ?_)
  cases rr with
  | error er => exact hx pins σ H1 s1 er s' I1 hq
  | ok fl =>
    cases fl with
    | ret u => exact I1.after hq
    | next => exact hq.elim
    | brk => exact hq.elim
    | cont => exact hq.elim
end
/-! ### the law's end over such a promise -/
theorem glaw_call {P : Program} {w : World} {K : PySem.W.Frag} {mg mb : Str → Option Value} {CX : CXT} {k : Nat} {fa a : Addr} {fd : FuncData} {x : Str} {sp : Sp} {t : Shared} {vs : List Value} {ns : List Int}
    (kin : K.In t.heap) (nsm : t.heap.Ns mainGlobals mg) (nsb : t.heap.Ns builtinsNs mb) (hbb : ∀ x : Str, x ≠ "__name__" → mb x = bootBuiltins x) (nolim : t.heap.NoLimit) (nogen : t.gens = #[])
    (obj : t.heap.get? a = some { cls := .type "list", data := .seq vs.toArray }) (hints : IntsAre vs ns) (hl : ns.length ≤ sizeLine) (room : Room k callerA)
    (F : ∀ base : Heap, K.In base → base.Ns mainGlobals mg → GOk P w K mg base CX k fa fd [x] sp) (bnd : ∀ (s : Shared) (u : Value), BindsTo s fd ⟨[u], []⟩ [(x, u)])
    (want : ∀ H : Hp, Only H → SqL K H a (ns.map V.int) → sp [.ref a] H (fun v _ => v = .bl true) fun _ _ _ => False)
    (noX : ∀ H e s', CX [] H t (fun _ _ _ => False) e s' → False) :
    codeAny (model P w) callerA (.call (.ref fa) ⟨[.ref a], []⟩) (fun r s' => r = .ok (.ret (.bool true)) ∧ OldK t.heap s'.heap ∧ s'.os = t.os ∧ AllBare s'.gens) t := by
  have rv := vals_ints hints
  have hlv := hints.length
  have main : ∀ H : Hp, Only H → SqL K H a (ns.map V.int) → HOk P w H t.heap → (∀ b, H b ≠ none → b = a) → (H a ≠ none → K.lookup a = none) →
      codeAny (model P w) callerA (.call (.ref fa) ⟨[.ref a], []⟩) (fun r s' => r = .ok (.ret (.bool true)) ∧ OldK t.heap s'.heap ∧ s'.os = t.os ∧ AllBare s'.gens) t := by
    intro H only hS ok onlyA hK
    have noD : ∀ {b : Addr} {o : Obj} {es : Array DictEntry} {ep : Nat}, t.heap.get? b = some o → o.data = .dict es ep → H b = none := by
      intro b o es ep e d
      cases q : H b with
      | none => rfl
      | some u =>
        have z := onlyA b (by rw [q]; exact Option.some_ne_none u)
        subst z
        rw [obj] at e
        cases e
        cases d
    have nsH : ∀ {b : Addr} {m : Str → Option Value}, t.heap.Ns b m → (hidT t.heap H).Ns b m := by
      rintro b m ⟨o, es, ep, e, d, r⟩
      exact ⟨o, es, ep, hidT_get e (noD e d), d, r⟩
    have kinH : K.In (hidT t.heap H) := by
      intro b o e
      refine hidT_get (kin b o e) ?_
      cases q : H b with
      | none => rfl
      | some u =>
        have z := onlyA b (by rw [q]; exact Option.some_ne_none u)
        subst z
        rw [hK (by rw [q]; exact Option.some_ne_none u)] at e
        cases e
    have md : Mod K mg (hidT t.heap H) := by
      refine ⟨kinH, nsH nsm, ⟨mb, nsH nsb, hbb⟩, ?_⟩
      obtain ⟨mc, h1, h2⟩ := nolim
      exact ⟨mc, nsH h1, h2⟩
    have env : Env0 P w K mg (hidT t.heap H) callerA [] t H :=
      ⟨rfl, md, fun b o e => of_hidT e, Nat.le_of_eq (hidT_size _ _), trivial, fun b hb => (List.not_mem_nil (show b ∈ ([] : List Addr) from hb)).elim, ok, .of_eq nogen⟩
    refine codeAny_mono ((F _ kinH (nsH nsm)).run callerA [] t H ⟨[.ref a], []⟩ [.ref a] [.ref a] _ _ rfl room env (bnd t (.ref a)) (.cons rfl .nil) (want H only hS)) fun r s' h => ?_
    cases r with
    | error e => exact (noX H e s' h).elim
    | ok fl =>
      cases fl with
      | next => exact h.elim
      | brk => exact h.elim
      | cont => exact h.elim
      | ret u =>
        obtain ⟨v, H', os, bare, un, ok', r', q⟩ := h
        have q' : v = .bl true := q
        subst q'
        cases r'
        refine ⟨rfl, OldK.of_keep fun b o e => ?_, os, bare⟩
        cases q : H b with
        | none => exact un.keep b o e q (fun z => (List.not_mem_nil (show b ∈ ([] : List Addr) from z)).elim) List.not_mem_nil
        | some u =>
          rcases only b with z | ⟨ob, xs, z⟩
          · rw [q] at z
            cases z
          · obtain ⟨e1, _⟩ := ok b _ z
            obtain ⟨e2, _⟩ := ok' b _ (un.frzs b ob _ z)
            rw [e] at e1
            cases e1
            exact e2
  cases hk : K.lookup a with
  | some o =>
    have e := kin a o hk
    rw [obj] at e
    cases e
    refine main (fun _ => none) (fun _ => .inl rfl) (.inr ⟨_, vs.toArray, _, hk, rfl, rfl, rfl, ?_, by simpa using rv⟩) (fun b u z => by cases (show (none : Option HO) = some u from z)) (fun b z => absurd rfl z) fun z => absurd rfl z
    rw [List.size_toArray, hlv]
    exact hl
  | none =>
    refine main (fun b => if b = a then some (.frz { cls := .type "list", data := .seq vs.toArray } (.lst (ns.map V.int))) else none) (fun b => ?_) (.inl (.inr ⟨_, if_pos rfl⟩)) (fun b u z => ?_) (fun b z => ?_) fun _ => hk
    · by_cases hb : b = a
      · exact .inr ⟨_, _, if_pos hb⟩
      · exact .inl (if_neg hb)
    · by_cases hb : b = a
      · have z' := (if_pos hb).symm.trans z
        cases z'
        subst hb
        exact ⟨obj, by rw [List.length_map]; exact hl, vs, _, rv, obj⟩
      · have z' := (if_neg hb).symm.trans z
        cases z'
    · by_cases hb : b = a
      · exact hb
      · exact absurd (if_neg hb) z
theorem gwalk_of {l : PySem.W.OpenLaw} {n k : Nat} {q : Program} {loose : List Str} {XP : (Str → Option Value) → Heap → Prop} {YP : World → Heap → Prop} {d : DefRec} {K : Params → PySem.W.Frag} {CX : World → CXT} {sp : World → Sp} {x : Str}
    (hn : l.most = some n) (hn2 : n ≤ sizeLine) (hdf : d.params.defaults = []) (hr : Room k callerA) (hY : ∀ (w : World) (h : Heap), YP w h → (K w.params).In h)
    (F : ∀ (w : World) (mg : Str → Option Value) (fa : Addr) (h : Heap), (K w.params).In h → h.Ns mainGlobals mg → mg d.name = some (.ref fa) →
      ∃ fd : FuncData, (∀ (s : Shared) (u : Value), BindsTo s fd ⟨[u], []⟩ [(x, u)]) ∧ ∀ base : Heap, (K w.params).In base → base.Ns mainGlobals mg → GOk l.prog w (K w.params) mg base (CX w) k fa fd [x] (sp w))
    (hsp : ∀ (w : World) (H : Hp) (a : Addr) (ns : List Int), ns.length ≤ n → Only H → SqL (K w.params) H a (ns.map V.int) → sp w [.ref a] H (fun v _ => v = .bl true) fun _ _ _ => False)
    (hCX : ∀ (w : World) (H : Hp) (s : Shared) (e : Value) (s' : Shared), CX w [] H s (fun _ _ _ => False) e s' → False) : PySem.W.WalkO q loose XP YP l.row.toRowW d [] (fun f vs => PySem.call f vs) := by
  refine Att.attach_call hn hdf fun w s0 s1 mg mb fa o pm cd doc a vs ns G Y ho hd hcd hmg hobj hints hlen hg => ?_
  obtain ⟨fd, hb, hF⟩ := F w mg fa _ (hY w _ Y) G.T.g hmg
  exact glaw_call (hY w _ Y) G.T.g G.T.b G.T.builtins G.T.nolimit hg hobj hints (Nat.le_trans hlen hn2) hr hF hb (fun H hO hS => hsp w H a ns hlen hO hS) fun H e s' => hCX w H s1 e s'
/-! ### text * int -/
theorem fold_toList : ∀ (l : List (Array Nat)) (acc : Array Nat), (l.foldl (· ++ ·) acc).toList = acc.toList ++ (l.map Array.toList).flatten
  | [], acc => by simp
  | x :: l, acc => by
    rw [List.foldl_cons, fold_toList l]
    simp
theorem mul_tl (z : Str) (n : Nat) : (Txt.mul z (n : Int)).cps.toList = (List.replicate n z.cps.toList).flatten := by
  unfold Txt.mul
  by_cases h1 : (n : Int) < 1
  · have e : n = 0 := by omega
    subst e
    rw [if_pos h1]
    rfl
  · rw [if_neg h1]
    by_cases h2 : ((n : Int) == 1 || z.length == 0) = true
    · rw [if_pos h2]
      rcases Bool.or_eq_true_iff.mp h2 with e | e
      · have e1 : n = 1 := by
          have := eq_of_beq e
          omega
        subst e1
        simp
      · have e1 : z.cps.toList = [] := List.length_eq_zero_iff.mp (by
          have := eq_of_beq e
          simpa [Str.length] using this)
        rw [e1]
        simp
    · rw [if_neg h2]
      show ((List.replicate (n : Int).toNat z.cps).foldl (· ++ ·) #[]).toList = _
      rw [fold_toList, Int.toNat_natCast, List.map_replicate]
      rfl
theorem op_mul_str {X : Cx} : OpR X (binaryOp .Mult) (fun x y H Q => ∃ (z : Str) (n : Nat), x = .str z ∧ y = .int (n : Int) ∧ n ≤ 1000 ∧ z.length ≤ 1000 ∧ ∀ y : Str, y.length = z.length * n → (∀ c ∈ y.cps.toList, c ∈ z.cps.toList) → Q (.str y) H) := by
  intro pins s σ H x y v u Q I rx ry h
  obtain ⟨z, n, rfl, rfl, hn, hz, q⟩ := h
  obtain ⟨tx, rfl⟩ := rx
  obtain ⟨ty, rfl⟩ := ry
  have pw : z.length * n ≤ 1000000 := Nat.le_trans (Nat.mul_le_mul hz hn) (by decide)
  refine PySem.SB.mul ⟨?_, fun h1 h2 => ?_, fun h1 h2 => ?_⟩ fun t' k => ⟨.str _, H, I.tok k, ⟨t', rfl⟩, q _ ?_ ?_⟩
  · rw [decide_eq_false (by omega), decide_eq_false (by omega)]
    rfl
  · have e : (1000 : Int) ≤ (2 ^ 63 - 1) / (n : Int) := by
      have h3 : (0 : Int) < n := by omega
      exact (Int.le_ediv_iff_mul_le h3).mpr (by omega)
    omega
  · rw [Int.toNat_natCast]
    exact decide_eq_false (by show ¬ sizeLine < _; have : sizeLine = 16777216 := sizeLine_eq; omega)
  · rw [TL.len_tl, TL.len_tl z]
    show (Txt.mul z (n : Int)).cps.toList.length = _
    rw [mul_tl]
    simp [Nat.mul_comm]
  · intro c hc
    rw [mul_tl] at hc
    obtain ⟨l, hl, hcl⟩ := List.mem_flatten.mp hc
    rw [(List.mem_replicate.mp hl).2] at hcl
    exact hcl
/-! ### repr of a list -/
/-- a value and the data that it is: as in Dp, and dicts of none or one text with an int -/
inductive Itm (K : PySem.W.Frag) (H : Hp) : V → PyData → Prop
  | dp {v : V} {d : PyData} (h : Dp K H v d) (nd : d.hasDict = false) : Itm K H v d
  | d0 {a : Addr} (h : H a = some (.dK [])) : Itm K H (.ref a) (.dict [])
  | d1 {a : Addr} {x : Str} {i : Int} (h : H a = some (.dK [(Sum.inr x, .int i)])) : Itm K H (.ref a) (.dict [(.str x, .int i)])
inductive ItmAll (K : PySem.W.Frag) (H : Hp) : List V → List PyData → Prop
  | nil : ItmAll K H [] []
  | cons {v : V} {vs : List V} {d : PyData} {ds : List PyData} : Itm K H v d → ItmAll K H vs ds → ItmAll K H (v :: vs) (d :: ds)
section
variable {X : Cx} {pins : List (Addr × Obj)} {σ : L2.St} {H : Hp} {s : Shared}
theorem Itm.reads (I : Inv X pins σ H s) {v : V} {u : Value} {d : PyData} (h : Itm X.K H v d) (r : RelV v u) : ∃ as, Reads s.heap u d as ∧ (d.hasDict = true → sysModules ∉ as) := by
  cases h with
  | dp h nd =>
    obtain ⟨as, q⟩ := Dp.reads I d v u h r
    exact ⟨as, q, fun z => by rw [nd] at z; cases z⟩
  | @d0 a h =>
    cases r
    obtain ⟨_, ns, vs, kv, o, es, ep, ho, hx, hd, hk, hp, _⟩ := I.hok _ _ h
    cases kv
    generalize hl : es.toList = l at hp
    cases hp
    refine ⟨_, Reads.dict (kvs := []) (as := []) (bs := []) ho hx.1 hd (by rw [hl]; exact .nil) (by rw [hl]; exact .nil), fun _ => ?_⟩
    intro hm
    rcases List.mem_cons.mp hm with e | e
    · rw [← e] at ns
      exact absurd ns (by decide)
    · cases e
  | @d1 a x i h =>
    cases r
    obtain ⟨_, ns, vs, kv, o, es, ep, ho, hx, hd, hk, hp, _⟩ := I.hok _ _ h
    cases kv with
    | cons h1 h2 =>
      cases h2
      obtain ⟨e1, t, e2⟩ := h1
      rename_i b nd2
      obtain ⟨b1, b2⟩ := b
      dsimp only at e1 e2
      subst e1 e2
      generalize hl : es.toList = l at hp
      cases hp with
      | cons k1 k2 k3 =>
        cases k3
        rename_i en
        obtain ⟨hh, ky, vl⟩ := en
        dsimp only at k1 k2
        subst k2
        have k1' : keyIs (Sum.inr x) ky = true := k1
        rcases keyIs_shape k1' with ⟨j, t', z, _⟩ | ⟨y, t', z, rfl⟩
        · cases z
        · cases z
          refine ⟨_, Reads.dict (kvs := [(.str x, .int i)]) ho hx.1 hd (by rw [hl]; exact .cons (.str x t') .nil) (by rw [hl]; exact .cons (.int i t) .nil), fun _ => ?_⟩
          intro hm
          rcases List.mem_cons.mp hm with e | e
          · rw [← e] at ns
            exact absurd ns (by decide)
          · cases e
theorem ItmAll.all (I : Inv X pins σ H s) : ∀ {vs : List V} {ds : List PyData} {us : List Value}, ItmAll X.K H vs ds → Vals vs us → PyData.showableAll ds = true → (∀ t ∈ PyData.shownAll ds, t.length ≤ sizeLine) →
    (∃ as, ReadsAll s.heap us ds as) ∧ ∃ bs, ReadAtMost s.heap (PyData.depthAll ds) bs ∧ ReprAllK X.prog X.w bs s.heap (PyData.depthAll ds) us (PyData.shownAll ds)
  | _, _, _, .nil, .nil, _, _ => ⟨⟨_, .nil⟩, [], (fun _ h => nomatch h), by simp only [PyData.shownAll]; exact .nil⟩
  | _, _, _, .cons (d := d) (ds := ds) h1 h2, .cons r1 r2, hs, hz => by
    have hs' : d.showable = true ∧ PyData.showableAll ds = true := by simpa [PyData.showableAll] using hs
    obtain ⟨as, q, nq⟩ := h1.reads I r1
    obtain ⟨⟨as2, q2⟩, bs2, b2, k2⟩ := ItmAll.all I h2 r2 hs'.2 (fun t ht => hz t (by simp only [PyData.shownAll]; exact List.mem_cons_of_mem _ ht))
    obtain ⟨bs1, b1, k1⟩ := ReprK.of_reads (prog := X.prog) (w := X.w) q hs'.1 nq (hz _ (by simp only [PyData.shownAll]; exact List.mem_cons_self ..))
    refine ⟨⟨_, .cons q q2⟩, bs1 ++ bs2, ?_, ?_⟩
    · have e1 : d.depth ≤ PyData.depthAll (d :: ds) := by simp only [PyData.depthAll]; omega
      have e2 : PyData.depthAll ds ≤ PyData.depthAll (d :: ds) := by simp only [PyData.depthAll]; omega
      exact (b1.mono e1).append (b2.mono e2)
    · have e1 : d.depth ≤ PyData.depthAll (d :: ds) := by simp only [PyData.depthAll]; omega
      have e2 : PyData.depthAll ds ≤ PyData.depthAll (d :: ds) := by simp only [PyData.depthAll]; omega
      simp only [PyData.shownAll]
      exact .cons ((k1.more fun b hb => List.mem_append_left _ hb).level_le e1) (k2.more_le (fun b hb => List.mem_append_right _ hb) e2)
/-- repr(l) -/
def rRepr (K : PySem.W.Frag) : List V → Hp → VK → Prop := fun xs H Q => ∃ (a : Addr) (vs : List V) (ds : List PyData), xs = [.ref a] ∧ SqL K H a vs ∧ vs ≠ [] ∧ ItmAll K H vs ds ∧ PyData.showableAll ds = true ∧ PyData.depthAll ds ≤ 8 ∧
  (listText (PyData.shownAll ds)).length ≤ sizeLine ∧ Q (.str (listText (PyData.shownAll ds))) H
end
theorem call_repr_l {X : Cx} (hg : X.A.guards = some []) (hu : X.A.units + 16 < cLine) : CallR X (.builtin "repr") (rRepr X.K) := by
  intro pins s σ H xs us Q I r h
  obtain ⟨a, vs, ds, rfl, hS, hne, hI, hs, hdp, hz, q⟩ := h
  cases r with
  | cons ra rr =>
    cases rr
    cases ra
    obtain ⟨its, rv, ⟨o, n, ho, hc, hdx, hd⟩, _⟩ := I.list hS
    obtain ⟨⟨as, hr⟩, bs, hb, hk⟩ := ItmAll.all I hI rv hs (fun t ht => Nat.le_trans (listText_mem_le ht) hz)
    cases its with
    | nil =>
      cases rv
      exact absurd rfl hne
    | cons x l =>
      have rd : Reads s.heap (.ref a) (.list ds) _ := Reads.list ho hc hd hr
      have hna : a ∉ bs := not_mem_of_deeper rd (by simp only [PyData.depth]; omega) hb
      refine call_repr_slot (T := "list") (idr := "list.__repr__") (by omega) ⟨o, ho, hc⟩ F.slot_list_repr.toG ?_
      exact call_list_reprK (h₀ := s.heap) (as := bs) ho hc hd hna (by simpa using hk.length_eq) (fun i y e => hk.item i y (by simpa using e)) (g := []) hg (fun b _ => Clear.nil b) (by show X.A.units + 1 + (_ + 1) < cLine; omega) (fun _ _ e => e)
        (fun h' u tk hkp => ⟨_, _, rfl, .str _, H, I.kept (t' := tk) hkp, ⟨u, rfl⟩, q⟩) hz
end WG

set_option Elab.async false
set_option linter.all false
set_option maxRecDepth 100000
set_option maxHeartbeats 4000000
namespace WG
open PySem PySem.Spec PySem.Calls PyProof.Rows PySem.W
section
variable {prog : Program} {w : World} {A : Around} {E : Value → Shared → Prop} {s : Shared} {K : Frag} {x D : Addr} {ox : Obj} {od : Option Obj}
theorem find_dat {C : Addr} {name : Str} {a g : Value} (hc : (clsIn K C).isSome = true) (ha : findIn K (.ref C) name = some (some a)) (hg : specialIn K a "__get__" = some (some g)) (ht : takesIn K a = some true) :
    findObj K C od name = some (.bind g a) := by
  obtain ⟨cd, hcd⟩ := Option.isSome_iff_exists.mp hc
  unfold findObj
  rw [hcd, Option.bind_some, ha, Option.bind_some]
  simp [hg, ht]
theorem exc_class {Q : Option Value → Shared → Prop} (c : L2.ExcC K D) (kin : K.In s.heap) (at0 : InstAt s.heap x ox D od) (h : Q (some (.ref D)) { s with toks := s.toks + 1 }) : wpAny (model prog w) A (getAttr? (.ref x) "__class__") Q E s := by
  have hf : findObj K D od "__class__" = some (.bind (.builtin "getset_descriptor.__get__") (.builtin "object.__class__")) := by
    refine find_dat ?_ c.ha c.hn c.ht
    obtain ⟨cd, hcd, _⟩ := any_some c.hd
    rw [hcd] <;> rfl
  obtain ⟨hh, gs, dr, tk, os⟩ := s
  have t0 := at0.type (M := model prog w)
  have t1 := looks_findIn (M := model prog w) kin c.hg
  have t2 := looks_findIn (M := model prog w) kin c.hk
  have t3 := looks_find (M := model prog w) kin at0 hf
  have isb : Looks (model prog w) hh (isInstance (.ref x) (.type "BaseException")) true := t0.andThen (looks_subIn kin c.hs)
  have z0 : (false && onTheHeap (Value.builtin "BaseException.__getattribute__")) = false := rfl
  have z2 : (Value.builtin "BaseException.__getattribute__" == Value.builtin "object.__getattribute__") = false := by decide +kernel
  have z1 : (onTheHeap (Value.ref D) && Value.builtin "BaseException.__getattribute__" == Value.builtin "object.__getattribute__") = false := by
    rw [z2]
    rfl
  unfold getAttr? getAttrBy? getAttrBy
  refine wpAny_bind (wpAny_mkText (wpAny_bind (wpAny_attempt (wpAny_holding (wpAny_bind (t0.at (wpAny_bind (t1.at ?_))))))))
  show wpAny _ _ (if (onTheHeap (Value.ref D) && Value.builtin "BaseException.__getattribute__" == Value.builtin "object.__getattribute__") = true then _ else _) _ _ _
  rw [z1, if_neg Bool.false_ne_true]
  unfold getAttrByItsOwn hookBefore
  refine wpAny_bind ?_
  rw [if_pos (show onTheHeap (Value.ref D) = true from rfl)]
  refine t2.at (wpAny_bind (wpAny_attempt (wpAny_holding ?_)))
  unfold callGetattribute
  rw [z0, if_neg Bool.false_ne_true]
  unfold boundAndCalled
  rw [PySem.F.excAttr_ValueError.ga.bind (.ref x)]
  refine wpAny_bind (wpAny_pure ?_)
  show wpAny _ _ (call (.builtin "BaseException.__getattribute__") [.ref x, .str "__class__" tk]) _ _ _
  refine wpAny_call (codeAny_call_builtin PySem.F.excAttr_ValueError.ga.plain PySem.F.entry_bexc_ga ?_)
  refine @check_slot (model prog w) _ _ ⟨hh, gs, dr, tk + 1, os⟩ "BaseException.__getattribute__" "BaseException" "__getattribute__" (.ref x) [.str "__class__" tk] [] _ (by decide +kernel) (by decide +kernel) isb (PySem.F.args_bexc_ga (.ref x) (.str "__class__" tk)) ?_
  unfold Builtin.«object.__getattribute__»
  refine wpAny_bind (wpAny_of_eq (a := ((Value.ref x : Value), [Value.str "__class__" tk])) (by first | rfl | (simp only [slotArgs]; rfl)) ?_)
  refine wpAny_bind (wpAny_pure (wpAny_bind (t0.at (wpAny_bind (t3.at ?_)))))
  show wpAny _ _ (holding [Value.builtin "object.__class__"] (call (.builtin "getset_descriptor.__get__") [.builtin "object.__class__", .ref x, .ref D]) >>= ret) _ _ _
  refine wpAny_bind (wpAny_holding (wpAny_call (class_get (s := ⟨hh, gs, dr, tk + 1, os⟩) (ox := ox) (od := od) kin at0 c.hm ?_)))
  refine wpAny_pure ?_
  show wpAny _ _ (handedOut (.ref D)) _ _ _
  rw [handedOut_of (v := .ref D) rfl]
  first
    | exact wpAny_pure (wpAny_pure h)
    | exact wpAny_pure h
    | exact wpAny_pure (wpAny_bind (wpAny_pure (wpAny_pure h)))
theorem kit_exc (c : L2.ExcC K D) : KitX K (.ref x) (.ref D) (fun h => InstAt h x ox D od) := by
  obtain ⟨cd, hcd, _⟩ := any_some c.hd
  obtain ⟨o, ho, hdo⟩ : ∃ o, K.lookup D = some o ∧ o.data = .cls cd := by
    unfold clsIn at hcd
    split at hcd
    · rename_i c' d' cd' sl' hk
      cases hcd
      exact ⟨_, hk, rfl⟩
    · cases hcd
  obtain ⟨oc, odd, oda, osl⟩ := o
  dsimp only at hdo
  subst hdo
  refine { ty := fun _ _ _ J => J.type, it := fun _ _ kin _ => ?_, ne := fun h tp dd its n sl kin htp => ?_, ca := fun kin J k => exc_class c kin J k }
  · intro A' Q' E' s' kp q
    unfold isType loadHead
    exact wpAny_bind (wpAny_loadPart (kp _ _ (kin _ _ ho)) (wpAny_pure q))
  · refine Bool.eq_false_iff.mpr fun q => ?_
    have e : D = tp := Value.ref.inj (beq_iff_eq.mp q)
    subst e
    have z := (kin _ _ ho).symm.trans htp
    cases z
end
end WG
namespace WG
open PySem PySem.Spec PyProof.Rows L2
/-- isinstance(e, c), e the caught exception at a with its own dict -/
def rIsD (K : PySem.W.Frag) (a : Addr) (cls : Value) (d : Option Addr) : List V → Hp → VK → Prop := fun xs H Q => ∃ (D dd : Addr) (fs : List (Str × V)) (c : V) (cv : Value) (b : Bool), cls = .ref D ∧ d = some dd ∧ H dd = some (.xd fs) ∧ ExcC K D ∧
  xs = [.ref a, c] ∧ (∀ u, RelV c u → u = cv) ∧ PySem.W.kitOne K (.ref D) cv = some b ∧ Q (.bl b) H
theorem call_isD {X : Cx} {a : Addr} {oe : Obj} {cls : Value} {d : Option Addr} {pn : List (Addr × Obj)} (hz : Zc cls d oe) (hf : ∃ vs, oe.data = .fields vs) : CallR (X.suite a ((a, oe) :: pn)) (.builtin "isinstance") (rIsD X.K a cls d) := by
  intro pins s σ H xs us Q I r h
  obtain ⟨D, dd, fs, cl, cv, b, rfl, rfl, hx, c, rfl, hcv, e, q⟩ := h
  cases r with
  | cons rx rr =>
    cases rr with
    | cons rt rr =>
      cases rr
      cases rx
      have ec := hcv _ rt
      subst ec
      obtain ⟨hget, _⟩ := I.pin (a, oe) (List.mem_append.mpr (.inl List.mem_cons_self))
      obtain ⟨vs, hv⟩ := hf
      obtain ⟨mA, hns, _⟩ := I.hok dd _ hx
      obtain ⟨od, ho, _⟩ := lookIn_ns hns
      have J : PySem.W.InstAt s.heap a oe D (some od) := ⟨hget, hz.1, by unfold PySem.W.notCls; rw [hv] <;> rfl, by rw [hz.2]; exact ho⟩
      exact PySem.W.kia_one (kit_exc c) I.kIn J e (fun z => nomatch z) fun tk => ⟨.bl b, H, I.kept (t' := tk) fun _ _ z => z, rfl, q⟩
end WG

set_option Elab.async false
set_option linter.all false
set_option maxRecDepth 100000
set_option maxHeartbeats 4000000
namespace WB
open PySem PySem.Spec PyProof.Rows L2 WG
open TL (tl)
/-! ### a call of a local name within a try -/
def tCallLS (i : Nat) (f : Addr) (sp : Sp) (E : L2.St → XK) (t : TA) : TE := fun σ H Q => σ[i]? = some (some (.ref f)) ∧ t σ H fun vs H1 => sp vs H1 Q (E σ)
theorem pe_callLS {X : Cx} {CX : CXT} {k i : Nat} {f : Addr} {fd : FuncData} {ps : List Str} {sp : Sp} {E : L2.St → XK} {nm : Str} {p pos : Pos} {e : Expr} {es : List Expr} {t : TA}
    (G : FnOk X.prog X.w X.K X.mg X.base CX k f fd ps sp) (room : Room k X.A) (at_ : X.N[i]? = some nm) (vis : Vis X.env.scope nm) (kp : PySem.W.keepIn X.K (.ref f) = true) (bnd : Binds X.K fd ps []) (out : ∀ σ, PassesAt CX X σ (E σ)) (args : PA X (e :: es) t)
    (n1 : (nm == ("__debug__" : Str)) = false := by decide) (n2 : (nm == ("__classdict__" : Str)) = false := by decide)
    (s1 : starEach (e :: es) X.env = (false, eval e X.env) :: starEach es X.env := by rfl) (s2 : (backTo pos (starEach es X.env)).any (·.1) = false := by rfl) : PE X (.Call (.Name nm p) (e :: es) [] pos) (tCallLS i f sp E t) := by
  constructor
  intro pins st σ H want inv ask
  refine wpAny_Call_Name_kw (thn ((pe_var (pos := p) at_ vis n1 n2).run pins st σ H (fun v H1 => v = .ref f ∧ H1 = H) inv ⟨.ref f, ask.1, rfl, rfl⟩) fun u st1 got => ?_)
  obtain ⟨v, H1, inv1, rel, rfl, rfl⟩ := got
  cases rel
  exact PySem.W.callWith_K (h₀ := X.base) inv.ok.mod.kin kp (thn (args.run pos pins st1 σ _ _ inv1 ask.2) fun us st2 ⟨vs, H2, inv2, rels, q⟩ => ⟨inv2.kIn, run_fnS G room bnd (out σ) inv2 rels q⟩) s1 s2
/-! ### dict(d) of a dict of the module -/
inductive EntAll (P : Params) : List DictEntry → List (Key × V) → Prop
  | nil : EntAll P [] []
  | cons {hs : Int} {x : Str} {t : Tok} {u : Value} {v : V} {es : List DictEntry} {kvs : List (Key × V)} : hs = PyData.keyHash P x → RelV v u → EntAll P es kvs → EntAll P (⟨hs, .str x t, u⟩ :: es) ((Sum.inr x, v) :: kvs)
theorem EntAll.vals {P : Program} {w : World} {es : List DictEntry} {kvs : List (Key × V)} (h : EntAll w.params es kvs) : ∃ vs : List (Key × Value), KV kvs vs ∧ Pairs (mixKind P w) es vs ∧ (∀ e ∈ es, ∃ k, (mixKind P w).is k e.key = true ∧ e.hash = (mixKind P w).hash k) ∧ vs.map (·.1) = kvs.map (·.1) := by
  induction h with
  | nil => exact ⟨[], .nil, .nil, (fun e he => by cases he), rfl⟩
  | @cons hs x t u v es kvs eh rel _ ih =>
    obtain ⟨vs, h1, h2, h3, h4⟩ := ih
    have is1 : (mixKind P w).is (Sum.inr x) (.str x t) = true := strKind_is P w x t
    refine ⟨(Sum.inr x, u) :: vs, .cons ⟨rfl, rel⟩ h1, .cons is1 rfl h2, fun e he => ?_, by rw [List.map_cons, List.map_cons, h4]⟩
    rcases List.mem_cons.mp he with r | r
    · subst r
      exact ⟨Sum.inr x, is1, eh⟩
    · exact h3 e r
/-- a dict that the module has written -/
def KDic (K : PySem.W.Frag) (w : World) (a : Addr) (kvs : List (Key × V)) : Prop :=
  ∃ es n, K.lookup a = some ⟨.type "dict", none, .dict es n, #[]⟩ ∧ (a == sysModules) = false ∧ EntAll w.params es.toList kvs ∧ (kvs.map (·.1)).Nodup ∧ kvs.length ≤ 1000
theorem call_dictK {X : Cx} : CallR X (.type "dict") (fun xs H Q => ∃ (a : Addr) (kvs : List (Key × V)), xs = [.ref a] ∧ KDic X.K X.w a kvs ∧ ∀ p, H p = none → Q (.ref p) (upd H p (.dK kvs))) := by
  intro pins s σ H xs us want I rels ask
  obtain ⟨a, kvs, rfl, ⟨es, n, look, low, ent, nd, len⟩, q⟩ := ask
  obtain ⟨u, rfl, rel⟩ := vals1 rels
  cases rel
  obtain ⟨vs, kv, prs, keys, same⟩ := ent.vals (P := X.prog)
  have dd : s.heap.DictOf (mixKind X.prog X.w) a vs := ⟨_, es, n, I.kIn _ _ look, ⟨rfl, rfl, rfl⟩, rfl, fun e he => keys e (Array.mem_toList_iff.mpr he), prs, by rw [same]; exact nd⟩
  have lv : vs.length ≤ sizeLine := by
    have h := congrArg List.length same
    rw [List.length_map, List.length_map] at h
    rw [h]
    exact Nat.le_trans len (by decide)
  have lk : kvs.length ≤ sizeLine := Nat.le_trans len (by decide)
  refine kt_call_dict low dd lv fun h2 d2 sb => ?_
  have ns : (s.heap.objs.size == sysModules) = false := beq_eq_false_iff_ne.mpr (Nat.ne_of_gt I.big)
  have laid : ∀ b o, s.heap.get? b = some o → h2.get? b = some o := fun b o e => (sb.2 b (Nat.ne_of_lt (Heap.lt_size e))).trans (Heap.get?_push_of_some _ e)
  have ob : ObjOk X.prog X.w (upd H s.heap.objs.size (.dK kvs)) h2 s.heap.objs.size (.dK kvs) := ⟨lk, ns, vs, kv, d2⟩
  exact ⟨.ref s.heap.objs.size, _, I.laid (t' := s.toks) laid (Nat.le_refl _) ob, rfl, q _ (I.hok.fresh (Nat.le_refl _))⟩
/-! ### Unmade -/
/-- Unmade, as the written part tells it -/
structure ErrT (K : PySem.W.Frag) (mg : Str → Option Value) (x : Str) (C fI : Addr) (fd : FuncData) : Prop where
  o : OexC K C
  i : PySem.W.findIn K (.ref C) "__init__" = some (some (.ref fI))
  t : PySem.W.typeIn K (.ref fI) = some (.type "function")
  nf : PySem.W.findIn K (.ref C) "why" = some none
  g : mg x = some (.ref C)
  b : Binds K fd ["self", "why"] []
abbrev st_Unmade_init : Stmt := inClass (topS 2) 0
theorem sc_Unmade_init : FnScope ["self", "why"] ["self", "why"] (defScope st_Unmade_init) := ⟨rfl, rfl, rfl, by decide +kernel, rfl, by decide +kernel, by decide +kernel⟩
abbrev st_err := st_Unmade_init
abbrev sc_err := sc_Unmade_init
abbrev ErrD (K : PySem.W.Frag) (f : Addr) (fd : FuncData) : Prop := FunD K "__init__" "Unmade.__init__" (defArgs st_err) (defBody st_err) (defScope st_err) [.str (Str.ofString "")] [] f fd
theorem err_b2 {K : PySem.W.Frag} {f : Addr} {fd : FuncData} (F : ErrD K f fd) : Binds K fd ["self", "why"] [] := by
  obtain ⟨ds, hv, b⟩ := F.binds1 (ps := ["self", "why"]) 2 1 (by simp) rfl (fun T kV doc pm an cdv ct us its h1 h2 => match us, its, h1, h2 with | [_, _], [_], _, _ => ⟨_, rfl, rfl⟩)
  cases hv
  exact b
section
variable {P : Program} {w : World} {K : PySem.W.Frag} {mg : Str → Option Value} {base : Heap}
def spErr (C : Addr) : Sp := fun vs H Q _ => ∃ (a : Addr) (y : V), vs = [.ref a, y] ∧ H a = some (exo a C none) ∧ ∀ dx, H dx = none → dx ≠ a → Q .non (upd (upd H dx (exd dx [(("why" : Str), y)])) a (exo a C (some dx)))
theorem ok_err {C f : Addr} {fd : FuncData} {x : Str} {k : Nat} (F : ErrD K f fd) (T : ErrT K mg x C f fd) : FnOk P w K mg base CX0 (k + 1) f fd ["self", "why"] (spErr C) := by
  refine F.ok sc_err (fun vs H Q E h => ?_) (fun cdv A outer s H vs Q E hr h => ?_)
  · obtain ⟨a, y, rfl, _⟩ := h
    rfl
  · obtain ⟨a, y, rfl, ea, q⟩ := h
    refine ⟨_, pss_one (ps_ost (pv 0) (pv 1)), ?_⟩
    exact ⟨y, rfl, .ref a, rfl, a, C, rfl, T.o, T.nf, .inl ⟨ea, fun dx n ne => q dx n ne⟩⟩
/-- the way out by a raised error -/
theorem err_out {C : Addr} {y : V} {H : Hp} {E : XK} (h : ∀ H' d, Same H H' → H d = none → H' d = some (.xd [(("why" : Str), y)]) → E (.ref C) (some d) H') (a : Addr) (na : H a = none) :
    spErr C [.ref a, y] (upd H a (exo a C none)) (fun v H2 => v = .non ∧ ∃ (d : Addr) (fs : List (Str × V)), H2 a = some (exo a C (some d)) ∧ H2 d = some (exd d fs) ∧ H d = none ∧ E (.ref C) (some d) (upd (del H2 a) d (.xd fs))) (fun _ _ _ => False) := by
  refine ⟨a, y, rfl, upd_same, fun dx ndx ne => ⟨rfl, dx, [(("why" : Str), y)], upd_same, ?_, ?_, ?_⟩⟩
  · rw [upd_ne ne, upd_same]
  · rw [upd_ne ne] at ndx
    exact ndx
  · rw [upd_ne ne] at ndx
    refine h _ dx (fun b o e => ?_) ndx upd_same
    have nb : b ≠ dx := ne_of_none e ndx
    have nba : b ≠ a := ne_of_none e na
    rw [upd_ne nb, del_ne nba, upd_ne nba, upd_ne nb, upd_ne nba]
    exact e
theorem why_look {v : V} : List.lookup ("why" : Str) [(("why" : Str), v)] = some v := by simp [List.lookup]
/-- what may be asked of a caught Unmade -/
structure CaughtT (K : PySem.W.Frag) (CU BE : Addr) : Prop where
  x : XfC K CU
  c : ExcC K CU
  e : PySem.W.exmOne K (.ref CU) (.ref CU) = some true
  v : PySem.W.kitOne K (.ref CU) (.type "ValueError") = some true
  b : PySem.W.kitOne K (.ref CU) (.ref BE) = some false
end
theorem kit_subT {K : PySem.W.Frag} {a : Addr} {T : String} {b : Bool} (hm : PySem.W.kitMeta T = true) (h : PySem.W.subIn K (.ref a) (.type T) = some b) : PySem.W.kitOne K (.ref a) (.type T) = some b := by
  unfold PySem.W.kitOne
  rw [if_neg (by intro z; cases z)]
  unfold PySem.W.kitCls
  dsimp only
  rw [if_pos hm]
  exact h
theorem kit_subR {K : PySem.W.Frag} {a c : Addr} {b : Bool} (h1 : PySem.W.hasDictIn K c = true) (h2 : PySem.W.typeIn K (.ref c) = some (.type "type")) (h3 : PySem.W.subIn K (.ref a) (.ref c) = some b) (h4 : PySem.W.subIn K (.ref a) (.ref a) = some true) : PySem.W.kitOne K (.ref a) (.ref c) = some b := by
  obtain ⟨cd, hc, _⟩ := PySem.W.any_some h1
  unfold PySem.W.kitOne
  split
  · rename_i e
    have e2 : a = c := Value.ref.inj (beq_iff_eq.mp e)
    subst e2
    rw [h4] at h3
    exact h3
  · unfold PySem.W.kitCls
    dsimp only
    have e : ((PySem.W.clsIn K c).isSome && PySem.W.typeIn K (.ref c) == some (.type "type")) = true := by rw [hc, h2] <;> rfl
    rw [if_pos e]
    exact h3
end WB

set_option Elab.async false
set_option linter.all false
set_option maxRecDepth 100000
set_option maxHeartbeats 4000000
namespace WB
open PySem PySem.Spec PyProof.Rows L2 WG
open TL (tl)
abbrev st_are_figures : Stmt := topS 8
theorem sc_are_figures : FnScope ["text", "base", "most", "sign"] ["text", "base", "most"] (defScope st_are_figures) := ⟨rfl, rfl, rfl, by decide +kernel, rfl, by decide +kernel, by decide +kernel⟩
def figS : Str := Str.ofString "0123456789abcdef"
def figL : List Nat := [48, 49, 50, 51, 52, 53, 54, 55, 56, 57, 97, 98, 99, 100, 101, 102]
theorem figS_tl : tl figS = figL := by decide +kernel
theorem figS_len : figS.length = 16 := by decide +kernel
def figsOk (cs : List Nat) (b m : Nat) : Bool := (decide (1 ≤ cs.length) && decide (cs.length ≤ m)) && cs.all fun c => decide (c ∈ figL.take b)
section
variable {P : Program} {w : World} {K : PySem.W.Frag} {mg : Str → Option Value} {base : Heap}
def spFigs : Sp := fun vs H Q _ => ∃ (z : Str) (b m : Nat), vs = [.str z, .int (b : Int), .int (m : Int)] ∧ z.length ≤ 900 ∧ ∀ H', Same H H' → Q (.bl (figsOk (tl z) b m)) H'
theorem ok_figs {f : Addr} {fd : FuncData} {u : Tok} {k : Nat} (F : Fun K "are_figures" "are_figures" st_are_figures f fd) (m_len : mg "len" = none) (m_all : mg "all" = none) (c_FIGURES : mg "FIGURES" = some (.str figS u)) :
    FnOk P w K mg base CX0 (k + 1) f fd ["text", "base", "most"] spFigs := by
  refine F.ok sc_are_figures (fun vs H Q E h => ?_) (fun cdv A outer s H vs Q E hr h => ?_)
  · obtain ⟨z, b, m, rfl, _⟩ := h
    rfl
  · obtain ⟨z, b, m, rfl, hz, q⟩ := h
    refine ⟨_, pss_one (ps_ret (pe_and (pe_chain op_le op_le pe_int (pe_callB call_len_str (by rfl) m_len PySem.boot_len (pa_cons (pv 0) pa_nil)) (pv 2)) (pe_one (pe_callB (cr_all rfl) (by rfl) m_all (by decide +kernel) (pa_cons (pe_lc (own := [("sign", 3)]) (g := gName 3) (tt := tYes) rfl sc_are_figures.nd (pi_str (pv 0)) (blkOk_by (N := ["text", "base", "most", "sign"]) (sc := defScope st_are_figures) (by decide +kernel)) (fun _ _ _ _ _ => (pg_name (i := 3) sc_are_figures.nd rfl (Or.inl rfl))) (fun _ _ _ _ _ => pts_nil) (fun _ _ _ _ _ => (pe_cmpR op_in_sign (pv 3) (pe_slice sl_str (pe_glob (v := .str figS) rfl c_FIGURES ⟨_, rfl⟩) po_none (po_some (pv 1))) (by rfl)))) pa_nil))))), ?_⟩
    have hzl : z.length ≤ sizeLine := Nat.le_of_lt (small1000 (by omega))
    have ez := TL.len_tl z
    have esz : z.cps.size = (tl z).length := by simp
    unfold figsOk at q
    refine ⟨.str z, rfl, z, rfl, hzl, 1, _, rfl, rfl, _, rfl, ite2 (fun e => ?_) (fun e => ?_)⟩
    · have e1 : 1 ≤ (tl z).length := by
        have := of_decide_eq_true e
        omega
      rw [decide_eq_true e1, Bool.true_and] at q
      refine ⟨.int (m : Int), rfl, _, _, rfl, rfl, _, rfl, ite2 (fun e2 => ?_) (fun e2 => ?_)⟩
      · have e3 : (tl z).length ≤ m := by
          have := of_decide_eq_true e2
          omega
        rw [decide_eq_true e3, Bool.true_and] at q
        refine ⟨.str z, rfl, z, rfl, fun D nD => ?_⟩
        refine lc_it walk_str (fun i Hc => Same H Hc ∧ i ≤ (tl z).length ∧ Hc D = some (.lst ((((tl z).take i).map fun c => decide (c ∈ figL.take b)).map V.bl))) ⟨same_upd nD, Nat.zero_le _, upd_same⟩ (fun _ _ _ _ => True.intro) (fun i x Hc H' hi ⟨sc, hle, eD⟩ ⟨eH, c, ec, ex⟩ => ?_) (fun Hc ⟨sc, hle, eD⟩ => ?_)
        · subst eH ex
          have ec' : (tl z)[i]? = some c := by
            rw [Array.getElem?_toList]
            exact ec
          have et : (tl z).take (i + 1) = (tl z).take i ++ [c] := by
            rw [List.take_add_one, ec']
            rfl
          refine ⟨rfl, .str ⟨#[c]⟩, rfl, .int (b : Int), rfl, (b : Int), rfl, figS, rfl, by rw [figS_len]; decide, c, _, rfl, rfl, _, eD, ?_, ?_, by omega, ?_⟩
          · rw [List.length_map, List.length_map, List.length_take]
            exact small1000 (by omega)
          · intro a o e4
            rw [upd_ne (ne_of_none e4 nD)]
            exact sc a o e4
          · rw [upd_same, et, List.map_append, List.map_append]
            have ecut : (cutS figS none (some (b : Int))).cps.toList = figL.take b := by
              rw [← figS_tl]
              exact tl_cut_to figS b
            rw [ecut]
            rfl
        · rw [esz, List.take_length] at eD
          refine ⟨D, _, rfl, SqL.of eD, ?_⟩
          rw [show (((tl z).map fun c => decide (c ∈ figL.take b)).all id) = (tl z).all (fun c => decide (c ∈ figL.take b)) from by rw [List.all_map]; rfl]
          exact q _ sc
      · have e3 : ¬ (tl z).length ≤ m := fun h => e2 (decide_eq_true (by omega))
        rw [decide_eq_false e3, Bool.false_and] at q
        exact q _ (Same.refl _)
    · have e1 : ¬ 1 ≤ (tl z).length := fun h => e (decide_eq_true (by omega))
      rw [decide_eq_false e1, Bool.false_and, Bool.false_and] at q
      exact ⟨_, rfl, q _ (Same.refl _)⟩
end
/-! ### makers of whole numbers -/
/-- a maker tells just the number that g tells of the signs, or raises Unmade -/
def spInt (CU : Addr) (g : List Nat → Option Int) : Sp := fun vs H Q E => ∃ z : Str, vs = [.str z] ∧ Tq B8 60 z ∧ (∀ i, g (tl z) = some i → ∀ H', Same H H' → Q (.int i) H') ∧
  (g (tl z) = none → ∀ (y : Str) H' d, Same H H' → H d = none → H' d = some (.xd [(("why" : Str), .str y)]) → E (.ref CU) (some d) H')
end WB

set_option Elab.async false
set_option linter.all false
set_option maxRecDepth 100000
set_option maxHeartbeats 4000000
namespace WB
open PySem PySem.Spec PyProof.Rows L2 WG
open TL (tl)
abbrev st_own_makers : Stmt := topS 16
theorem sc_own_makers : FnScope [] [] (defScope st_own_makers) := ⟨rfl, rfl, rfl, by decide +kernel, rfl, by decide +kernel, by decide +kernel⟩
abbrev st_made : Stmt := topS 22
theorem sc_made : FnScope ["_law_maker", "_law_word_here", "_law_told", "e"] ["_law_maker", "_law_word_here"] (defScope st_made) := ⟨rfl, rfl, rfl, by decide +kernel, rfl, by decide +kernel, by decide +kernel⟩
def ownKvs (T1 T2 T3 T4 T5 T6 : Addr) : List (Key × V) := [(Sum.inr (Str.ofString "word"), .ref T1), (Sum.inr (Str.ofString "whole"), .ref T2), (Sum.inr (Str.ofString "based"), .ref T3), (Sum.inr (Str.ofString "yesno"), .ref T4), (Sum.inr (Str.ofString "pair"), .ref T5), (Sum.inr (Str.ofString "list"), .ref T6)]
/-- what is told of a number, or of none -/
def toldI : Option Int → List V
  | some i => [.str (Str.ofString "value"), .int i]
  | none => [.str (Str.ofString "unmade"), .bl true, .bl true, .bl false]
def datI : Option Int → List PyData
  | some i => [.str (Str.ofString "value"), .int i]
  | none => [.str (Str.ofString "unmade"), .bool true, .bool true, .bool false]
theorem toldI_dp {K : PySem.W.Frag} {H : Hp} (o : Option Int) : DpAll K H (toldI o) (datI o) := by
  cases o with
  | none => exact .cons (.str _) (.cons (.bl _) (.cons (.bl _) (.cons (.bl _) .nil)))
  | some i => exact .cons (.str _) (.cons (.int _) .nil)
theorem datI_shaped (o : Option Int) : SeqAt.shaped (.tuple (datI o)) = true := by
  cases o with
  | none => decide +kernel
  | some i =>
    have h : PyData.strOk (Str.ofString "value") = true := by decide +kernel
    unfold SeqAt.shaped datI
    simp [PyData.canLay0, PyData.canLayAll0, PyData.depth, PyData.depthAll, h]
theorem datI_eqv (o : Option Int) : PyData.eqv (.tuple (datI o)) (.tuple (datI o)) = true := by
  cases o with
  | none => decide +kernel
  | some i => simp [PyData.eqv, PyData.eqvAll, datI]
def tSuite (K : PySem.W.Frag) (CU BE : Addr) : Addr → Value → Option Addr → TS := fun a cls d => tAsg (tTup (tCons (tC (.str (Str.ofString "unmade"))) (tCons (tCB (rIsi K) (tCons (tXf a cls d CU "why" (tVar 3)) (tCons (tC (.ty "str")) tNil))) (tCons (tCB (rIsD K a cls d) (tCons (tVar 3) (tCons (tC (.ty "ValueError")) tNil))) (tCons (tCB (rIsD K a cls d) (tCons (tVar 3) (tCons (tC (.ref BE)) tNil))) tNil))))) (gName 2)
section
variable {P : Program} {w : World} {K : PySem.W.Frag} {mg : Str → Option Value} {base : Heap}
def spOwn (kvs : List (Key × V)) : Sp := fun vs H Q _ => vs = [] ∧ ∀ H' o, Same H H' → H o = none → H' o = some (.dK kvs) → Q (.ref o) H'
theorem ok_own {f aO : Addr} {fd : FuncData} {kvs : List (Key × V)} {k : Nat} (F : Fun K "own_makers" "own_makers" st_own_makers f fd) (m_dict : mg "dict" = none) (c_OWN : mg "OWN_MAKERS" = some (.ref aO)) (hO : KDic K w aO kvs) :
    FnOk P w K mg base CX0 (k + 1) f fd [] (spOwn kvs) := by
  refine F.ok sc_own_makers (fun vs H Q E h => ?_) (fun cdv A outer s H vs Q E hr h => ?_)
  · obtain ⟨rfl, _⟩ := h
    rfl
  · obtain ⟨rfl, q⟩ := h
    refine ⟨_, pss_one (ps_ret (pe_callTy call_dictK (by rfl) m_dict (by decide +kernel) (pa_cons (pe_glob (v := .ref aO) rfl c_OWN rfl) pa_nil))), ?_⟩
    exact ⟨aO, kvs, rfl, hO, fun p np => q _ p (same_upd np) np upd_same⟩
def spLMade (fM : Addr) (g : List Nat → Option Int) : Sp := fun vs H Q _ => ∃ z : Str, vs = [.ref fM, .str z] ∧ Tq B8 60 z ∧ ∀ H' p, Same H H' → H p = none → H' p = some (.tup (toldI (g (tl z)))) → Q (.ref p) H'
theorem ok_lmade {CU BE f fM fE : Addr} {fd fdM fdE : FuncData} {g : List Nat → Option Int} {k : Nat} (F : Fun K "_law_made" "_law_made" st_made f fd) (G_maker : FnOk P w K mg base (L2.CX P w) k fM fdM ["word"] (spInt CU g)) (kpM : PySem.W.keepIn K (.ref fM) = true) (bM : Binds K fdM ["word"] [])
    (TE : ErrT K mg "Unmade" CU fE fdE) (CT : CaughtT K CU BE) (gB : mg "BenchError" = some (.ref BE)) (m_isinstance : mg "isinstance" = none) (m_str : mg "str" = none) (m_ValueError : mg "ValueError" = none) :
    FnOk P w K mg base CX0 (k + 1) f fd ["_law_maker", "_law_word_here"] (spLMade fM g) := by
  refine F.ok sc_made (fun vs H Q E h => ?_) (fun cdv A outer s H vs Q E hr h => ?_)
  · obtain ⟨z, rfl, _⟩ := h
    rfl
  · obtain ⟨z, rfl, tz, q⟩ := h
    refine ⟨_, PSs.nox (pss_cons (ps_set (i := 2) sc_made.nd rfl (.inl rfl) (pe_tup (pa_cons pe_str pa_nil)))
      (pss_cons (ps_try_as (i := 3) (tb := fun W => tAsg (tTup (tCons (tC (.str (Str.ofString "value"))) (tCons (tCallLS 0 fM (spInt CU g) (WE W) (tCons (tVar 1) tNil)) tNil))) (gName 2)) (ts := tSuite K CU BE) (Wout := fun _ _ _ _ => False) rfl rfl sc_made.nd rfl rfl ⟨rfl, by decide, Or.inl TE.g⟩ takes0
          (fun W pn xe tk _ => pss_one (ps_set (i := 2) sc_made.nd rfl (Or.inl rfl) (by exact (pe_tup (pa_cons pe_str (pa_cons (pe_callLS G_maker hr rfl (by first | exact .inl rfl | exact .inr (.inl rfl)) kpM bM (fun σ => passAt tk σ) (by exact (pa_cons (pv 1) pa_nil))) pa_nil))))))
          (fun a oe cls d pn hz hf => pss_one (ps_set (i := 2) sc_made.nd rfl (Or.inl rfl) (by exact (pe_tup (pa_cons pe_str (pa_cons (pe_callB (id := "isinstance") (r := rIsi K) call_isi (by rfl) m_isinstance (by decide +kernel) (pa_cons (pe_xf CT.x TE.nf hz hf (pv 3)) (pa_cons (pe_bltn (v := .ty "str") (by rfl) m_str (by decide +kernel) rfl) pa_nil)))
            (pa_cons (pe_callB (call_isD hz hf) (by rfl) m_isinstance (by decide +kernel) (pa_cons (pv 3) (pa_cons (pe_bltn (v := .ty "ValueError") (by rfl) m_ValueError (by decide +kernel) rfl) pa_nil)))
            (pa_cons (pe_callB (call_isD hz hf) (by rfl) m_isinstance (by decide +kernel) (pa_cons (pv 3) (pa_cons (pe_glob (v := .ref BE) rfl gB rfl) pa_nil))) pa_nil)))))))))
      (pss_one (ps_ret (pv 2))))), ?_⟩
    refine ⟨by show 1 ≤ sizeLine; decide, fun t0 n0 => ?_⟩
    first | refine go n0 fun H1 s1 e1 => ?_ | refine goT n0 fun H1 s1 e1 => ?_
    refine ⟨rfl, .str z, rfl, z, rfl, tz, fun i hi H2 s2 => ?_, fun hg y H2 d s2 nd ed => ⟨true, CT.e, fun _ a0 na0 => ?_, fun r => Bool.noConfusion r⟩⟩
    · refine ⟨by show 2 ≤ sizeLine; decide, fun p np => ?_⟩
      refine ⟨_, rfl, q _ p ((s1.trans s2).trans (same_upd np)) ((s1.trans s2).free np) ?_⟩
      rw [hi]
      exact upd_same
    · refine ⟨.ref a0, rfl, rfl, rfl, d, _, .str y, rfl, ed, why_look, .str y, _, _, _, true, rfl, ClsV.ty "str", TyX.base (TyOf.str _), kit_ty (by decide +kernel), ?_⟩
      refine ⟨.ref a0, rfl, CU, d, _, .ty "ValueError", .type "ValueError", true, rfl, rfl, ed, CT.c, rfl, fun u hu => hu, CT.v, ?_⟩
      refine ⟨.ref a0, rfl, CU, d, _, .ref BE, .ref BE, false, rfl, rfl, ed, CT.c, rfl, fun u hu => hu, CT.b, ?_⟩
      refine ⟨by show 4 ≤ sizeLine; decide, fun p np => ?_⟩
      refine ⟨_, rfl, q _ p ((s1.trans s2).trans (same_upd np)) ((s1.trans s2).free np) ?_⟩
      rw [hg]
      exact upd_same
end
end WB

set_option Elab.async false
set_option linter.all false
set_option maxRecDepth 100000
set_option maxHeartbeats 4000000
namespace WB
open PySem PySem.Spec PyProof.Rows L2 WG
open TL (tl)
/-! ### int(t, b), b one of 2, 8, 16 -/
section
open PySem.NumText PySem.Calls
def fv (c : Nat) : Nat := if c ≤ 57 then c - 48 else c - 87
def figNum (b : Nat) (l : List Nat) : Nat := l.foldl (fun a c => a * b + fv c) 0
def BaseOk (b : Nat) : Prop := b = 2 ∨ b = 8 ∨ b = 16
theorem fig_low {b c : Nat} (h : c ∈ figL.take b) : c ∈ figL := List.mem_of_mem_take h
theorem fig_rng {c : Nat} (h : c ∈ figL) : 48 ≤ c ∧ c ≤ 102 ∧ c ≠ 95 := (by decide : ∀ c ∈ figL, 48 ≤ c ∧ c ≤ 102 ∧ c ≠ 95) c h
theorem fig_digit {c : Nat} (h : c ∈ figL) : digit? c = some (fv c) := (by decide : ∀ c ∈ figL, digit? c = some (fv c)) c h
theorem fig_lt {b c : Nat} (hb : BaseOk b) (h : c ∈ figL.take b) : fv c < b := by
  rcases hb with rfl | rfl | rfl
  · exact (by decide : ∀ c ∈ figL.take 2, fv c < 2) c h
  · exact (by decide : ∀ c ∈ figL.take 8, fv c < 8) c h
  · exact (by decide : ∀ c ∈ figL.take 16, fv c < 16) c h
theorem fig_step {b : Nat} {ds : Array Nat} {q : Bool} {c : Nat} (hb : BaseOk b) (h : c ∈ figL.take b) : PySem.NumText.step b (ds, q) c = some (ds.push (fv c), true) := by
  have r := fig_rng (fig_low h)
  unfold PySem.NumText.step
  rw [if_neg (fun z => r.2.2 (beq_iff_eq.mp z)), fig_digit (fig_low h)]
  exact if_pos (fig_lt hb h)
theorem fig_steps {b : Nat} (hb : BaseOk b) : ∀ (cs : List Nat) (ds : Array Nat), (∀ c ∈ cs, c ∈ figL.take b) → cs.foldlM (PySem.NumText.step b) (ds, true) = some (cs.foldl (fun acc c => acc.push (fv c)) ds, true)
  | [], _, _ => rfl
  | c :: cs, ds, h => by
    rw [List.foldlM_cons, fig_step hb (h c List.mem_cons_self)]
    exact fig_steps hb cs (ds.push (fv c)) fun d hd => h d (List.mem_cons_of_mem _ hd)
theorem fig_digits {b : Nat} (hb : BaseOk b) {cs : List Nat} (h : ∀ c ∈ cs, c ∈ figL.take b) (hne : cs ≠ []) : digits? b cs = some (cs.foldl (fun acc c => acc.push (fv c)) #[]) := by
  match cs, hne with
  | c :: r, _ =>
    unfold digits?
    rw [List.foldlM_cons, fig_step hb (h c List.mem_cons_self)]
    show (r.foldlM (PySem.NumText.step b) ((#[] : Array Nat).push (fv c), true)).bind _ = _
    rw [fig_steps hb r _ fun d hd => h d (List.mem_cons_of_mem _ hd)]
    rfl
theorem fig_push (b : Nat) : ∀ (cs : List Nat) (ds : Array Nat), (cs.foldl (fun acc c => acc.push (fv c)) ds).foldl (fun acc d => acc * b + d) 0 = cs.foldl (fun a c => a * b + fv c) (ds.foldl (fun acc d => acc * b + d) 0)
  | [], _ => rfl
  | c :: cs, ds => by
    rw [List.foldl_cons, fig_push b cs (ds.push (fv c)), List.foldl_cons]
    congr 1
    simp
theorem fig_noblank {cs : List Nat} (h : ∀ c ∈ cs, c ∈ figL) : cs.dropWhile blank = cs := by
  match cs with
  | [] => rfl
  | c :: r =>
    have := fig_rng (h c List.mem_cons_self)
    exact dropWhile_of (by omega)
theorem fig_sign {cs : List Nat} (h : ∀ c ∈ cs, c ∈ figL) : PySem.NumText.sign cs = (false, cs) := by
  match cs with
  | [] => rfl
  | c :: r =>
    have := fig_rng (h c List.mem_cons_self)
    exact sign_of (by omega) (by omega)
theorem fig_cases {c : Nat} (h : c ∈ figL) : c = 48 ∨ c = 49 ∨ c = 50 ∨ c = 51 ∨ c = 52 ∨ c = 53 ∨ c = 54 ∨ c = 55 ∨ c = 56 ∨ c = 57 ∨ c = 97 ∨ c = 98 ∨ c = 99 ∨ c = 100 ∨ c = 101 ∨ c = 102 := by
  simpa [figL] using h
theorem based16 (x c : Nat) (r : List Nat) (hx : x ∈ figL) (hc : c ∈ figL) : based 16 (x :: c :: r) = (16, false, x :: c :: r) := by
  rcases fig_cases hx with h | h | h | h | h | h | h | h | h | h | h | h | h | h | h | h <;> subst h <;>
  rcases fig_cases hc with h | h | h | h | h | h | h | h | h | h | h | h | h | h | h | h <;> subst h <;> rfl
theorem based8 (x c : Nat) (r : List Nat) (hx : x ∈ figL.take 8) (hc : c ∈ figL.take 8) : based 8 (x :: c :: r) = (8, false, x :: c :: r) := by
  have e : ∀ d ∈ figL.take 8, d = 48 ∨ d = 49 ∨ d = 50 ∨ d = 51 ∨ d = 52 ∨ d = 53 ∨ d = 54 ∨ d = 55 := by decide
  rcases e x hx with h | h | h | h | h | h | h | h <;> subst h <;> rcases e c hc with h | h | h | h | h | h | h | h <;> subst h <;> rfl
theorem based2 (x c : Nat) (r : List Nat) (hx : x ∈ figL.take 2) (hc : c ∈ figL.take 2) : based 2 (x :: c :: r) = (2, false, x :: c :: r) := by
  have e : ∀ d ∈ figL.take 2, d = 48 ∨ d = 49 := by decide
  rcases e x hx with h | h <;> subst h <;> rcases e c hc with h | h <;> subst h <;> rfl
theorem fig_based {b : Nat} (hb : BaseOk b) {cs : List Nat} (h : ∀ c ∈ cs, c ∈ figL.take b) : based b cs = (b, false, cs) := by
  match cs, h with
  | [], _ => rcases hb with rfl | rfl | rfl <;> rfl
  | [x], h =>
    have hx := h x List.mem_cons_self
    rcases hb with rfl | rfl | rfl
    · exact (by decide : ∀ x ∈ figL.take 2, based 2 [x] = (2, false, [x])) x hx
    · exact (by decide : ∀ x ∈ figL.take 8, based 8 [x] = (8, false, [x])) x hx
    · exact (by decide : ∀ x ∈ figL.take 16, based 16 [x] = (16, false, [x])) x hx
  | x :: c :: r, h =>
    have hx := h x List.mem_cons_self
    have hc := h c (List.mem_cons_of_mem _ List.mem_cons_self)
    rcases hb with rfl | rfl | rfl
    · exact based2 x c r hx hc
    · exact based8 x c r hx hc
    · exact based16 x c r hx hc
theorem fig_read {b : Nat} (hb : BaseOk b) {cs : List Nat} (h : ∀ c ∈ cs, c ∈ figL.take b) (hne : cs ≠ []) : (int_private% "readNumeral") 0 b cs = (int_private% "Numeral.value") ((figNum b cs : Nat) : Int) := by
  have hl : ∀ c ∈ cs, c ∈ figL := fun c hc => fig_low (h c hc)
  have hr : ∀ c ∈ cs.reverse, c ∈ figL := fun c hc => hl c (List.mem_reverse.mp hc)
  refine (readNumeral_eq 0 b cs).trans ?_
  rw [fig_noblank hl, fig_sign hl]
  show judge 0 false (based b cs).1 (based b cs).2.1 (digits? (based b cs).1 (((based b cs).2.2.reverse.dropWhile blank).reverse)) = _
  rw [fig_based hb h]
  show judge 0 false b false (digits? b ((cs.reverse.dropWhile blank).reverse)) = _
  rw [fig_noblank hr, List.reverse_reverse, fig_digits hb h hne]
  have z : (#[] : Array Nat).foldl (fun acc d => acc * b + d) 0 = 0 := by simp
  have v := fig_push b cs #[]
  rw [z] at v
  unfold judge figNum
  rw [← v]
  rcases hb with rfl | rfl | rfl <;> rfl
theorem fig_seen {x : Str} (h : ∀ c ∈ x.cps.toList, c ∈ figL) : numTextOf x = x.cps.toList ∧ numSeenOf x = x.cps.toList := by
  have e1 : numTextOf x = x.cps.toList := if_pos (by
    rw [← Array.all_toList, List.all_eq_true]
    exact fun c hc => decide_eq_true (by have := fig_rng (h c hc); omega))
  refine ⟨e1, ?_⟩
  show (numTextOf x).takeWhile _ = _
  rw [e1]
  exact takeWhile_all fun c hc => bne_iff_ne.mpr (by have := fig_rng (h c hc); omega)
theorem fig_gives {b : Nat} (hb : BaseOk b) {x : PySem.Str} {u t : Tok} (hl : x.length ≤ 640) (h : ∀ c ∈ x.cps.toList, c ∈ figL.take b) (hne : x.cps.toList ≠ []) :
    Gives (Builtin.«int.__new__» ⟨[.type "int", .str x u, .int (b : Int) t], []⟩) (.int ((figNum b x.cps.toList : Nat) : Int)) :=
  .of_wp fun M A E s Q hQ => by
    obtain ⟨hp, g, d, tk, os⟩ := s
    have f1 := F.conv_sub_int
    have f2 := F.madeHere_int
    have f6 : typeOf (.str x u) = pure (.type "str") := rfl
    obtain ⟨e1, e2⟩ := fig_seen fun c hc => fig_low (h c hc)
    have k1 : (numSeenOf x).length ≤ 640 := by
      rw [e2, Array.length_toList]
      exact hl
    have k2 : (int_private% "readNumeral") 0 b (numSeenOf x) = (int_private% "Numeral.value") ((figNum b x.cps.toList : Nat) : Int) := by
      rw [e2]
      exact fig_read hb h hne
    have k3 : ((numSeenOf x).length == (numTextOf x).length) = true := by
      rw [e1, e2]
      exact beq_self_eq_true _
    have kk := Hx.Hid.mk (And.intro k1 (And.intro k2 k3))
    clear k1 k2 k3 e1 e2 hl hne h
    rcases hb with rfl | rfl | rfl
    all_goals
      repeat (any_goals (first
        | assumption
        | ((with_reducible show wpAny _ _ ((int_private% "intFromText") _ _ _) _ _ _); refine Hx.wp_textB kk.out.1 kk.out.2.1 kk.out.2.2 ?_)
        | wp_step))
      all_goals first | exact ⟨_, rfl, hQ⟩ | skip
theorem call_int_fig {X : Cx} : CallR X (.type "int") (fun xs H Q => ∃ (z : Str) (b : Nat), xs = [.str z, .int (b : Int)] ∧ BaseOk b ∧ tl z ≠ [] ∧ z.length ≤ 640 ∧ (∀ c ∈ tl z, c ∈ figL.take b) ∧ Q (.int ((figNum b (tl z) : Nat) : Int)) H) := by
  intro pins s σ H xs us Q I rels ask
  obtain ⟨z, b, rfl, hb, hne, hl, hx, q⟩ := ask
  obtain ⟨u, v, rfl, r1, r2⟩ := vals2 rels
  obtain ⟨t1, rfl⟩ := r1
  obtain ⟨t2, rfl⟩ := r2
  exact callType_new PySem.F.called_int PySem.F.newNe_int (Hx.typeCall_int_2 _ _) (Hx.newCall_int_2 _ _) (fun obj => PySem.F.initArgs_range_2 obj _ _) PySem.F.entry_int_new (fig_gives hb hl hx hne).meets
    (show (Made.int ((figNum b (tl z) : Nat) : Int)).post _ s from ⟨rfl, .int ((figNum b (tl z) : Nat) : Int), H, I.tok _, ⟨_, rfl⟩, q⟩)
end
/-! ### a dict of the module, asked -/
theorem KDic.dict {X : Cx} {pins : List (Addr × Obj)} {σ : L2.St} {H : Hp} {s : Shared} {a : Addr} {kvs : List (Key × V)} (h : KDic X.K X.w a kvs) (I : Inv X pins σ H s) : (a == sysModules) = false ∧ ∃ vs, KV kvs vs ∧ s.heap.DictOf (mixKind X.prog X.w) a vs := by
  obtain ⟨es, n, look, low, ent, nd, len⟩ := h
  obtain ⟨vs, kv, prs, keys, same⟩ := ent.vals (P := X.prog)
  exact ⟨low, vs, kv, _, es, n, I.kIn _ _ look, ⟨rfl, rfl, rfl⟩, rfl, fun e he => keys e (Array.mem_toList_iff.mpr he), prs, by rw [same]; exact nd⟩
def rNinK (K : PySem.W.Frag) (w : World) : R2 := fun x y H Q => ∃ (z : Str) (a : Addr) (kvs : List (Key × V)), x = .str z ∧ y = .ref a ∧ KDic K w a kvs ∧ Q (.bl (!(valV kvs (Sum.inr z)).isSome)) H
theorem op_ninK {X : Cx} : OpR X (compareOp .NotIn) (rNinK X.K X.w) := by
  intro pins s σ H x y v u Q I rx ry ask
  obtain ⟨z, a, kvs, rfl, rfl, hd, q⟩ := ask
  obtain ⟨t, rfl⟩ := rx
  cases ry
  obtain ⟨low, vs, kv, dd⟩ := hd.dict I
  have hs : (valueAt vs (Sum.inr z)).isSome = (valV kvs (Sum.inr z)).isSome := by
    have r := kv.val (Sum.inr z)
    cases e1 : valV kvs (Sum.inr z) with
    | none =>
      rw [e1] at r
      rw [RelO.none_of r]
      rfl
    | some w' =>
      rw [e1] at r
      obtain ⟨w2, e2, _⟩ := RelO.some_of r
      rw [e2]
      rfl
  refine wpAny_notIn_of (knd := mixKind X.prog X.w) (k := Sum.inr z) (strKind_is X.prog X.w z t) low dd.mapOf ?_
  rw [hs]
  exact ⟨.bl _, H, I.tok _, rfl, q⟩
def rIxK (K : PySem.W.Frag) (w : World) : R2 := fun x y H Q => ∃ (a : Addr) (z : Str) (kvs : List (Key × V)) (v : V), x = .ref a ∧ y = .str z ∧ KDic K w a kvs ∧ valV kvs (Sum.inr z) = some v ∧ Q v H
theorem ix_K {X : Cx} : IxR X (rIxK X.K X.w) := by
  intro value slice pins s σ H x y v u Q I rx ry ask hs
  obtain ⟨a, z, kvs, r, rfl, rfl, hd, hv, q⟩ := ask
  cases rx
  obtain ⟨t, rfl⟩ := ry
  obtain ⟨low, vs, kv, dd⟩ := hd.dict I
  have rr := kv.val (Sum.inr z)
  rw [hv] at rr
  obtain ⟨w2, e2, rel⟩ := RelO.some_of rr
  exact tail_any dd.mapOf.typeIs slot_dict_getitem.lookup (wpAny_getItem_of (knd := mixKind X.prog X.w) (k := Sum.inr z) (strKind_is X.prog X.w z t) dd.mapOf e2 ⟨r, H, I.tok _, rel, q⟩) hs
end WB

set_option Elab.async false
set_option linter.all false
set_option maxRecDepth 100000
set_option maxHeartbeats 4000000
namespace WB
open PySem PySem.Spec PyProof.Rows L2 WG
open TL (tl)
abbrev st_signs : Stmt := topS 21
theorem sc_signs : FnScope ["_law_letters"] [] (defScope st_signs) := ⟨rfl, rfl, rfl, by decide +kernel, rfl, by decide +kernel, by decide +kernel⟩
abbrev st_word : Stmt := topS 23
theorem sc_word : FnScope ["_law_pot_here", "_law_heads", "_law_head", "_law_signs_here", "_law_many", "_law_figures", "_law_at", "_law_any_sign", "_law_k"] ["_law_pot_here"] (defScope st_word) := ⟨rfl, rfl, rfl, by decide +kernel, rfl, by decide +kernel, by decide +kernel⟩
abbrev st_number : Stmt := topS 24
theorem sc_number : FnScope ["_law_word_here", "_law_base", "_law_found", "_law_sign"] ["_law_word_here"] (defScope st_number) := ⟨rfl, rfl, rfl, by decide +kernel, rfl, by decide +kernel, by decide +kernel⟩
section
variable {P : Program} {w : World} {K : PySem.W.Frag} {mg : Str → Option Value} {base : Heap}
/-! ### the law's words -/
def signs2 : Str := Str.ofString " !\"#$&'()*+,-./0123456789:;<=>?@" ++ Str.ofString "[\\]^_`{|}~abcdefghijklmnopqrstuvwxyzABCDEFGHIJKLMNOPQRSTUVWXYZ"
theorem signs2_ok : 0 < signs2.length ∧ signs2.length ≤ 200 ∧ ∀ c ∈ tl signs2, c < 256 := by decide +kernel
def spSigns : Sp := fun vs H Q _ => vs = [] ∧ Q (.str signs2) H
theorem ok_signs {f : Addr} {fd : FuncData} {k : Nat} (F : Fun K "_law_signs" "_law_signs" st_signs f fd) : FnOk P w K mg base CX0 (k + 1) f fd [] spSigns := by
  refine F.ok sc_signs (fun vs H Q E h => ?_) (fun cdv A outer s H vs Q E hr h => ?_)
  · obtain ⟨rfl, _⟩ := h
    rfl
  · obtain ⟨rfl, q⟩ := h
    refine ⟨_, pss_cons (ps_set (i := 0) sc_signs.nd rfl (.inl rfl) pe_str) (pss_one (ps_ret (pe_op op_add_str (pe_op op_add_str pe_str (pv 0)) (pe_upper (pv 0))))), ?_⟩
    refine ⟨_, rfl, _, _, rfl, rfl, ?_, _, rfl, ⟨_, rfl⟩, _, rfl, rfl, ?_, _, _, rfl, rfl, ?_, (congrArg (fun z => Q (.str z) H) (by decide +kernel)).mp q⟩ <;> decide +kernel
def heads14 : List Str := [Str.ofString "0b", Str.ofString "0o", Str.ofString "0x", Str.ofString "0b", Str.ofString "0o", Str.ofString "0x", Str.ofString "0B", Str.ofString "0X", Str.ofString "0", Str.ofString "b", Str.ofString "0y", Str.ofString "-0x", Str.ofString "", Str.ofString "x0"]
theorem heads14_ok : ∀ y ∈ heads14, Tq B8 3 y := by
  have h : ∀ y ∈ heads14, y.length ≤ 3 ∧ ∀ c ∈ tl y, c < 256 := by decide +kernel
  exact fun y hy => ⟨(h y hy).1, (h y hy).2⟩
def sets5 : List Str := [Str.ofString "01", Str.ofString "01234567", Str.ofString "0123456789abcdef", Str.ofString "0123456789ABCDEF", Str.ofString "0"]
theorem sets5_ok : ∀ y ∈ sets5, 0 < y.length ∧ y.length ≤ 200 ∧ ∀ c ∈ tl y, c < 256 := by decide +kernel
def spWord : Sp := fun vs H Q _ => ∃ p : Addr, vs = [.ref p] ∧ Pot H p ∧ ∀ H' (y : Str), But p H H' → Pot H' p → Tq B8 60 y → Q (.str y) H'
theorem ok_word {f fD fS : Addr} {fd fdD fdS : FuncData} {k : Nat} (F : Fun K "_law_word" "_law_word" st_word f fd) (D_draw : Df K mg "_law_draw" sDraw ["_law_pot_here", "_law_many"] fD fdD) (D_signs : Df K mg "_law_signs" st_signs [] fS fdS) (m_divmod : mg "divmod" = none) (m_range : mg "range" = none) (m_len : mg "len" = none) :
    FnOk P w K mg base CX0 (k + 2) f fd ["_law_pot_here"] spWord := by
  have G_draw : FnOk P w K mg base CX0 (k + 1) fD fdD ["_law_pot_here", "_law_many"] spDraw := ok_draw D_draw.F m_divmod
  have G_signs : FnOk P w K mg base CX0 (k + 1) fS fdS [] spSigns := ok_signs D_signs.F
  refine F.ok sc_word (fun vs H Q E h => ?_) (fun cdv A outer s H vs Q E hr h => ?_)
  · obtain ⟨p, rfl, _⟩ := h
    rfl
  · obtain ⟨p, rfl, hp, q⟩ := h
    refine ⟨_, pss_cons (ps_set (i := 1) sc_word.nd rfl (.inl rfl) (pe_lst (pa_cons pe_str (pa_cons pe_str (pa_cons pe_str (pa_cons pe_str (pa_cons pe_str (pa_cons pe_str (pa_cons pe_str (pa_cons pe_str (pa_cons pe_str (pa_cons pe_str (pa_cons pe_str (pa_cons pe_str (pa_cons pe_str (pa_cons pe_str pa_nil))))))))))))))))
      (pss_cons (ps_set (i := 2) sc_word.nd rfl (.inl rfl) (pe_ix ix_list (pv 1) (pe_call G_draw hr (by rfl) D_draw.g D_draw.F.kp D_draw.b .nil pass0 (pa_cons (pv 0) (pa_cons pe_int pa_nil))) (fun _ _ => rfl)))
      (pss_cons (ps_set (i := 3) sc_word.nd rfl (.inr rfl) (pe_ix ix_list (pe_lst (pa_cons pe_str (pa_cons pe_str (pa_cons pe_str (pa_cons pe_str (pa_cons pe_str pa_nil)))))) (pe_call G_draw hr (by rfl) D_draw.g D_draw.F.kp D_draw.b .nil pass0 (pa_cons (pv 0) (pa_cons pe_int pa_nil))) (fun _ _ => rfl)))
      (pss_cons (ps_set (i := 4) sc_word.nd rfl (.inl rfl) (pe_call G_draw hr (by rfl) D_draw.g D_draw.F.kp D_draw.b .nil pass0 (pa_cons (pv 0) (pa_cons (pe_ix ix_list (pe_lst (pa_cons pe_int (pa_cons pe_int pa_nil))) (pe_call G_draw hr (by rfl) D_draw.g D_draw.F.kp D_draw.b .nil pass0 (pa_cons (pv 0) (pa_cons pe_int pa_nil))) (fun _ _ => rfl)) pa_nil))))
      (pss_cons (ps_set (i := 5) sc_word.nd rfl (.inl rfl) (pe_join pe_str (pe_lc (own := [("_law_k", 8)]) (g := gName 8) (tt := tYes) rfl sc_word.nd (pi_range1 rfl m_range (pa_cons (pv 4) pa_nil)) (blkOk_by (N := ["_law_pot_here", "_law_heads", "_law_head", "_law_signs_here", "_law_many", "_law_figures", "_law_at", "_law_any_sign", "_law_k"]) (sc := defScope st_word) (by decide +kernel)) (fun _ _ _ _ _ => (pg_name (i := 8) sc_word.nd rfl (Or.inl rfl))) (fun _ _ _ _ _ => pts_nil) (fun _ _ _ _ _ => (pe_ix ix_str (pv 3) (pe_call G_draw hr (by rfl) D_draw.g D_draw.F.kp D_draw.b .nil pass0 (pa_cons (pv 0) (pa_cons (pe_callB call_len_str (by rfl) m_len PySem.boot_len (pa_cons (pv 3) pa_nil)) pa_nil))) (fun _ _ => rfl))))))
      (pss_cons (ps_set (i := 6) sc_word.nd rfl (.inl rfl) (pe_call G_draw hr (by rfl) D_draw.g D_draw.F.kp D_draw.b .nil pass0 (pa_cons (pv 0) (pa_cons (pe_op op_add (pv 4) pe_int) pa_nil))))
      (pss_cons (ps_if (pt_cmpR op_eq (pe_call G_draw hr (by rfl) D_draw.g D_draw.F.kp D_draw.b .nil pass0 (pa_cons (pv 0) (pa_cons pe_int pa_nil))) pe_int (nomark _)) (pss_cons (ps_set (i := 7) sc_word.nd rfl (.inl rfl) (pe_call0 G_signs hr (by rfl) D_signs.g D_signs.F.kp D_signs.b .nil pass0))
      (pss_one (ps_set (i := 5) sc_word.nd rfl (.inl rfl) (pe_op op_add_str (pe_op op_add_str (pe_slice sl_str (pv 5) po_none (po_some (pv 6))) (pe_ix ix_str (pv 7) (pe_call G_draw hr (by rfl) D_draw.g D_draw.F.kp D_draw.b .nil pass0 (pa_cons (pv 0) (pa_cons (pe_callB call_len_str (by rfl) m_len PySem.boot_len (pa_cons (pv 7) pa_nil)) pa_nil))) (fun _ _ => rfl))) (pe_slice sl_str (pv 5) (po_some (pe_op op_add (pv 6) pe_int)) po_none))))) pss_nil)
      (pss_one (ps_ret (pe_op op_add_str (pv 2) (pv 5)))))))))), ?_⟩
    refine ⟨by decide +kernel, fun l1 n1 => ?_⟩
    have p1 := hp.new (o := .lst (heads14.map V.str)) n1
    have nl1 := hp.ne n1
    refine ⟨.ref l1, rfl, .ref p, rfl, p, 14, rfl, p1, by decide, by decide, fun H2 d2 b2 p2 d20 d21 => ?_⟩
    obtain ⟨hd, hdm, hde⟩ := at_strs heads14 d2 d20 (by show d2 < 14; exact d21)
    have thd := heads14_ok hd hdm
    refine ⟨l1, _, d2, .str hd, rfl, rfl, SqL.of (b2 _ _ nl1.symm upd_same), hde, ?_⟩
    refine ⟨by decide +kernel, fun l2 n2 => ?_⟩
    have p3 := p2.new (o := .lst (sets5.map V.str)) n2
    have nl2 := p2.ne n2
    refine ⟨.ref p, rfl, p, 5, rfl, p3, by decide, by decide, fun H4 d4 b4 p4 d40 d41 => ?_⟩
    obtain ⟨sg, sgm, sge⟩ := at_strs sets5 d4 d40 (by show d4 < 5; exact d41)
    obtain ⟨hz0, hz1, hz2⟩ := sets5_ok sg sgm
    have hzl : sg.length ≤ sizeLine := Nat.le_trans hz1 (by decide)
    refine ⟨l2, _, d4, .str sg, rfl, rfl, SqL.of (b4 _ _ nl2.symm upd_same), sge, ?_⟩
    refine ⟨.ref p, rfl, by decide +kernel, fun l3 n3 => ?_⟩
    have p5 := p4.new (o := .lst ([(4 : Int), 53].map V.int)) n3
    have nl3 := p4.ne n3
    refine ⟨.ref p, rfl, p, 2, rfl, p5, by decide, by decide, fun H6 d6 b6 p6 d60 d61 => ?_⟩
    obtain ⟨mo, mom, moe⟩ := at_ints [(4 : Int), 53] d6 d60 (by show d6 < 2; exact d61)
    have hmo : 0 < mo ∧ mo ≤ 53 := (by decide : ∀ y ∈ [(4 : Int), 53], 0 < y ∧ y ≤ 53) mo mom
    refine ⟨l3, _, d6, .int mo, rfl, rfl, SqL.of (b6 _ _ nl3.symm upd_same), moe, p, mo, rfl, p6, hmo.1, by omega, fun H7 many b7 p7 m0 m1 => ?_⟩
    have bb7 : But p H H7 := ((((((But.new n1).trans b2).trans (But.new n2)).trans b4).trans (But.new n3)).trans b6).trans b7
    refine ⟨⟨_, rfl⟩, .int many, rfl, many, rfl, by omega, by omega, fun T nT => ?_⟩
    have npT : p ≠ T := p7.ne nT
    refine lc_range (lo := 0) (n := many.toNat) (fun i Hc => But p H7 Hc ∧ Pot Hc p ∧ ∃ ys : List Str, Hc T = some (.lst (ys.map V.str)) ∧ ys.length = i ∧ ∀ y ∈ ys, Tq B8 1 y)
      ⟨But.new nT, p7.new nT, [], upd_same, rfl, fun y hy => by cases hy⟩ (fun i Hc hi ⟨bc, pc, ys, eT, el, e1⟩ => ?_) (fun Hc ⟨bc, pc, ys, eT, el, e1⟩ => ?_)
    · refine ⟨rfl, ?_⟩
      refine ⟨.str sg, rfl, .ref p, rfl, .str sg, rfl, sg, rfl, hzl, p, sg.length, rfl, pc, by omega, by omega, fun H9 j b9 p9 j0 j1 => ?_⟩
      obtain ⟨n, rfl⟩ := Int.eq_ofNat_of_zero_le j0
      have hn : n < sg.cps.toList.length := by
        have e : sg.cps.toList.length = sg.length := by simp [Str.length]
        omega
      have eT9 : H9 T = some (.lst (ys.map V.str)) := b9 T _ npT.symm eT
      refine ⟨sg, n, sg.cps.toList[n], rfl, rfl, hzl, atI_nat (List.getElem?_eq_getElem hn), ys.map V.str, eT9, ?_, ?_, ?_, ys ++ [⟨#[sg.cps.toList[n]]⟩], ?_, ?_, ?_⟩
      · rw [List.length_map, el]
        exact small1000 (by omega)
      · exact fun b o nb e => by
          rw [upd_ne (ne_of_none e nT)]
          exact b9 b o nb (bc b o nb e)
      · obtain ⟨x, y, e, h1, h2⟩ := p9
        refine ⟨x, y, ?_, h1, h2⟩
        rw [upd_ne npT]
        exact e
      · rw [upd_same, List.map_append]
        rfl
      · rw [List.length_append, el]
        rfl
      · intro y hy
        rcases List.mem_append.mp hy with hy | hy
        · exact e1 y hy
        · rw [List.mem_singleton.mp hy]
          exact Tq.sign (hz2 _ (List.getElem_mem hn))
    have e0 : (Str.ofString "").length = 0 := by decide +kernel
    have es := sum_most 1 ys e1
    have tj : Tq B8 52 (Txt.join (Str.ofString "") ys) := Tq.join (k := 0) ⟨by rw [e0]; exact Nat.le_refl 0, fun c hc => by cases hc⟩ e1 (by omega)
    refine ⟨_, T, ys, rfl, rfl, .inl (SqL.of eT), by rw [e0]; omega, ?_⟩
    dsimp only [tSeq, tAsg, tC, gName]
    generalize Txt.join (Str.ofString "") ys = fg at tj
    refine ⟨.ref p, rfl, .int many, rfl, many, 1, rfl, rfl, p, many + 1, rfl, pc, by omega, by omega, fun H10 at1 b10 p10 a0 a1 => ?_⟩
    have bb10 : But p H H10 := (bb7.trans bc).trans b10
    refine ts_gen (t := tIfS _ _ _) (fun σ' H' => But p H H' ∧ Pot H' p ∧ ∃ (fg2 : Str) (x1 x3 x4 x6 x7 x8 : Option V), Tq B8 57 fg2 ∧ σ' = [some (.ref p), x1, some (.str hd), x3, x4, some (.str fg2), x6, x7, x8]) (fun κ c => ?_) ?_
    · refine ⟨.ref p, rfl, p, 4, rfl, p10, by decide, by decide, fun H11 d11 b11 p11 d110 d111 => ⟨rfl, _, rfl, ite2 (fun e => ?_) (fun e => ?_)⟩⟩
      · have hfl : fg.length ≤ sizeLine := Nat.le_trans tj.le (by decide)
        have c1 := tj.cut none (some at1)
        have c2 := tj.cut (some (at1 + 1)) none
        have hs2 : signs2.length ≤ sizeLine := Nat.le_trans signs2_ok.2.1 (by decide)
        have hs0 := signs2_ok.1
        have hs1 := signs2_ok.2.1
        refine ⟨rfl, _, rfl, _, rfl, at1, rfl, fg, rfl, hfl, .str signs2, rfl, .ref p, rfl, .str signs2, rfl, signs2, rfl, hs2, p, signs2.length, rfl, p11, by omega, by omega, fun H12 j b12 p12 j0 j1 => ?_⟩
        obtain ⟨n, rfl⟩ := Int.eq_ofNat_of_zero_le j0
        have hn : n < signs2.cps.toList.length := by
          have e : signs2.cps.toList.length = signs2.length := by simp [Str.length]
          omega
        have t1 : Tq B8 1 (⟨#[signs2.cps.toList[n]]⟩ : Str) := Tq.sign (signs2_ok.2.2 _ (List.getElem_mem hn))
        refine ⟨signs2, n, signs2.cps.toList[n], rfl, rfl, hs2, atI_nat (List.getElem?_eq_getElem hn), _, _, rfl, rfl, Nat.le_of_lt (small1000 (by have := c1.le; have := t1.le; omega)), ?_⟩
        have c3 := c1.app t1
        refine ⟨_, rfl, _, rfl, at1, 1, rfl, rfl, at1 + 1, rfl, fg, rfl, hfl, _, _, rfl, rfl, Nat.le_of_lt (small1000 (by have := c3.le; have := c2.le; omega)), ?_⟩
        refine c _ _ ⟨(bb10.trans b11).trans b12, p12, _, _, _, _, _, _, _, ?_, rfl⟩
        refine ⟨?_, fun c hc => ?_⟩
        · have hl1 := congrArg List.length (tl_cut_to fg at1.toNat)
          have hl2 := congrArg List.length (tl_cut_from fg (at1.toNat + 1))
          rw [← TL.len_tl, List.length_take, ← TL.len_tl] at hl1
          rw [← TL.len_tl, List.length_drop, ← TL.len_tl] at hl2
          have ea : ((at1.toNat : Nat) : Int) = at1 := Int.toNat_of_nonneg a0
          have ea2 : ((at1.toNat + 1 : Nat) : Int) = at1 + 1 := by omega
          rw [ea] at hl1
          rw [ea2] at hl2
          rw [Str.length_append, Str.length_append, hl1, hl2]
          have h1 := t1.le
          have h2 := tj.le
          omega
        · exact (c3.app c2).pl c hc
      · exact c _ _ ⟨bb10.trans b11, p11, fg, _, _, _, _, _, _, tj.mono (by decide) (fun _ h => h), rfl⟩
    rintro σ6 H14 ⟨b14, p14, fg2, x1, x3, x4, x6, x7, x8, t2, rfl⟩
    refine ⟨_, rfl, _, rfl, hd, fg2, rfl, rfl, Nat.le_of_lt (small1000 (by have := thd.le; have := t2.le; omega)), q _ _ b14 p14 ((thd.app t2).mono (by decide) (fun _ h => h))⟩
/-! ### the law's reckoning -/
def baseOf (p : List Nat) : Nat := if p = [48, 98] then 2 else if p = [48, 111] then 8 else 16
def heads3 : List (List Nat) := [[48, 98], [48, 111], [48, 120]]
def gB (cs : List Nat) : Option Int := if cs.take 2 ∈ heads3 ∧ (3 ≤ cs.length ∧ cs.length ≤ 52) ∧ ∀ c ∈ cs.drop 2, c ∈ figL.take (baseOf (cs.take 2)) then some ((figNum (baseOf (cs.take 2)) (cs.drop 2) : Nat) : Int) else none
def vOpt : Option Int → V
  | some i => .int i
  | none => .non
theorem base_ok (p : List Nat) : BaseOk (baseOf p) := by
  unfold baseOf
  split
  · exact .inl rfl
  · split
    · exact .inr (.inl rfl)
    · exact .inr (.inr rfl)
theorem figNum_snoc (b : Nat) (l : List Nat) (c : Nat) : figNum b (l ++ [c]) = b * figNum b l + fv c := by
  unfold figNum
  rw [List.foldl_append, Nat.mul_comm]
  rfl
def spNumber : Sp := fun vs H Q _ => ∃ z : Str, vs = [.str z] ∧ Tq B8 60 z ∧ ∀ H', Same H H' → Q (vOpt (gB (tl z))) H'
theorem ok_number {f : Addr} {fd : FuncData} {k : Nat} (F : Fun K "_law_number" "_law_number" st_number f fd) (m_len : mg "len" = none) : FnOk P w K mg base CX0 (k + 1) f fd ["_law_word_here"] spNumber := by
  refine F.ok sc_number (fun vs H Q E h => ?_) (fun cdv A outer s H vs Q E hr h => ?_)
  · obtain ⟨z, rfl, _⟩ := h
    rfl
  · obtain ⟨z, rfl, tz, q⟩ := h
    refine ⟨_, pss_cons (ps_if (PW.pt (pw_or (pt_cmpR op_notIn_seq (pe_slice sl_str (pv 0) po_none (po_some pe_int)) (pe_tup (pa_cons pe_str (pa_cons pe_str (pa_cons pe_str pa_nil)))) (by rfl)) (pw_or1 (pt_not (pt_chain op_le op_le pe_int (pe_callB call_len_str (by rfl) m_len PySem.boot_len (pa_cons (pv 0) pa_nil)) pe_int))))) (pss_one (ps_ret pe_non)) pss_nil)
      (pss_cons (ps_set (i := 1) sc_number.nd rfl (.inl rfl) (pe_ix ix_list (pe_lst (pa_cons pe_int (pa_cons pe_int (pa_cons pe_int pa_nil)))) (pe_bm PySem.F.plainAttrs_list PySem.F.slot_list_index PySem.F.type_list_index mt_index (pe_lst (pa_cons pe_str (pa_cons pe_str (pa_cons pe_str pa_nil)))) (pa_cons (pe_slice sl_str (pv 0) po_none (po_some pe_int)) pa_nil)) (fun _ _ => rfl)))
      (pss_cons (ps_set (i := 2) sc_number.nd rfl (.inl rfl) pe_int)
      (pss_cons (ps_for PassesOwn.never rfl (pi_str (pe_slice sl_str (pv 0) (po_some pe_int) po_none)) (pg_name (i := 3) sc_number.nd rfl (Or.inl rfl)) (pss_cons (ps_if (pt_cmpR op_notIn_sign (pv 3) (pe_slice sl_str pe_str po_none (po_some (pv 1))) (by rfl)) (pss_one (ps_ret pe_non)) pss_nil)
      (pss_one (ps_set (i := 2) sc_number.nd rfl (.inl rfl) (pe_op op_add (pe_op op_mul (pv 1) (pv 2)) (pe_m1 PySem.F.slot_str_index PySem.F.type_str_index mt_sindex pe_str (pv 3)))))))
      (pss_one (ps_ret (pv 2)))))), ?_⟩
    have hz := tz.le
    have hzl : z.length ≤ sizeLine := Nat.le_trans hz (by decide)
    have ez := TL.len_tl z
    have e2 : tl (cutS z none (some 2)) = (tl z).take 2 := tl_cut_to z 2
    have ed : tl (cutS z (some 2) none) = (tl z).drop 2 := tl_cut_from z 2
    have t3 : ([Str.ofString "0b", Str.ofString "0o", Str.ofString "0x"].map tl) = heads3 := by decide +kernel
    have mem3 : cutS z none (some 2) ∈ [Str.ofString "0b", Str.ofString "0o", Str.ofString "0x"] ↔ (tl z).take 2 ∈ heads3 := by
      rw [← t3, ← e2]
      constructor
      · exact fun h => List.mem_map_of_mem h
      · intro h
        obtain ⟨y, hy, e⟩ := List.mem_map.mp h
        rw [← str_ext e]
        exact hy
    have lc2 : (cutS z none (some 2)).length ≤ sizeLine := Nat.le_trans (cutS_length _ _ _) hzl
    refine ⟨_, rfl, 2, rfl, z, rfl, hzl, by show 3 ≤ sizeLine; decide, fun t nt => ?_⟩
    have sm1 : Same H (upd H t (.tup ([Str.ofString "0b", Str.ofString "0o", Str.ofString "0x"].map V.str))) := same_upd nt
    have et : (upd H t (.tup ([Str.ofString "0b", Str.ofString "0o", Str.ofString "0x"].map V.str))) t = some (.tup ([Str.ofString "0b", Str.ofString "0o", Str.ofString "0x"].map V.str)) := upd_same
    refine ⟨t, _, rfl, .inr (SqT.of et), rfl, strs_flat [Str.ofString "0b", Str.ofString "0o", Str.ofString "0x"], _, rfl, ite2 (fun e => ?_) (fun e => ?_)⟩
    · have hno : ¬ (tl z).take 2 ∈ heads3 := fun h => by
        have e' : (!inV (.str (cutS z none (some 2))) ([Str.ofString "0b", Str.ofString "0o", Str.ofString "0x"].map V.str)) = true := e
        rw [inV_strs, decide_eq_true (mem3.mpr h)] at e'
        cases e'
      have q' := q _ sm1
      rw [show gB (tl z) = none from if_neg (fun h => hno h.1)] at q'
      exact q'
    have hin : (tl z).take 2 ∈ heads3 := by
      by_cases h : (tl z).take 2 ∈ heads3
      · exact h
      · refine absurd ?_ e
        show (!inV (.str (cutS z none (some 2))) ([Str.ofString "0b", Str.ofString "0o", Str.ofString "0x"].map V.str)) = true
        rw [inV_strs, decide_eq_false (fun k => h (mem3.mp k))]
        rfl
    clear e
    refine tt_use (t := tNot _) (b := !(decide (3 ≤ (tl z).length) && decide ((tl z).length ≤ 52))) (fun R c => ?_) ?_
    · refine ⟨_, rfl, z, rfl, hzl, 3, _, rfl, rfl, _, rfl, ite2 (fun e => ?_) (fun e => ?_)⟩
      · have e1 : 3 ≤ (tl z).length := by
          have := of_decide_eq_true e
          omega
        rw [decide_eq_true e1, Bool.true_and] at c
        refine ⟨_, 52, rfl, rfl, _, rfl, ?_⟩
        rw [show decide ((z.length : Int) ≤ 52) = decide ((tl z).length ≤ 52) from decide_eq_decide.mpr (by omega)]
        exact c
      · have e1 : ¬ 3 ≤ (tl z).length := fun h => e (decide_eq_true (by omega))
        rw [decide_eq_false e1, Bool.false_and] at c
        exact ⟨_, rfl, c⟩
    refine ite2 (fun e => ?_) (fun e => ?_)
    · have hno : ¬ (3 ≤ (tl z).length ∧ (tl z).length ≤ 52) := fun h => by
        rw [decide_eq_true h.1, decide_eq_true h.2] at e
        cases e
      have q' := q _ sm1
      rw [show gB (tl z) = none from if_neg (fun h => hno h.2.1)] at q'
      exact q'
    have hlen : 3 ≤ (tl z).length ∧ (tl z).length ≤ 52 := by
      by_cases h1 : 3 ≤ (tl z).length
      · by_cases h2 : (tl z).length ≤ 52
        · exact ⟨h1, h2⟩
        · exact absurd (by rw [decide_eq_false h2, Bool.and_false]; rfl) e
      · exact absurd (by rw [decide_eq_false h1, Bool.false_and]; rfl) e
    have hg : gB (tl z) = if ∀ c ∈ (tl z).drop 2, c ∈ figL.take (baseOf ((tl z).take 2)) then some ((figNum (baseOf ((tl z).take 2)) ((tl z).drop 2) : Nat) : Int) else none := by
      unfold gB
      by_cases h : ∀ c ∈ (tl z).drop 2, c ∈ figL.take (baseOf ((tl z).take 2))
      · rw [if_pos ⟨hin, hlen, h⟩, if_pos h]
      · rw [if_neg (fun k => h k.2.2), if_neg h]
    refine ⟨by show 3 ≤ sizeLine; decide, fun l1 n1 => ?_⟩
    first | refine go n1 fun H2 s2 e2' => ?_ | refine goT n1 fun H2 s2 e2' => ?_
    refine ⟨by show 3 ≤ sizeLine; decide, fun l2 n2 => ?_⟩
    have s3' : Same H2 (upd H2 l2 (.lst ([Str.ofString "0b", Str.ofString "0o", Str.ofString "0x"].map V.str))) := same_upd n2
    have e3' : (upd H2 l2 (.lst ([Str.ofString "0b", Str.ofString "0o", Str.ofString "0x"].map V.str))) l2 = some (.lst ([Str.ofString "0b", Str.ofString "0o", Str.ofString "0x"].map V.str)) := upd_same
    revert s3' e3'
    show _ → _ → _
    generalize eH3 : upd H2 l2 (.lst ([Str.ofString "0b", Str.ofString "0o", Str.ofString "0x"].map V.str)) = H3
    intro s3 e3
    have ei : ∃ j : Nat, ([Str.ofString "0b", Str.ofString "0o", Str.ofString "0x"].map V.str)[j]? = some (.str (cutS z none (some 2))) ∧ (∀ (m : Nat) (z' : V), m < j → ([Str.ofString "0b", Str.ofString "0o", Str.ofString "0x"].map V.str)[m]? = some z' → eqV z' (.str (cutS z none (some 2))) = false) ∧ ([V.int 2, V.int 8, V.int 16])[j]? = some (.int (baseOf ((tl z).take 2) : Nat)) := by
      have hm := mem3.mpr hin
      have eqs : ∀ y : Str, y ≠ cutS z none (some 2) → eqV (.str y) (.str (cutS z none (some 2))) = false := fun y hy => by
        show decide (y = cutS z none (some 2)) = false
        exact decide_eq_false hy
      rcases List.mem_cons.mp hm with h | h
      · rw [← e2, h]
        exact ⟨0, rfl, fun m z' hm' => absurd hm' (Nat.not_lt_zero _), by decide +kernel⟩
      · rcases List.mem_cons.mp h with h | h
        · rw [← e2, h]
          refine ⟨1, rfl, fun m z' hm' hz' => ?_, by decide +kernel⟩
          have : m = 0 := by omega
          subst this
          rw [← Option.some.inj hz']
          decide +kernel
        · rw [← e2, List.mem_singleton.mp h]
          refine ⟨2, rfl, fun m z' hm' hz' => ?_, by decide +kernel⟩
          have : m = 0 ∨ m = 1 := by omega
          rcases this with h | h
          · subst h
            rw [← Option.some.inj hz']
            decide +kernel
          · subst h
            rw [← Option.some.inj hz']
            decide +kernel
    obtain ⟨j, j1, j2, j3⟩ := ei
    subst eH3
    refine ⟨.inl ⟨rfl, _, SqL.of e3⟩, _, rfl, 2, rfl, z, rfl, hzl, l2, _, _, j, _, rfl, rfl, SqL.of e3, rfl, strs_flat [Str.ofString "0b", Str.ofString "0o", Str.ofString "0x"], j1, by show decide (_ = _) = true; exact decide_eq_true rfl, j2, ?_⟩
    refine ⟨l1, _, (j : Nat), _, rfl, rfl, SqL.of (s3 _ _ e2'), atI_nat (j := j) j3, ?_⟩
    have S3 : Same H (upd H2 l2 (.lst ([Str.ofString "0b", Str.ofString "0o", Str.ofString "0x"].map V.str))) := (sm1.trans s2).trans s3
    have hb := base_ok ((tl z).take 2)
    generalize baseOf ((tl z).take 2) = b at hg hb
    have lcd : (cutS z (some 2) none).length ≤ 60 := Nat.le_trans (cutS_length _ _ _) hz
    have esz : (cutS z (some 2) none).cps.size = ((tl z).drop 2).length := by
      rw [← ed]
      simp
    have hfl : figS.length ≤ sizeLine := by rw [figS_len]; decide
    have cutf : (cutS figS none (some (b : Int))).cps.toList = figL.take b := by
      rw [← figS_tl]
      exact tl_cut_to figS b
    have occ : ∀ c ∈ figL, ∃ rest, Builtin.Str.occurrences figS ⟨#[c]⟩ 0 figS.length 1 = fv c :: rest := by
      have h : ∀ c ∈ figL, Builtin.Str.occurrences figS ⟨#[c]⟩ 0 figS.length 1 = [fv c] := by decide +kernel
      exact fun c hc => ⟨[], h c hc⟩
    refine ⟨_, rfl, 2, rfl, z, rfl, hzl, _, rfl, for_it walk_str (fun i σ H' => H' = (upd H2 l2 (.lst ([Str.ofString "0b", Str.ofString "0o", Str.ofString "0x"].map V.str))) ∧ (∀ c ∈ ((tl z).drop 2).take i, c ∈ figL.take b) ∧ ∃ x3, σ = [some (.str z), some (.int (b : Nat)), some (.int ((figNum b (((tl z).drop 2).take i) : Nat) : Int)), x3]) ⟨rfl, (fun c hc => by cases hc), none, rfl⟩ (fun _ _ _ _ _ => True.intro) ?_ ?_⟩
    · rintro i x σ H5 H6 hi ⟨rfl, hall, x3, rfl⟩ ⟨rfl, c, ec, rfl⟩
      have ec' : ((tl z).drop 2)[i]? = some c := by
        rw [← ed]
        rw [Array.getElem?_toList]
        exact ec
      have et' : ((tl z).drop 2).take (i + 1) = ((tl z).drop 2).take i ++ [c] := by
        rw [List.take_add_one, ec']
        rfl
      refine ⟨_, rfl, _, rfl, (b : Int), rfl, figS, rfl, hfl, c, _, rfl, rfl, _, rfl, ite2 (fun e4 => ?_) (fun e4 => ?_)⟩
      · have hno : ¬ ∀ c ∈ (tl z).drop 2, c ∈ figL.take b := fun h => by
          have e' : (!decide (c ∈ (cutS figS none (some (b : Int))).cps.toList)) = true := e4
          rw [cutf, decide_eq_true (h c (List.mem_of_getElem? ec'))] at e'
          cases e'
        have q' := q _ S3
        rw [hg, if_neg hno] at q'
        exact q'
      · have hc : c ∈ figL.take b := by
          by_cases h : c ∈ figL.take b
          · exact h
          · refine absurd ?_ e4
            show (!decide (c ∈ (cutS figS none (some (b : Int))).cps.toList)) = true
            rw [cutf, decide_eq_false h]
            rfl
        obtain ⟨rest, ho⟩ := occ c (fig_low hc)
        have hbb : (b : Int) < 2 ^ 64 ∧ -(2 ^ 64) < (b : Int) := by
          rcases hb with h | h | h <;> rw [h] <;> decide
        refine ⟨_, rfl, _, rfl, _, _, rfl, rfl, .inl ⟨hbb.2, hbb.1⟩, ⟨_, rfl⟩, _, rfl, _, _, _, rest, rfl, rfl, ho, _, _, rfl, rfl, rfl, ?_, some (.str ⟨#[c]⟩), ?_⟩
        · intro d hd
          rw [et'] at hd
          rcases List.mem_append.mp hd with h | h
          · exact hall d h
          · rw [List.mem_singleton.mp h]
            exact hc
        · rw [et', figNum_snoc]
          simp
    · rintro σ H5 ⟨rfl, hall, x3, rfl⟩
      rw [esz, List.take_length] at hall ⊢
      have q' := q _ S3
      rw [hg, if_pos hall] at q'
      exact ⟨_, rfl, q'⟩
end
end WB

set_option Elab.async false
set_option linter.all false
set_option maxRecDepth 100000
set_option maxHeartbeats 4000000
namespace WB
open PySem PySem.Spec PyProof.Rows L2 WG
open TL (tl)
abbrev st_as_based : Stmt := topS 11
theorem sc_as_based : FnScope ["word", "beginning", "figures", "base"] ["word"] (defScope st_as_based) := ⟨rfl, rfl, rfl, by decide +kernel, rfl, by decide +kernel, by decide +kernel⟩
abbrev st_right : Stmt := topS 25
theorem sc_right : FnScope ["_law_maker", "_law_word_here", "_law_due", "_law_told"] ["_law_maker", "_law_word_here"] (defScope st_right) := ⟨rfl, rfl, rfl, by decide +kernel, rfl, by decide +kernel, by decide +kernel⟩
abbrev st_law : Stmt := topS 26
theorem sc_law : FnScope ["_law_script", "_law_maker", "_law_sample", "_law_k", "_law_words", "_law_word_here"] ["_law_script"] (defScope st_law) := ⟨rfl, rfl, rfl, by decide +kernel, rfl, by decide +kernel, by decide +kernel⟩
section
variable {P : Program} {w : World} {K : PySem.W.Frag} {mg : Str → Option Value} {base : Heap}
def baseKvs : List (Key × V) := [(Sum.inr (Str.ofString "0b"), .int 2), (Sum.inr (Str.ofString "0o"), .int 8), (Sum.inr (Str.ofString "0x"), .int 16)]
theorem base_val (y : Str) : valV baseKvs (Sum.inr y) = if tl y ∈ heads3 then some (.int (baseOf (tl y) : Nat)) else none := by
  by_cases h1 : y = Str.ofString "0b"
  · subst h1
    decide +kernel
  · by_cases h2 : y = Str.ofString "0o"
    · subst h2
      decide +kernel
    · by_cases h3 : y = Str.ofString "0x"
      · subst h3
        decide +kernel
      · have hn : ¬ tl y ∈ heads3 := by
          intro h
          have t3 : ([Str.ofString "0b", Str.ofString "0o", Str.ofString "0x"].map tl) = heads3 := by decide +kernel
          rw [← t3] at h
          obtain ⟨x, hx, e⟩ := List.mem_map.mp h
          have e2 := str_ext e
          rcases List.mem_cons.mp hx with k | k
          · exact h1 (by rw [← e2, k])
          · rcases List.mem_cons.mp k with k | k
            · exact h2 (by rw [← e2, k])
            · exact h3 (by rw [← e2, List.mem_singleton.mp k])
        rw [if_neg hn]
        have d1 : decide ((Sum.inr (Str.ofString "0b") : Key) = Sum.inr y) = false := decide_eq_false (fun e => h1 (Sum.inr.inj e).symm)
        have d2 : decide ((Sum.inr (Str.ofString "0o") : Key) = Sum.inr y) = false := decide_eq_false (fun e => h2 (Sum.inr.inj e).symm)
        have d3 : decide ((Sum.inr (Str.ofString "0x") : Key) = Sum.inr y) = false := decide_eq_false (fun e => h3 (Sum.inr.inj e).symm)
        unfold valV baseKvs
        rw [List.find?_cons, List.find?_cons, List.find?_cons]
        simp only [d1, d2, d3]
        rfl
theorem ok_based {CU f fE fA aBS : Addr} {fd fdE fdA : FuncData} {u1 u2 : Tok} {k : Nat} (F : Fun K "as_based" "as_based" st_as_based f fd) (FE : ErrD K fE fdE) (TE : ErrT K mg "Unmade" CU fE fdE) (D_are_figures : Df K mg "are_figures" st_are_figures ["text", "base", "most"] fA fdA)
    (m_len : mg "len" = none) (m_all : mg "all" = none) (m_int : mg "int" = none) (c_FIGURES : mg "FIGURES" = some (.str figS u1)) (c_MOST_BASED : mg "MOST_BASED_FIGURES" = some (.int 50 u2)) (c_BASES : mg "BASES" = some (.ref aBS)) (hBS : KDic K w aBS baseKvs) :
    FnOk P w K mg base (L2.CX P w) (k + 3) f fd ["word"] (spInt CU gB) := by
  have GE : FnOk P w K mg base CX0 (k + 1) fE fdE ["self", "why"] (spErr CU) := ok_err FE TE
  have G_are_figures : FnOk P w K mg base CX0 (k + 2) fA fdA ["text", "base", "most"] spFigs := ok_figs D_are_figures.F m_len m_all c_FIGURES
  refine F.okX sc_as_based (fun vs H Q E h => ?_) (fun cdv A outer s H vs Q E hr h => ?_)
  · obtain ⟨z, rfl, _⟩ := h
    rfl
  · obtain ⟨z, rfl, tz, q, qx⟩ := h
    refine ⟨_, pss_cons (ps_par (i := 1) (j := 2) (by rfl) sc_as_based.nd rfl rfl (by decide) rfl rfl (pa_cons (pe_slice sl_str (pv 0) po_none (po_some pe_int)) (pa_cons (pe_slice sl_str (pv 0) (po_some pe_int) po_none) pa_nil)) (by rfl))
      (pss_cons (ps_if (pt_cmpR op_ninK (pv 1) (pe_glob (v := .ref aBS) rfl c_BASES rfl) (by rfl)) (pss_one (ps_raise rfl (takes_of rfl rfl rfl rfl) (pmk_oex TE.o TE.i TE.t GE hr TE.b .nil pass0 (by rfl) TE.g (pa_cons pe_str pa_nil)))) pss_nil)
      (pss_cons (ps_set (i := 3) sc_as_based.nd rfl (.inl rfl) (pe_ix ix_K (pe_glob (v := .ref aBS) rfl c_BASES rfl) (pv 1) (fun _ _ => rfl)))
      (pss_cons (ps_if (pt_not (pt_val (pe_call G_are_figures hr (by rfl) D_are_figures.g D_are_figures.F.kp D_are_figures.b .nil pass0 (pa_cons (pv 2) (pa_cons (pv 3) (pa_cons (pe_glob (v := .int 50) rfl c_MOST_BASED ⟨_, rfl⟩) pa_nil)))))) (pss_one (ps_raise rfl (takes_of rfl rfl rfl rfl) (pmk_oex TE.o TE.i TE.t GE hr TE.b .nil pass0 (by rfl) TE.g (pa_cons (pe_joined (.cons pe_str (.cons (pe_fmt (pv 3)) .nil))) pa_nil)))) pss_nil)
      (pss_one (ps_ret (pe_callTy call_int_fig (by rfl) m_int (by decide +kernel) (pa_cons (pv 2) (pa_cons (pv 3) pa_nil)))))))), ?_⟩
    have hz := tz.le
    have hzl : z.length ≤ sizeLine := Nat.le_trans hz (by decide)
    have ez := TL.len_tl z
    have e2 : tl (cutS z none (some 2)) = (tl z).take 2 := tl_cut_to z 2
    have ed : tl (cutS z (some 2) none) = (tl z).drop 2 := tl_cut_from z 2
    have lcd : (cutS z (some 2) none).length ≤ 60 := Nat.le_trans (cutS_length _ _ _) hz
    refine ⟨_, rfl, 2, rfl, z, rfl, hzl, _, rfl, 2, rfl, z, rfl, hzl, _, _, rfl, ?_⟩
    refine ⟨_, rfl, cutS z none (some 2), aBS, baseKvs, rfl, rfl, hBS, _, rfl, ?_⟩
    have hv := base_val (cutS z none (some 2))
    rw [e2] at hv
    rw [hv]
    by_cases hin : (tl z).take 2 ∈ heads3
    · rw [if_pos hin] at hv ⊢
      refine ⟨_, rfl, aBS, cutS z none (some 2), baseKvs, _, rfl, rfl, hBS, hv, ?_⟩
      have hb := base_ok ((tl z).take 2)
      have hg : gB (tl z) = if (3 ≤ (tl z).length ∧ (tl z).length ≤ 52) ∧ ∀ c ∈ (tl z).drop 2, c ∈ figL.take (baseOf ((tl z).take 2)) then some ((figNum (baseOf ((tl z).take 2)) ((tl z).drop 2) : Nat) : Int) else none := by
        unfold gB
        by_cases h : (3 ≤ (tl z).length ∧ (tl z).length ≤ 52) ∧ ∀ c ∈ (tl z).drop 2, c ∈ figL.take (baseOf ((tl z).take 2))
        · rw [if_pos ⟨hin, h⟩, if_pos h]
        · rw [if_neg (fun k => h k.2), if_neg h]
      have l2 : 2 ≤ (tl z).length := by
        have h : ∀ p ∈ heads3, p.length = 2 := by decide
        have := h _ hin
        rw [List.length_take] at this
        omega
      generalize baseOf ((tl z).take 2) = b at hg hb
      refine ⟨_, rfl, _, rfl, cutS z (some 2) none, b, 50, rfl, by omega, fun H1 s1 => ⟨_, rfl, ?_⟩⟩
      rw [ed]
      have hfk : figsOk ((tl z).drop 2) b 50 = true ↔ (3 ≤ (tl z).length ∧ (tl z).length ≤ 52) ∧ ∀ c ∈ (tl z).drop 2, c ∈ figL.take b := by
        unfold figsOk
        rw [Bool.and_eq_true, Bool.and_eq_true, decide_eq_true_eq, decide_eq_true_eq, List.length_drop, List.all_eq_true]
        constructor
        · exact fun h => ⟨⟨by omega, by omega⟩, fun c hc => of_decide_eq_true (h.2 c hc)⟩
        · exact fun h => ⟨⟨by omega, by omega⟩, fun c hc => decide_eq_true (h.2 c hc)⟩
      cases hf : figsOk ((tl z).drop 2) b 50 with
      | false =>
        have hgn : gB (tl z) = none := by
          rw [hg, if_neg (fun h => by rw [hfk.mpr h] at hf; cases hf)]
        have lb : (Str.empty ++ Str.ofString "no number of base ").length = 18 := by decide +kernel
        have hlog : ((b : Int)).natAbs.log2 < 1920 := by
          rcases hb with h | h | h <;> rw [h] <;> decide
        have hls : (Str.ofString (toString (b : Int))).length ≤ 10 := by
          rcases hb with h | h | h <;> rw [h] <;> decide +kernel
        refine ⟨_, rfl, by rw [lb]; decide, _, rfl, .inr ⟨(b : Int), rfl, hlog, _, rfl, by rw [Str.length_append, lb]; exact Nat.le_of_lt (small1000 (by omega)), by show 1 ≤ 1000; decide, fun a na => err_out (fun H' d sm nd ed' => qx hgn _ H' d (s1.trans sm) (s1.free nd) ed') a na⟩⟩
      | true =>
        have hk := hfk.mp hf
        have hgs : gB (tl z) = some ((figNum b ((tl z).drop 2) : Nat) : Int) := by rw [hg, if_pos hk]
        refine ⟨_, rfl, _, rfl, cutS z (some 2) none, b, rfl, hb, ?_, by omega, ?_, ?_⟩
        · rw [ed]
          intro e
          have := congrArg List.length e
          rw [List.length_drop] at this
          have h3 := hk.1.1
          have : (tl z).length - 2 = 0 := this
          omega
        · rw [ed]
          exact hk.2
        · rw [ed]
          exact q _ hgs _ s1
    · rw [if_neg hin]
      have hgn : gB (tl z) = none := if_neg (fun h => hin h.1)
      exact ⟨by show 1 ≤ 1000; decide, fun a na => err_out (fun H' d sm nd ed' => qx hgn _ H' d sm nd ed') a na⟩
def spRight (fM : Addr) : Sp := fun vs H Q _ => ∃ z : Str, vs = [.ref fM, .str z] ∧ Tq B8 60 z ∧ ∀ H', Same H H' → Q (.bl true) H'
theorem ok_right {f fM fN fL : Addr} {fd fdN fdL : FuncData} {k : Nat} (F : Fun K "_law_right" "_law_right" st_right f fd) (D_number : Df K mg "_law_number" st_number ["_law_word_here"] fN fdN) (D_made : Df K mg "_law_made" st_made ["_law_maker", "_law_word_here"] fL fdL)
    (G_made : FnOk P w K mg base CX0 (k + 1) fL fdL ["_law_maker", "_law_word_here"] (spLMade fM gB)) (m_len : mg "len" = none) (m_int : mg "int" = none) (m_bool : mg "bool" = none) (m_isinstance : mg "isinstance" = none) :
    FnOk P w K mg base CX0 (k + 2) f fd ["_law_maker", "_law_word_here"] (spRight fM) := by
  have G_number : FnOk P w K mg base CX0 (k + 1) fN fdN ["_law_word_here"] spNumber := ok_number D_number.F m_len
  refine F.ok sc_right (fun vs H Q E h => ?_) (fun cdv A outer s H vs Q E hr h => ?_)
  · obtain ⟨z, rfl, _⟩ := h
    rfl
  · obtain ⟨z, rfl, tz, q⟩ := h
    refine ⟨_, pss_cons (ps_set (i := 2) sc_right.nd rfl (.inl rfl) (pe_call G_number hr (by rfl) D_number.g D_number.F.kp D_number.b .nil pass0 (pa_cons (pv 1) pa_nil)))
      (pss_cons (ps_set (i := 3) sc_right.nd rfl (.inl rfl) (pe_call G_made hr (by rfl) D_made.g D_made.F.kp D_made.b .nil pass0 (pa_cons (pv 0) (pa_cons (pv 1) pa_nil))))
      (pss_cons (ps_if (pt_cmpR op_isN (pv 2) pe_non (nomark _)) (pss_one (ps_ret (pe_cmpR (op_eqD hr.units) (pv 3) (pe_tup (pa_cons pe_str (pa_cons pe_bl (pa_cons pe_bl (pa_cons pe_bl pa_nil))))) (nomark _)))) pss_nil)
      (pss_one (ps_ret (pe_and (pe_cmpR (op_eqD hr.units) (pv 3) (pe_tup (pa_cons pe_str (pa_cons (pv 2) pa_nil))) (nomark _)) (pe_and (pe_callB call_isi (by rfl) m_isinstance (by decide +kernel) (pa_cons (pe_ix ix_tup (pv 3) pe_int (fun _ _ => rfl)) (pa_cons (pe_bltn (v := .ty "int") (by rfl) m_int (by decide +kernel) rfl) pa_nil))) (pe_one (pe_not (pe_callB call_isi (by rfl) m_isinstance (by decide +kernel) (pa_cons (pe_ix ix_tup (pv 3) pe_int (fun _ _ => rfl)) (pa_cons (pe_bltn (v := .ty "bool") (by rfl) m_bool (by decide +kernel) rfl) pa_nil))))))))))), ?_⟩
    refine ⟨_, rfl, z, rfl, tz, fun H1 s1 => ?_⟩
    refine ⟨_, rfl, _, rfl, z, rfl, tz, fun H2 p s2 np ep => ?_⟩
    cases hg : gB (tl z) with
    | none =>
      rw [hg] at ep
      refine ⟨_, rfl, rfl, _, rfl, ?_⟩
      refine ⟨.ref p, rfl, by show 4 ≤ sizeLine; decide, fun p2 np2 => ?_⟩
      have ep2 : (upd H2 p2 (.tup (toldI none))) p = some (.tup (toldI none)) := by
        rw [upd_ne (ne_of_none ep np2)]
        exact ep
      refine ⟨_, _, .tup (SqT.of ep2) (toldI_dp none), .tup (SqT.of upd_same) (toldI_dp none), datI_shaped none, datI_shaped none, ?_⟩
      rw [datI_eqv]
      exact q _ ((s1.trans s2).trans (same_upd np2))
    | some i =>
      rw [hg] at ep
      refine ⟨_, rfl, rfl, _, rfl, ?_⟩
      refine ⟨.ref p, rfl, _, rfl, by show 2 ≤ sizeLine; decide, fun p2 np2 => ?_⟩
      have ep2 : (upd H2 p2 (.tup (toldI (some i)))) p = some (.tup (toldI (some i))) := by
        rw [upd_ne (ne_of_none ep np2)]
        exact ep
      refine ⟨_, _, .tup (SqT.of ep2) (toldI_dp (some i)), .tup (SqT.of upd_same) (toldI_dp (some i)), datI_shaped (some i), datI_shaped (some i), ?_⟩
      rw [datI_eqv]
      refine ⟨_, rfl, .ref p, rfl, p, _, 1, .int i, rfl, rfl, SqT.of ep2, atI_nat (j := 1) rfl, .int i, _, _, _, true, rfl, ClsV.ty "int", TyX.base (TyOf.int _), kit_ty (by decide +kernel), ?_⟩
      refine ⟨_, rfl, .ref p, rfl, p, _, 1, .int i, rfl, rfl, SqT.of ep2, atI_nat (j := 1) rfl, .int i, _, _, _, false, rfl, ClsV.ty "bool", TyX.base (TyOf.int _), kit_ty (by decide +kernel), _, rfl, ?_⟩
      exact q _ ((s1.trans s2).trans (same_upd np2))

def words12 : List Str := [Str.ofString "", Str.ofString "0b", Str.ofString "0x", Str.ofString "0b0", Str.ofString "0o8", Str.ofString "0b2", Str.ofString "0xg", Str.ofString "0xF", Str.ofString "0x_1", Str.ofString "0x 1", Str.ofString "0x-1", Str.ofString "10"]
theorem words12_ok : ∀ y ∈ words12, Tq B8 60 y := by
  have h : ∀ y ∈ words12, y.length ≤ 60 ∧ ∀ c ∈ tl y, c < 256 := by decide +kernel
  exact fun y hy => ⟨(h y hy).1, (h y hy).2⟩
theorem many_ok {hd sg y : Str} {n : Nat} (h1 : Tq B8 2 hd) (h2 : Tq B8 1 sg) (hn : n ≤ 51) (hy : tl y = (List.replicate n (tl sg)).flatten) : Tq B8 60 (hd ++ y) := by
  have ly : y.length ≤ n := by
    rw [TL.len_tl, hy, List.length_flatten, List.map_replicate]
    have : (tl sg).length ≤ 1 := by
      rw [← TL.len_tl]
      exact h2.le
    rw [List.sum_replicate_nat]
    exact Nat.le_trans (Nat.mul_le_mul_left n this) (by omega)
  have py : ∀ c ∈ tl y, B8 c := by
    intro c hc
    rw [hy] at hc
    obtain ⟨l, hl, hc2⟩ := List.mem_flatten.mp hc
    rw [(List.mem_replicate.mp hl).2] at hc2
    exact h2.pl c hc2
  have ty : Tq B8 51 y := ⟨by omega, py⟩
  exact (h1.app ty).mono (by decide) (fun _ h => h)
def spLaw (K : PySem.W.Frag) : Sp := fun vs H Q _ => ∃ (a : Addr) (ns : List Int), vs = [.ref a] ∧ SqL K H a (ns.map V.int) ∧ ns.length ≤ 63 ∧ ∀ H', Q (.bl true) H'
theorem ok_law {f fM fC fP fD fW fS fO fL fR fN : Addr} {fd fdC fdP fdD fdW fdS fdO fdL fdR fdN : FuncData} {T1 T2 T3 T4 T5 T6 : Addr} {k : Nat} (F : Fun K "law" "law" st_law f fd)
    (D_cell : Df K mg "_law_cell" sCell ["_law_script", "_law_k"] fC fdC) (D_pot : Df K mg "_law_pot" sPot ["_law_script", "_law_k"] fP fdP) (D_draw : Df K mg "_law_draw" sDraw ["_law_pot_here", "_law_many"] fD fdD) (D_signs : Df K mg "_law_signs" st_signs [] fS fdS)
    (D_word : Df K mg "_law_word" st_word ["_law_pot_here"] fW fdW) (D_own_makers : Df K mg "own_makers" st_own_makers [] fO fdO) (D_made : Df K mg "_law_made" st_made ["_law_maker", "_law_word_here"] fL fdL)
    (D_right : Df K mg "_law_right" st_right ["_law_maker", "_law_word_here"] fR fdR) (D_number : Df K mg "_law_number" st_number ["_law_word_here"] fN fdN)
    (G_made0 : FnOk P w K mg base CX0 (k + 1) fL fdL ["_law_maker", "_law_word_here"] (spLMade fM gB)) (G_made : FnOk P w K mg base CX0 (k + 2) fL fdL ["_law_maker", "_law_word_here"] (spLMade fM gB)) (G_own_makers : FnOk P w K mg base CX0 (k + 2) fO fdO [] (spOwn (ownKvs T1 T2 T3 T4 T5 T6))) (hT : ∀ H, SqT K H T3 [.ref fM, .str (Str.ofString "0x1f")])
    (m_len : mg "len" = none) (m_max : mg "max" = none) (m_min : mg "min" = none) (m_divmod : mg "divmod" = none) (m_range : mg "range" = none) (m_int : mg "int" = none) (m_bool : mg "bool" = none) (m_str : mg "str" = none) (m_isinstance : mg "isinstance" = none) (m_all : mg "all" = none) :
    FnOk P w K mg base CX0 (k + 3) f fd ["_law_script"] (spLaw K) := by
  have G_pot : FnOk P w K mg base CX0 (k + 2) fP fdP ["_law_script", "_law_k"] (spPot K) := ok_pot D_pot.F D_cell m_len m_max
  have G_word : FnOk P w K mg base CX0 (k + 2) fW fdW ["_law_pot_here"] spWord := ok_word D_word.F D_draw D_signs m_divmod m_range m_len
  have G_right : FnOk P w K mg base CX0 (k + 2) fR fdR ["_law_maker", "_law_word_here"] (spRight fM) := ok_right D_right.F D_number D_made G_made0 m_len m_int m_bool m_isinstance
  refine F.ok sc_law (fun vs H Q E h => ?_) (fun cdv A outer s H vs Q E hr h => ?_)
  · obtain ⟨a, ns, rfl, _⟩ := h
    rfl
  · obtain ⟨a, ns, rfl, hS, hlen, q⟩ := h
    refine ⟨_, pss_cons (ps_asg (pe_dget (hu_of hr) (pe_call0 G_own_makers hr (by rfl) D_own_makers.g D_own_makers.F.kp D_own_makers.b .nil pass0) pe_str (fun _ _ => rfl)) (pg_tup rfl (pgs_cons (pg_name (i := 1) sc_law.nd rfl (Or.inr rfl)) (pgs_cons (pg_name (i := 2) sc_law.nd rfl (Or.inl rfl)) pgs_nil))))
      (pss_cons (ps_if (PW.pt (pw_or (pt_not (pt_val (pe_callB call_isi (by rfl) m_isinstance (by decide +kernel) (pa_cons (pv 2) (pa_cons (pe_bltn (v := .ty "str") (by rfl) m_str (by decide +kernel) rfl) pa_nil))))) (pw_or (pt_cmpR op_eq (pe_slice sl_str (pv 2) po_none (po_some pe_int)) pe_str (nomark _)) (pw_or1 (pt_cmpR op_ne (pe_ix ix_tup (pe_call G_made hr (by rfl) D_made.g D_made.F.kp D_made.b .nil pass0 (pa_cons (pv 1) (pa_cons (pv 2) pa_nil))) pe_int (fun _ _ => rfl)) pe_str (nomark _)))))) (pss_one (ps_ret pe_bl)) pss_nil)
      (pss_cons (ps_for PassesOwn.never rfl (pi_range1 rfl m_range (pa_cons (pe_callB (call_max2 rfl) (by rfl) m_max (by decide +kernel) (pa_cons pe_int (pa_cons (pe_callB (call_min2 rfl) (by rfl) m_min (by decide +kernel) (pa_cons (pe_callB call_len_seq (by rfl) m_len PySem.boot_len (pa_cons (pv 0) pa_nil)) (pa_cons pe_int pa_nil))) pa_nil))) pa_nil)) (pg_name (i := 3) sc_law.nd rfl (Or.inl rfl)) (pss_one (ps_if (pt_not (pt_val (pe_call G_right hr (by rfl) D_right.g D_right.F.kp D_right.b .nil pass0 (pa_cons (pv 1) (pa_cons (pe_call G_word hr (by rfl) D_word.g D_word.F.kp D_word.b .nil pass0 (pa_cons (pe_call G_pot hr (by rfl) D_pot.g D_pot.F.kp D_pot.b .nil pass0 (pa_cons (pv 0) (pa_cons (pv 3) pa_nil))) pa_nil)) pa_nil))))) (pss_one (ps_ret pe_bl)) pss_nil)))
      (pss_cons (ps_set (i := 4) sc_law.nd rfl (.inl rfl) (pe_lst (pa_cons pe_str (pa_cons pe_str (pa_cons pe_str (pa_cons pe_str (pa_cons pe_str (pa_cons pe_str (pa_cons pe_str (pa_cons pe_str (pa_cons pe_str (pa_cons pe_str (pa_cons pe_str (pa_cons pe_str pa_nil))))))))))))))
      (pss_cons (ps_set (i := 4) sc_law.nd rfl (.inl rfl) (pe_op op_cat (pv 4) (pe_lst (pa_cons (pe_op op_add_str pe_str (pe_op op_mul_str pe_str pe_int)) (pa_cons (pe_op op_add_str pe_str (pe_op op_mul_str pe_str pe_int)) (pa_cons (pe_op op_add_str pe_str (pe_op op_mul_str pe_str pe_int)) (pa_cons (pe_op op_add_str pe_str (pe_op op_mul_str pe_str pe_int)) pa_nil)))))))
      (pss_one (ps_ret (pe_callB (cr_all rfl) (by rfl) m_all (by decide +kernel) (pa_cons (pe_lc (own := [("_law_word_here", 5)]) (g := gName 5) (tt := tYes) rfl sc_law.nd (pi_list (pv 4)) (blkOk_by (N := ["_law_script", "_law_maker", "_law_sample", "_law_k", "_law_words", "_law_word_here"]) (sc := defScope st_law) (by decide +kernel)) (fun _ _ _ _ _ => (pg_name (i := 5) sc_law.nd rfl (Or.inl rfl))) (fun _ _ _ _ _ => pts_nil) (fun _ _ _ _ _ => (pe_call G_right hr (by rfl) D_right.g D_right.F.kp D_right.b .nil pass0 (pa_cons (pv 1) (pa_cons (pv 5) pa_nil))))) pa_nil)))))))), ?_⟩
    have l7 : (Str.ofString "0x1f").length = 4 := by decide +kernel
    have t7 : tl (Str.ofString "0x1f") = [48, 120, 49, 102] := by decide +kernel
    have tz7 : Tq B8 60 (Str.ofString "0x1f") := ⟨by rw [l7]; decide, by decide +kernel⟩
    have g7 : gB (tl (Str.ofString "0x1f")) = some 31 := by decide +kernel
    refine ⟨rfl, fun H1 o s1 no eo => ⟨o, .ref T3, rfl, DGet.k (k := Sum.inr (Str.ofString "based")) eo, ?_⟩⟩
    refine ⟨T3, _, rfl, hT _, rfl, _, _, rfl, _, _, rfl, rfl, ?_⟩
    refine ⟨_, rfl, .str (Str.ofString "0x1f"), _, _, _, true, rfl, ClsV.ty "str", TyX.base (TyOf.str _), kit_ty (by decide +kernel), _, rfl, ?_⟩
    refine ⟨_, rfl, 1, rfl, Str.ofString "0x1f", rfl, by rw [l7]; decide, rfl, _, rfl, ?_⟩
    rw [decide_eq_false (show ¬ V.str (cutS (Str.ofString "0x1f") none (some 1)) = V.str (Str.ofString "-") from by intro e; have e2 := congrArg tl (V.str.inj e); rw [show tl (cutS (Str.ofString "0x1f") none (some 1)) = (tl (Str.ofString "0x1f")).take 1 from tl_cut_to _ 1, t7] at e2; revert e2; decide +kernel)]
    refine ⟨_, rfl, _, rfl, Str.ofString "0x1f", rfl, tz7, fun H2 p s2 np ep => ?_⟩
    rw [g7] at ep
    refine ⟨p, _, 0, .str (Str.ofString "value"), rfl, rfl, SqT.of ep, atI_nat (j := 0) rfl, rfl, _, rfl, ?_⟩
    rw [show (!decide (V.str (Str.ofString "value") = V.str (Str.ofString "value"))) = false from by simp]
    have S2 : Same H H2 := s1.trans s2
    refine ⟨.ref a, rfl, a, _, rfl, .inl (S2.seq hS), _, 30, rfl, 1, _, rfl, _, rfl, ?_, ?_, for_range (lo := 0) (n := _) (fun i σ H' => Same H2 H' ∧ ∃ x3, σ = [some (.ref a), some (.ref fM), some (.str (Str.ofString "0x1f")), x3, none, none])
      ⟨Same.refl _, none, rfl⟩ ?_ ?_⟩
    · split <;> split <;> omega
    · split <;> split <;> omega
    · rintro i σ H3 hi ⟨sm, x3, rfl⟩
      refine ⟨_, rfl, .ref a, rfl, .int (0 + (i : Int)), rfl, a, ns, _, rfl, (S2.trans sm).seq hS, by omega, fun H4 p s4 np p4 => ?_⟩
      refine ⟨p, rfl, p4, fun H6 z b6 p6 tz => ?_⟩
      have S6 : Same H3 H6 := fun b o e => b6 b o (ne_of_none e np) (s4 b o e)
      refine ⟨z, rfl, tz, fun H8 s8 => ?_⟩
      refine ⟨_, rfl, ?_⟩
      exact ⟨sm.trans (S6.trans s8), _, rfl⟩
    · rintro σ H3 ⟨sm, x3, rfl⟩
      refine ⟨by show 12 ≤ sizeLine; decide, fun L nL => ?_⟩
      first | refine go nL fun H4 s4 e4 => ?_ | refine goT nL fun H4 s4 e4 => ?_
      have e4' : H4 L = some (.lst (words12.map V.str)) := e4
      have lb : (Str.ofString "0b").length = 2 := by decide +kernel
      have lx : (Str.ofString "0x").length = 2 := by decide +kernel
      have lo : (Str.ofString "0o").length = 2 := by decide +kernel
      have l1 : (Str.ofString "1").length = 1 := by decide +kernel
      have lf : (Str.ofString "f").length = 1 := by decide +kernel
      have l0 : (Str.ofString "0").length = 1 := by decide +kernel
      have tb : Tq B8 2 (Str.ofString "0b") := ⟨by rw [lb]; decide, by decide +kernel⟩
      have tx : Tq B8 2 (Str.ofString "0x") := ⟨by rw [lx]; decide, by decide +kernel⟩
      have to : Tq B8 2 (Str.ofString "0o") := ⟨by rw [lo]; decide, by decide +kernel⟩
      have t1 : Tq B8 1 (Str.ofString "1") := ⟨by rw [l1]; decide, by decide +kernel⟩
      have tf : Tq B8 1 (Str.ofString "f") := ⟨by rw [lf]; decide, by decide +kernel⟩
      have t0 : Tq B8 1 (Str.ofString "0") := ⟨by rw [l0]; decide, by decide +kernel⟩
      refine ⟨.ref L, rfl, _, 50, rfl, rfl, by decide, by rw [l1]; decide, fun y1 hy1 => ?_⟩
      have k1 := many_ok tb t1 (by decide) hy1
      refine ⟨_, y1, rfl, rfl, Nat.le_of_lt (small1000 (by have := k1.le; rw [Str.length_append] at this; omega)), _, 50, rfl, rfl, by decide, by rw [lf]; decide, fun y2 hy2 => ?_⟩
      have k2 := many_ok tx tf (by decide) hy2
      refine ⟨_, y2, rfl, rfl, Nat.le_of_lt (small1000 (by have := k2.le; rw [Str.length_append] at this; omega)), _, 51, rfl, rfl, by decide, by rw [l1]; decide, fun y3 hy3 => ?_⟩
      have k3 := many_ok tb t1 (by decide) hy3
      refine ⟨_, y3, rfl, rfl, Nat.le_of_lt (small1000 (by have := k3.le; rw [Str.length_append] at this; omega)), _, 50, rfl, rfl, by decide, by rw [l0]; decide, fun y4 hy4 => ?_⟩
      have k4 := many_ok to t0 (by decide) hy4
      refine ⟨_, y4, rfl, rfl, Nat.le_of_lt (small1000 (by have := k4.le; rw [Str.length_append] at this; omega)), by show 4 ≤ sizeLine; decide, fun L2 nL2 => ?_⟩
      have e42 : (upd H4 L2 (.lst ([Str.ofString "0b" ++ y1, Str.ofString "0x" ++ y2, Str.ofString "0b" ++ y3, Str.ofString "0o" ++ y4].map V.str))) L = some (.lst (words12.map V.str)) := by
        rw [upd_ne (ne_of_none e4' nL2)]
        exact e4'
      have sL2 : Same H4 (upd H4 L2 (.lst ([Str.ofString "0b" ++ y1, Str.ofString "0x" ++ y2, Str.ofString "0b" ++ y3, Str.ofString "0o" ++ y4].map V.str))) := same_upd nL2
      refine ⟨L, L2, words12.map V.str, [Str.ofString "0b" ++ y1, Str.ofString "0x" ++ y2, Str.ofString "0b" ++ y3, Str.ofString "0o" ++ y4].map V.str, rfl, rfl, e42, upd_same, by show 12 + 4 ≤ sizeLine; decide, fun L3 nL3 => ?_⟩
      rw [← List.map_append]
      have okW : ∀ y ∈ words12 ++ [Str.ofString "0b" ++ y1, Str.ofString "0x" ++ y2, Str.ofString "0b" ++ y3, Str.ofString "0o" ++ y4], Tq B8 60 y := by
        intro y hy
        rcases List.mem_append.mp hy with h | h
        · exact words12_ok y h
        · rcases List.mem_cons.mp h with h | h
          · rw [h]
            exact k1
          · rcases List.mem_cons.mp h with h | h
            · rw [h]
              exact k2
            · rcases List.mem_cons.mp h with h | h
              · rw [h]
                exact k3
              · rw [List.mem_singleton.mp h]
                exact k4
      have lW : (words12 ++ [Str.ofString "0b" ++ y1, Str.ofString "0x" ++ y2, Str.ofString "0b" ++ y3, Str.ofString "0o" ++ y4]).length = 16 := rfl
      generalize words12 ++ [Str.ofString "0b" ++ y1, Str.ofString "0x" ++ y2, Str.ofString "0b" ++ y3, Str.ofString "0o" ++ y4] = ws at okW lW
      first | refine go nL3 fun H5 s5 e5 => ?_ | refine goT nL3 fun H5 s5 e5 => ?_
      refine ⟨.ref L3, rfl, L3, rfl, ⟨_, SqL.of e5⟩, fun D nD => ?_⟩
      refine lc_list (K := K) (a := L3) (xs := ws.map V.str) (fun i Hc => Same H5 Hc ∧ i ≤ 16 ∧ Hc D = some (.lst ((List.replicate i true).map V.bl))) ⟨same_upd nD, by decide, upd_same⟩ (fun i Hc _ ⟨sc, _⟩ => SqL.of (sc _ _ e5)) (fun i x Hc hx ⟨sc, i16, eD⟩ => ?_) (fun Hc ⟨sc, i16, eD⟩ => ?_)
      · have hi : i < 16 := by
          rcases List.getElem?_eq_some_iff.mp hx with ⟨h, _⟩
          rw [List.length_map, lW] at h
          exact h
        rw [List.getElem?_map] at hx
        obtain ⟨y, ey, rfl⟩ := Option.map_eq_some_iff.mp hx
        refine ⟨rfl, _, rfl, _, rfl, y, rfl, okW y (List.mem_of_getElem? ey), fun H9 s9 => ?_⟩
        refine ⟨_, s9 _ _ eD, ?_, ?_, by omega, ?_⟩
        · rw [List.length_map, List.length_replicate]
          exact small1000 (by omega)
        · intro b o' e
          rw [upd_ne (ne_of_none e nD)]
          exact s9 _ _ (sc b o' e)
        · rw [upd_same, List.replicate_succ', List.map_append]
          rfl
      · refine ⟨D, _, rfl, SqL.of eD, ?_⟩
        rw [List.length_map, lW, show (List.replicate 16 true).all id = true from rfl]
        exact q _
end
end WB

set_option Elab.async false
set_option linter.all false
set_option maxRecDepth 100000
set_option maxHeartbeats 4000000
namespace WB
open PySem PySem.Spec PyProof.Rows L2 WG
open TL (tl)
theorem df_mk {K : PySem.W.Frag} {h : Heap} {mg : Str → Option Value} {x : Str} {st : Stmt} {ps : List Str} {f : Addr} {oc : Value} {od an : Option Addr} {osl : Array (Option Value)} {kV doc pm cdv ct : Value} (X : K.In h) (G : h.Ns mainGlobals mg)
    (a : PySem.W.nsIn K mainGlobals x = some (some (.ref f))) (l : K.lookup f = some ⟨oc, od, .func (PySem.W.fnOf x x (defArgs st) (defBody st) (defScope st) .none kV doc pm an cdv ct), osl⟩)
    (c : PySem.W.codeIn K cdv x = true) (k : PySem.W.keepIn K (.ref f) = true)
    (b : ∀ (kV doc pm : Value) (an : Option Addr) (cdv ct : Value) (us : List Value), us.length = ps.length → bindArgs (PySem.W.fnOf x x (defArgs st) (defBody st) (defScope st) .none kV doc pm an cdv ct) ⟨us, []⟩ = pure (ps.zip us)) :
    Df K mg x st ps f (PySem.W.fnOf x x (defArgs st) (defBody st) (defScope st) .none kV doc pm an cdv ct) := by
  have F := fun_mk (st := st) l c k
  exact ⟨F, F.binds b, PySem.W.mg_of X G a⟩
theorem all_mk {l : PySem.W.OpenLaw} {w : World} {K : PySem.W.Frag} {h : Heap} {mg : Str → Option Value} {fa : Addr} (X : K.In h) (G : h.Ns mainGlobals mg) (hfa : mg "law" = some (.ref fa))
    {fCell : Addr} {odCell anCell : Option Addr} {slCell : Array (Option Value)} {ocCell kVCell dcCell pmCell cdCell ctCell : Value} {fPot : Addr} {odPot anPot : Option Addr} {slPot : Array (Option Value)} {ocPot kVPot dcPot pmPot cdPot ctPot : Value} {fDraw : Addr} {odDraw anDraw : Option Addr} {slDraw : Array (Option Value)} {ocDraw kVDraw dcDraw pmDraw cdDraw ctDraw : Value} {fSigns : Addr} {odSigns anSigns : Option Addr} {slSigns : Array (Option Value)} {ocSigns kVSigns dcSigns pmSigns cdSigns ctSigns : Value} {fWord : Addr} {odWord anWord : Option Addr} {slWord : Array (Option Value)} {ocWord kVWord dcWord pmWord cdWord ctWord : Value} {fNumber : Addr} {odNumber anNumber : Option Addr} {slNumber : Array (Option Value)} {ocNumber kVNumber dcNumber pmNumber cdNumber ctNumber : Value} {fLMade : Addr} {odLMade anLMade : Option Addr} {slLMade : Array (Option Value)} {ocLMade kVLMade dcLMade pmLMade cdLMade ctLMade : Value} {fRight : Addr} {odRight anRight : Option Addr} {slRight : Array (Option Value)} {ocRight kVRight dcRight pmRight cdRight ctRight : Value} {fOwn : Addr} {odOwn anOwn : Option Addr} {slOwn : Array (Option Value)} {ocOwn kVOwn dcOwn pmOwn cdOwn ctOwn : Value} {fFigs : Addr} {odFigs anFigs : Option Addr} {slFigs : Array (Option Value)} {ocFigs kVFigs dcFigs pmFigs cdFigs ctFigs : Value} {fBased : Addr} {odBased anBased : Option Addr} {slBased : Array (Option Value)} {ocBased kVBased dcBased pmBased cdBased ctBased : Value} {CU BE : Addr} {nmU qU : Str} {NU : Addr} {bsU : List Value} {snU : List Str} {subU : List Value} {abU : Bool} {colU : Option Bool} {ddU : Option Addr} {m0 m1 m2 m3 m5 : Option Value} {TD : Addr} {odTD : Option Addr} {ocTD : Value} {tTD : Tok} {nTD : Nat} {slTD : Array (Option Value)} {fE : Addr} {odE anE : Option Addr} {slE : Array (Option Value)} {ocE kVE dcE pmE cdE ctE : Value} {aO : Addr} {nO : Nat} {h1 h2 h3 h4 h5 h6 : Int} {t1 t2 t3 t4 t5 t6 : Tok} {T1 T2 T3 T4 T5 T6 : Addr} {odT3 : Option Addr} {sT3 : Tok} {nT3 : Nat} {slT3 : Array (Option Value)} {u1 u2 : Tok} {aBS : Addr} {nBS : Nat} {g1 g2 g3 : Int} {s1 s2 s3 i1 i2 i3 : Tok} {fLaw : Addr} {odLaw anLaw : Option Addr} {slLaw : Array (Option Value)} {ocLaw kVLaw dcLaw pmLaw cdLaw ctLaw : Value}
    (aCell : PySem.W.nsIn K mainGlobals "_law_cell" = some (some (.ref fCell)))
    (lCell : K.lookup fCell = some ⟨ocCell, odCell, .func (PySem.W.fnOf "_law_cell" "_law_cell" (defArgs sCell) (defBody sCell) (defScope sCell) .none kVCell dcCell pmCell anCell cdCell ctCell), slCell⟩)
    (cCell : PySem.W.codeIn K cdCell "_law_cell" = true)
    (kCell : PySem.W.keepIn K (.ref fCell) = true)
    (aPot : PySem.W.nsIn K mainGlobals "_law_pot" = some (some (.ref fPot)))
    (lPot : K.lookup fPot = some ⟨ocPot, odPot, .func (PySem.W.fnOf "_law_pot" "_law_pot" (defArgs sPot) (defBody sPot) (defScope sPot) .none kVPot dcPot pmPot anPot cdPot ctPot), slPot⟩)
    (cPot : PySem.W.codeIn K cdPot "_law_pot" = true)
    (kPot : PySem.W.keepIn K (.ref fPot) = true)
    (aDraw : PySem.W.nsIn K mainGlobals "_law_draw" = some (some (.ref fDraw)))
    (lDraw : K.lookup fDraw = some ⟨ocDraw, odDraw, .func (PySem.W.fnOf "_law_draw" "_law_draw" (defArgs sDraw) (defBody sDraw) (defScope sDraw) .none kVDraw dcDraw pmDraw anDraw cdDraw ctDraw), slDraw⟩)
    (cDraw : PySem.W.codeIn K cdDraw "_law_draw" = true)
    (kDraw : PySem.W.keepIn K (.ref fDraw) = true)
    (aSigns : PySem.W.nsIn K mainGlobals "_law_signs" = some (some (.ref fSigns)))
    (lSigns : K.lookup fSigns = some ⟨ocSigns, odSigns, .func (PySem.W.fnOf "_law_signs" "_law_signs" (defArgs st_signs) (defBody st_signs) (defScope st_signs) .none kVSigns dcSigns pmSigns anSigns cdSigns ctSigns), slSigns⟩)
    (cSigns : PySem.W.codeIn K cdSigns "_law_signs" = true)
    (kSigns : PySem.W.keepIn K (.ref fSigns) = true)
    (aWord : PySem.W.nsIn K mainGlobals "_law_word" = some (some (.ref fWord)))
    (lWord : K.lookup fWord = some ⟨ocWord, odWord, .func (PySem.W.fnOf "_law_word" "_law_word" (defArgs st_word) (defBody st_word) (defScope st_word) .none kVWord dcWord pmWord anWord cdWord ctWord), slWord⟩)
    (cWord : PySem.W.codeIn K cdWord "_law_word" = true)
    (kWord : PySem.W.keepIn K (.ref fWord) = true)
    (aNumber : PySem.W.nsIn K mainGlobals "_law_number" = some (some (.ref fNumber)))
    (lNumber : K.lookup fNumber = some ⟨ocNumber, odNumber, .func (PySem.W.fnOf "_law_number" "_law_number" (defArgs st_number) (defBody st_number) (defScope st_number) .none kVNumber dcNumber pmNumber anNumber cdNumber ctNumber), slNumber⟩)
    (cNumber : PySem.W.codeIn K cdNumber "_law_number" = true)
    (kNumber : PySem.W.keepIn K (.ref fNumber) = true)
    (aLMade : PySem.W.nsIn K mainGlobals "_law_made" = some (some (.ref fLMade)))
    (lLMade : K.lookup fLMade = some ⟨ocLMade, odLMade, .func (PySem.W.fnOf "_law_made" "_law_made" (defArgs st_made) (defBody st_made) (defScope st_made) .none kVLMade dcLMade pmLMade anLMade cdLMade ctLMade), slLMade⟩)
    (cLMade : PySem.W.codeIn K cdLMade "_law_made" = true)
    (kLMade : PySem.W.keepIn K (.ref fLMade) = true)
    (aRight : PySem.W.nsIn K mainGlobals "_law_right" = some (some (.ref fRight)))
    (lRight : K.lookup fRight = some ⟨ocRight, odRight, .func (PySem.W.fnOf "_law_right" "_law_right" (defArgs st_right) (defBody st_right) (defScope st_right) .none kVRight dcRight pmRight anRight cdRight ctRight), slRight⟩)
    (cRight : PySem.W.codeIn K cdRight "_law_right" = true)
    (kRight : PySem.W.keepIn K (.ref fRight) = true)
    (aOwn : PySem.W.nsIn K mainGlobals "own_makers" = some (some (.ref fOwn)))
    (lOwn : K.lookup fOwn = some ⟨ocOwn, odOwn, .func (PySem.W.fnOf "own_makers" "own_makers" (defArgs st_own_makers) (defBody st_own_makers) (defScope st_own_makers) .none kVOwn dcOwn pmOwn anOwn cdOwn ctOwn), slOwn⟩)
    (cOwn : PySem.W.codeIn K cdOwn "own_makers" = true)
    (kOwn : PySem.W.keepIn K (.ref fOwn) = true)
    (aFigs : PySem.W.nsIn K mainGlobals "are_figures" = some (some (.ref fFigs)))
    (lFigs : K.lookup fFigs = some ⟨ocFigs, odFigs, .func (PySem.W.fnOf "are_figures" "are_figures" (defArgs st_are_figures) (defBody st_are_figures) (defScope st_are_figures) .none kVFigs dcFigs pmFigs anFigs cdFigs ctFigs), slFigs⟩)
    (cFigs : PySem.W.codeIn K cdFigs "are_figures" = true)
    (kFigs : PySem.W.keepIn K (.ref fFigs) = true)
    (aBased : PySem.W.nsIn K mainGlobals "as_based" = some (some (.ref fBased)))
    (lBased : K.lookup fBased = some ⟨ocBased, odBased, .func (PySem.W.fnOf "as_based" "as_based" (defArgs st_as_based) (defBody st_as_based) (defScope st_as_based) .none kVBased dcBased pmBased anBased cdBased ctBased), slBased⟩)
    (cBased : PySem.W.codeIn K cdBased "as_based" = true)
    (kBased : PySem.W.keepIn K (.ref fBased) = true)
    (aB : PySem.W.nsIn K mainGlobals "BenchError" = some (some (.ref BE)))
    (aN : PySem.W.nsIn K mainGlobals "Unmade" = some (some (.ref CU)))
    (xN : K.lookup CU = some (excClassObj nmU qU CU NU bsU [.type "ValueError", .type "Exception", .type "BaseException", .type "object"] true snU subU abU colU ddU m0 m1 m2 m3 m5 "ValueError.__new__"))
    (aE : PySem.W.findIn K (.ref CU) "__init__" = some (some (.ref fE)))
    (lE : K.lookup fE = some ⟨ocE, odE, .func (PySem.W.fnOf "__init__" "Unmade.__init__" (defArgs st_err) (defBody st_err) (defScope st_err) (.ref TD) kVE dcE pmE anE cdE ctE), slE⟩)
    (cE : PySem.W.codeIn K cdE "Unmade.__init__" = true)
    (kE : PySem.W.keepIn K (.ref fE) = true)
    (lTD : K.lookup TD = some ⟨ocTD, odTD, .seq [.str (Str.ofString "") tTD].toArray nTD, slTD⟩)
    (tE : PySem.W.typeIn K (.ref fE) = some (.type "function"))
    (saN : PySem.W.findIn K (.ref CU) "__setattr__" = some (some (.builtin "object.__setattr__")))
    (gaN : PySem.W.findIn K (.ref CU) "__getattribute__" = some (some (.builtin "BaseException.__getattribute__")))
    (ggN : PySem.W.findIn K (.ref CU) "__getattr__" = some none)
    (nfN : PySem.W.findIn K (.ref CU) "why" = some none)
    (hcN : PySem.W.findIn K (.ref CU) "__class__" = some (some (.builtin "object.__class__")))
    (kN : PySem.W.keepIn K (.ref CU) = true)
    (eN : PySem.W.subIn K (.ref CU) (.type "BaseException") = some true)
    (tN : PySem.W.typeIn K (.ref CU) = some (.type "type"))
    (hdN : PySem.W.hasDictIn K CU = true)
    (sN : PySem.W.subIn K (.ref CU) (.ref CU) = some true)
    (spN : PySem.W.specialIn K (.builtin "object.__class__") "__get__" = some (some (.builtin "getset_descriptor.__get__")))
    (tkN : PySem.W.takesIn K (.builtin "object.__class__") = some true)
    (moN : PySem.W.mroIn K CU (.type "object") = some true)
    (tB : PySem.W.typeIn K (.ref BE) = some (.type "type"))
    (hdB : PySem.W.hasDictIn K BE = true)
    (sB : PySem.W.subIn K (.ref CU) (.ref BE) = some false)
    (sV : PySem.W.subIn K (.ref CU) (.type "ValueError") = some true)
    (aO_ : PySem.W.nsIn K mainGlobals "OWN_MAKERS" = some (some (.ref aO)))
    (lO : K.lookup aO = some ⟨.type "dict", none, .dict (⟨[⟨h1, .str (Str.ofString "word") t1, .ref T1⟩, ⟨h2, .str (Str.ofString "whole") t2, .ref T2⟩, ⟨h3, .str (Str.ofString "based") t3, .ref T3⟩, ⟨h4, .str (Str.ofString "yesno") t4, .ref T4⟩, ⟨h5, .str (Str.ofString "pair") t5, .ref T5⟩, ⟨h6, .str (Str.ofString "list") t6, .ref T6⟩]⟩ : Array DictEntry) nO, #[]⟩)
    (hh1 : h1 = PyData.keyHash w.params (Str.ofString "word"))
    (hh2 : h2 = PyData.keyHash w.params (Str.ofString "whole"))
    (hh3 : h3 = PyData.keyHash w.params (Str.ofString "based"))
    (hh4 : h4 = PyData.keyHash w.params (Str.ofString "yesno"))
    (hh5 : h5 = PyData.keyHash w.params (Str.ofString "pair"))
    (hh6 : h6 = PyData.keyHash w.params (Str.ofString "list"))
    (lowO : (aO == sysModules) = false)
    (lT3 : K.lookup T3 = some ⟨.type "tuple", odT3, .seq [.ref fBased, .str (Str.ofString "0x1f") sT3].toArray nT3, slT3⟩)
    (v1 : PySem.W.nsIn K mainGlobals "FIGURES" = some (some (.str figS u1)))
    (v2 : PySem.W.nsIn K mainGlobals "MOST_BASED_FIGURES" = some (some (.int 50 u2)))
    (v3 : PySem.W.nsIn K mainGlobals "BASES" = some (some (.ref aBS)))
    (lBS : K.lookup aBS = some ⟨.type "dict", none, .dict (⟨[⟨g1, .str (Str.ofString "0b") s1, .int 2 i1⟩, ⟨g2, .str (Str.ofString "0o") s2, .int 8 i2⟩, ⟨g3, .str (Str.ofString "0x") s3, .int 16 i3⟩]⟩ : Array DictEntry) nBS, #[]⟩)
    (gg1 : g1 = PyData.keyHash w.params (Str.ofString "0b"))
    (gg2 : g2 = PyData.keyHash w.params (Str.ofString "0o"))
    (gg3 : g3 = PyData.keyHash w.params (Str.ofString "0x"))
    (lowB : (aBS == sysModules) = false)
    (z_len : PySem.W.nsIn K mainGlobals "len" = some none)
    (z_max : PySem.W.nsIn K mainGlobals "max" = some none)
    (z_min : PySem.W.nsIn K mainGlobals "min" = some none)
    (z_divmod : PySem.W.nsIn K mainGlobals "divmod" = some none)
    (z_range : PySem.W.nsIn K mainGlobals "range" = some none)
    (z_int : PySem.W.nsIn K mainGlobals "int" = some none)
    (z_bool : PySem.W.nsIn K mainGlobals "bool" = some none)
    (z_str : PySem.W.nsIn K mainGlobals "str" = some none)
    (z_isinstance : PySem.W.nsIn K mainGlobals "isinstance" = some none)
    (z_all : PySem.W.nsIn K mainGlobals "all" = some none)
    (z_dict : PySem.W.nsIn K mainGlobals "dict" = some none)
    (z_ValueError : PySem.W.nsIn K mainGlobals "ValueError" = some none)
    (aLaw : PySem.W.nsIn K mainGlobals "law" = some (some (.ref fLaw)))
    (lLaw : K.lookup fLaw = some ⟨ocLaw, odLaw, .func (PySem.W.fnOf "law" "law" (defArgs st_law) (defBody st_law) (defScope st_law) .none kVLaw dcLaw pmLaw anLaw cdLaw ctLaw), slLaw⟩)
    (cLaw : PySem.W.codeIn K cdLaw "law" = true)
    (kLaw : PySem.W.keepIn K (.ref fLaw) = true) :
    ∃ fd : FuncData, (∀ (s : Shared) (v : Value), BindsTo s fd ⟨[v], []⟩ [("_law_script", v)]) ∧ ∀ base : Heap, K.In base → base.Ns mainGlobals mg → FnOk l.prog w K mg base CX0 6 fa fd ["_law_script"] (spLaw K) := by
  have e := hfa.symm.trans (PySem.W.mg_of X G aLaw)
  cases e
  have g0 : ∀ {x : Str}, PySem.W.nsIn K mainGlobals x = some none → mg x = none := fun {x} z => PySem.W.mg_none_of X G z
  have DCell := df_mk (st := sCell) (ps := ["_law_script", "_law_k"]) X G aCell lCell cCell kCell fun _ _ _ _ _ _ us hl => match us, hl with | [_, _], _ => rfl
  have DPot := df_mk (st := sPot) (ps := ["_law_script", "_law_k"]) X G aPot lPot cPot kPot fun _ _ _ _ _ _ us hl => match us, hl with | [_, _], _ => rfl
  have DDraw := df_mk (st := sDraw) (ps := ["_law_pot_here", "_law_many"]) X G aDraw lDraw cDraw kDraw fun _ _ _ _ _ _ us hl => match us, hl with | [_, _], _ => rfl
  have DSigns := df_mk (st := st_signs) (ps := []) X G aSigns lSigns cSigns kSigns fun _ _ _ _ _ _ us hl => match us, hl with | [], _ => rfl
  have DWord := df_mk (st := st_word) (ps := ["_law_pot_here"]) X G aWord lWord cWord kWord fun _ _ _ _ _ _ us hl => match us, hl with | [_], _ => rfl
  have DNumber := df_mk (st := st_number) (ps := ["_law_word_here"]) X G aNumber lNumber cNumber kNumber fun _ _ _ _ _ _ us hl => match us, hl with | [_], _ => rfl
  have DLMade := df_mk (st := st_made) (ps := ["_law_maker", "_law_word_here"]) X G aLMade lLMade cLMade kLMade fun _ _ _ _ _ _ us hl => match us, hl with | [_, _], _ => rfl
  have DRight := df_mk (st := st_right) (ps := ["_law_maker", "_law_word_here"]) X G aRight lRight cRight kRight fun _ _ _ _ _ _ us hl => match us, hl with | [_, _], _ => rfl
  have DOwn := df_mk (st := st_own_makers) (ps := []) X G aOwn lOwn cOwn kOwn fun _ _ _ _ _ _ us hl => match us, hl with | [], _ => rfl
  have DFigs := df_mk (st := st_are_figures) (ps := ["text", "base", "most"]) X G aFigs lFigs cFigs kFigs fun _ _ _ _ _ _ us hl => match us, hl with | [_, _, _], _ => rfl
  have DBased := df_mk (st := st_as_based) (ps := ["word"]) X G aBased lBased cBased kBased fun _ _ _ _ _ _ us hl => match us, hl with | [_], _ => rfl
  have FLaw := fun_mk (st := st_law) lLaw cLaw kLaw
  have FE : ErrD K fE _ := ⟨⟨_, _, _, _, _, _, _, _, _, _, rfl, lE, cE, .inr ⟨by simp, TD, _, _, _, rfl, lTD, rfl, .cons ⟨_, rfl⟩ .nil⟩, .inl rfl⟩, kE⟩
  have TE : ErrT K mg "Unmade" CU fE _ := ⟨⟨⟨nmU, qU, NU, bsU, _, snU, subU, abU, colU, ddU, m0, m1, m2, m3, m5, xN, rfl⟩, saN, eN, tN, kN⟩, aE, tE, nfN, PySem.W.mg_of X G aN, err_b2 FE⟩
  have CT : CaughtT K CU BE := ⟨⟨gaN, ggN, eN, hdN⟩, ⟨gaN, ggN, eN, hdN, hcN, spN, tkN, moN⟩, PySem.W.exm_ref eN hdN tN sN, kit_subT (by decide +kernel) sV, kit_subR hdB tB sB sN⟩
  have hO : KDic K w aO (ownKvs T1 T2 T3 T4 T5 T6) := ⟨_, _, lO, lowO, .cons hh1 rfl (.cons hh2 rfl (.cons hh3 rfl (.cons hh4 rfl (.cons hh5 rfl (.cons hh6 rfl .nil))))), (by show ([Sum.inr (Str.ofString "word"), Sum.inr (Str.ofString "whole"), Sum.inr (Str.ofString "based"), Sum.inr (Str.ofString "yesno"), Sum.inr (Str.ofString "pair"), Sum.inr (Str.ofString "list")] : List Key).Nodup; decide +kernel), (by show 6 ≤ 1000; decide)⟩
  have hT3 : ∀ H : Hp, SqT K H T3 [.ref fBased, .str (Str.ofString "0x1f")] := fun H => .inr ⟨_, _, _, lT3, rfl, rfl, by simp [sizeLine_eq], .cons rfl (.cons ⟨_, rfl⟩ .nil)⟩
  have hBS : KDic K w aBS baseKvs := ⟨_, _, lBS, lowB, .cons gg1 ⟨_, rfl⟩ (.cons gg2 ⟨_, rfl⟩ (.cons gg3 ⟨_, rfl⟩ .nil)), (by decide +kernel), (by decide)⟩
  refine ⟨PySem.W.fnOf "law" "law" (defArgs st_law) (defBody st_law) (defScope st_law) .none kVLaw dcLaw pmLaw anLaw cdLaw ctLaw, fun s v => ?_, fun base _ _ => ?_⟩
  · exact .of_eq rfl
  · have GW : ∀ j : Nat, FnOk l.prog w K mg base (L2.CX l.prog w) (j + 3) fBased _ ["word"] (spInt CU gB) := fun j => ok_based DBased.F FE TE DFigs (g0 z_len) (g0 z_all) (g0 z_int) (PySem.W.mg_of X G v1) (PySem.W.mg_of X G v2) (PySem.W.mg_of X G v3) hBS
    have GL : ∀ j : Nat, FnOk l.prog w K mg base CX0 (j + 4) fLMade _ ["_law_maker", "_law_word_here"] (spLMade fBased gB) := fun j => ok_lmade DLMade.F (GW j) DBased.F.kp DBased.b TE CT (PySem.W.mg_of X G aB) (g0 z_isinstance) (g0 z_str) (g0 z_ValueError)
    exact ok_law (k := 3) FLaw DCell DPot DDraw DSigns DWord DOwn DLMade DRight DNumber (GL 0) (GL 1) (ok_own DOwn.F (g0 z_dict) (PySem.W.mg_of X G aO_) hO) hT3 (g0 z_len) (g0 z_max) (g0 z_min) (g0 z_divmod) (g0 z_range) (g0 z_int) (g0 z_bool) (g0 z_str) (g0 z_isinstance) (g0 z_all)
end WB

open PySem PySem.W PyProof.Rows
set_option maxRecDepth 100000
set_option Elab.async false
set_option maxHeartbeats 0 in
theorem PySem.Challenge.cw_wordbench_k32_numbers_of_bases_holds : PySem.Challenge.rw_wordbench_k32_numbers_of_bases.Holds := by
  w_on; o_law; k_head; (case hw => w_witness2)
  k_fill
  refine L2.walk_of (l := PySem.Challenge.rw_wordbench_k32_numbers_of_bases) (n := 63) (k := 6) (x := "_law_script") (CX := fun _ => L2.CX0) (sp := fun w => WB.spLaw _) rfl (by decide) rfl ⟨rfl, by decide, by decide⟩ (fun w h Y => PySem.W.kIn_of Y) ?F (fun _ _ a ns hl _ hS => ⟨a, ns, rfl, hS, hl, fun _ => rfl⟩) (fun _ _ _ _ _ h => h)
  case F =>
    intro w mg fa h KX G hmg
    refine' WB.all_mk KX G hmg ?aCell ?lCell ?cCell ?kCell ?aPot ?lPot ?cPot ?kPot ?aDraw ?lDraw ?cDraw ?kDraw ?aSigns ?lSigns ?cSigns ?kSigns ?aWord ?lWord ?cWord ?kWord ?aNumber ?lNumber ?cNumber ?kNumber ?aLMade ?lLMade ?cLMade ?kLMade ?aRight ?lRight ?cRight ?kRight ?aOwn ?lOwn ?cOwn ?kOwn ?aFigs ?lFigs ?cFigs ?kFigs ?aBased ?lBased ?cBased ?kBased ?aB ?aN ?xN ?aE ?lE ?cE ?kE ?lTD ?tE ?saN ?gaN ?ggN ?nfN ?hcN ?kN ?eN ?tN ?hdN ?sN ?spN ?tkN ?moN ?tB ?hdB ?sB ?sV ?aO_ ?lO ?hh1 ?hh2 ?hh3 ?hh4 ?hh5 ?hh6 ?lowO ?lT3 ?v1 ?v2 ?v3 ?lBS ?gg1 ?gg2 ?gg3 ?lowB ?z_len ?z_max ?z_min ?z_divmod ?z_range ?z_int ?z_bool ?z_str ?z_isinstance ?z_all ?z_dict ?z_ValueError ?aLaw ?lLaw ?cLaw ?kLaw
    (case aCell => k_is)
    (case lCell => k_is)
    (case cCell => k_is)
    (case kCell => k_is)
    (case aPot => k_is)
    (case lPot => k_is)
    (case cPot => k_is)
    (case kPot => k_is)
    (case aDraw => k_is)
    (case lDraw => k_is)
    (case cDraw => k_is)
    (case kDraw => k_is)
    (case aSigns => k_is)
    (case lSigns => k_is)
    (case cSigns => k_is)
    (case kSigns => k_is)
    (case aWord => k_is)
    (case lWord => k_is)
    (case cWord => k_is)
    (case kWord => k_is)
    (case aNumber => k_is)
    (case lNumber => k_is)
    (case cNumber => k_is)
    (case kNumber => k_is)
    (case aLMade => k_is)
    (case lLMade => k_is)
    (case cLMade => k_is)
    (case kLMade => k_is)
    (case aRight => k_is)
    (case lRight => k_is)
    (case cRight => k_is)
    (case kRight => k_is)
    (case aOwn => k_is)
    (case lOwn => k_is)
    (case cOwn => k_is)
    (case kOwn => k_is)
    (case aFigs => k_is)
    (case lFigs => k_is)
    (case cFigs => k_is)
    (case kFigs => k_is)
    (case aBased => k_is)
    (case lBased => k_is)
    (case cBased => k_is)
    (case kBased => k_is)
    (case aB => k_is)
    (case aN => k_is)
    (case xN => k_is)
    (case aE => k_is)
    (case lE => k_is)
    (case cE => k_is)
    (case kE => k_is)
    (case lTD => k_is)
    (case tE => k_is)
    (case saN => k_is)
    (case gaN => k_is)
    (case ggN => k_is)
    (case nfN => k_is)
    (case hcN => k_is)
    (case kN => k_is)
    (case eN => k_is)
    (case tN => k_is)
    (case hdN => k_is)
    (case sN => k_is)
    (case spN => k_is)
    (case tkN => k_is)
    (case moN => k_is)
    (case tB => k_is)
    (case hdB => k_is)
    (case sB => k_is)
    (case sV => k_is)
    (case aO_ => k_is)
    (case lO => k_is)
    (case hh1 => exact rfl)
    (case hh2 => exact rfl)
    (case hh3 => exact rfl)
    (case hh4 => exact rfl)
    (case hh5 => exact rfl)
    (case hh6 => exact rfl)
    (case lowO => first | exact rfl | decide +kernel)
    (case lT3 => k_is)
    (case v1 => k_is)
    (case v2 => k_is)
    (case v3 => k_is)
    (case lBS => k_is)
    (case gg1 => exact rfl)
    (case gg2 => exact rfl)
    (case gg3 => exact rfl)
    (case lowB => first | exact rfl | decide +kernel)
    (case z_len => k_is)
    (case z_max => k_is)
    (case z_min => k_is)
    (case z_divmod => k_is)
    (case z_range => k_is)
    (case z_int => k_is)
    (case z_bool => k_is)
    (case z_str => k_is)
    (case z_isinstance => k_is)
    (case z_all => k_is)
    (case z_dict => k_is)
    (case z_ValueError => k_is)
    (case aLaw => k_is)
    (case lLaw => k_is)
    (case cLaw => k_is)
    (case kLaw => k_is)
