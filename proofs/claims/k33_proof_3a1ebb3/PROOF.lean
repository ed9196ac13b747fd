import PyProof.Rows.All
import Wide.All
import OpenK.AllK
import Wide.FinOn
import PySem.Challenge.RW_wordbench_k33_truths_pairs_tuples
import HandS.ForMost
import HandS.IsInst
import KE.KIsAll
import PyProof.ReprRoads
import PyProof.StrBlock2
import HandS.Exc
import HandS.ExcInit
import HandS.ExcField
import HandS.ExcIs
import HandS.TryOnly
import HandS.WordsExc
import HandS.Defaults
import HandS.MakeKw
import HandS.MakeKwOnly
import HandS.CallLocal
import HandS.ExcOwn
import HandS.StrMore
import HandS.More
import HandS.Text
import HandS.Finally
import PyProof.Rows.StrNews2
import PyProof.MeetsStr3
import PyProof.StrLawsLast
import HandS.Walk
import PyProof.ReprLen
import HandS.Style
set_option Elab.async false
set_option linter.all false
set_option maxRecDepth 100000
set_option maxHeartbeats 4000000
namespace WB
open PySem PySem.Spec PyProof.Rows L2
open TL (tl)
def topS (i : Nat) : Stmt := PySem.Challenge.pw_wordbench_k33_truths_pairs_tuples.main.body.getD i (.Pass ⟨0, 0, 0, 0⟩)
abbrev st_cell : Stmt := topS 18
theorem sc_cell : FnScope ["_law_script", "_law_k"] ["_law_script", "_law_k"] (defScope st_cell) := ⟨rfl, rfl, rfl, by decide +kernel, rfl, by decide +kernel, by decide +kernel⟩
abbrev st_pot : Stmt := topS 19
theorem sc_pot : FnScope ["_law_script", "_law_k", "_law_cell_here"] ["_law_script", "_law_k"] (defScope st_pot) := ⟨rfl, rfl, rfl, by decide +kernel, rfl, by decide +kernel, by decide +kernel⟩
abbrev st_draw : Stmt := topS 20
theorem sc_draw : FnScope ["_law_pot_here", "_law_many", "_law_digit"] ["_law_pot_here", "_law_many"] (defScope st_draw) := ⟨rfl, rfl, rfl, by decide +kernel, rfl, by decide +kernel, by decide +kernel⟩
abbrev sCell := st_cell
abbrev sPot := st_pot
abbrev sDraw := st_draw
abbrev scCell := sc_cell
abbrev scPot := sc_pot
abbrev scDraw := sc_draw
/-- a def of the top: its object, how it binds, its name -/
structure Df (K : PySem.W.Frag) (mg : Str → Option Value) (x : Str) (st : Stmt) (ps : List Str) (f : Addr) (fd : FuncData) : Prop where
  F : Fun K x x st f fd
  b : Binds K fd ps []
  g : mg x = some (.ref f)
/-! ### heaps -/
theorem same_upd {H : Hp} {p : Addr} {o : HO} (h : H p = none) : Same H (upd H p o) := fun b x e => by
  rw [upd_ne (ne_of_none e h)]
  exact e
/-- all that was tracked but at p is as it was -/
def But (p : Addr) (H H' : Hp) : Prop := ∀ b o, b ≠ p → H b = some o → H' b = some o
theorem But.refl (p : Addr) (H : Hp) : But p H H := fun _ _ _ h => h
theorem But.trans {p : Addr} {H H1 H2 : Hp} (a : But p H H1) (b : But p H1 H2) : But p H H2 := fun c o n h => b c o n (a c o n h)
theorem But.of_same {p : Addr} {H H' : Hp} (a : Same H H') : But p H H' := fun c o _ h => a c o h
theorem But.upd (p : Addr) (H : Hp) (o : HO) : But p H (upd H p o) := fun c u n h => by
  rw [upd_ne n]
  exact h
theorem But.new {p : Addr} {H : Hp} {q : Addr} {o : HO} (h : H q = none) : But p H (L2.upd H q o) := But.of_same (same_upd h)
/-- at p a pot stands -/
def Pot (H : Hp) (p : Addr) : Prop := ∃ a b : Int, H p = some (.lst [.int a, .int b]) ∧ 0 ≤ b ∧ b < 2147483648
theorem Pot.some {H : Hp} {p : Addr} (h : Pot H p) : ∃ o, H p = some o := by
  obtain ⟨a, b, e, _⟩ := h
  exact ⟨_, e⟩
theorem Pot.ne {H : Hp} {p q : Addr} (h : Pot H p) (n : H q = none) : p ≠ q := by
  obtain ⟨a, b, e, _⟩ := h
  exact ne_of_none e n
theorem Pot.new {H : Hp} {p q : Addr} {o : HO} (h : Pot H p) (n : H q = none) : Pot (L2.upd H q o) p := by
  have ne := h.ne n
  obtain ⟨a, b, e, h1, h2⟩ := h
  refine ⟨a, b, ?_, h1, h2⟩
  rw [upd_ne ne]
  exact e
/-! ### texts of some signs -/
structure Tq (p : Nat → Prop) (n : Nat) (y : Str) : Prop where
  le : y.length ≤ n
  pl : ∀ c ∈ tl y, p c
theorem Tq.mono {p q : Nat → Prop} {n m : Nat} {y : Str} (h : Tq p n y) (e : n ≤ m) (f : ∀ c, p c → q c) : Tq q m y := ⟨Nat.le_trans h.le e, fun c hc => f c (h.pl c hc)⟩
theorem Tq.app {p : Nat → Prop} {n m : Nat} {x y : Str} (h : Tq p n x) (k : Tq p m y) : Tq p (n + m) (x ++ y) := by
  refine ⟨?_, fun c hc => ?_⟩
  · rw [Str.length_append]
    exact Nat.add_le_add h.le k.le
  · rw [TL.tl_append] at hc
    exact (List.mem_append.mp hc).elim (h.pl c) (k.pl c)
theorem Tq.cut {p : Nat → Prop} {n : Nat} {x : Str} (h : Tq p n x) (lo hi : Option Int) : Tq p n (cutS x lo hi) := by
  refine ⟨Nat.le_trans (cutS_length x lo hi) h.le, fun c hc => h.pl c ?_⟩
  have e : c ∈ (x.cps.toList.drop _).take _ := hc
  exact List.mem_of_mem_drop (List.mem_of_mem_take e)
theorem Tq.sign {p : Nat → Prop} {c : Nat} (h : p c) : Tq p 1 ⟨#[c]⟩ := by
  refine ⟨Nat.le_refl 1, fun d hd => ?_⟩
  have e : d ∈ [c] := hd
  rw [List.mem_singleton.mp e]
  exact h
theorem mem_joinL (S : List Nat) : ∀ (ps : List (List Nat)) (c : Nat), c ∈ TL.joinL S ps → c ∈ S ∨ ∃ p ∈ ps, c ∈ p
  | [], c, h => by cases h
  | [p], c, h => .inr ⟨p, List.mem_singleton.mpr rfl, h⟩
  | p :: q :: r, c, h => by
    rcases List.mem_append.mp (show c ∈ p ++ (S ++ TL.joinL S (q :: r)) from h) with h | h
    · exact .inr ⟨p, List.mem_cons_self, h⟩
    · rcases List.mem_append.mp h with h | h
      · exact .inl h
      · rcases mem_joinL S (q :: r) c h with h | ⟨p', hp, hc⟩
        · exact .inl h
        · exact .inr ⟨p', List.mem_cons_of_mem _ hp, hc⟩
theorem sum_most {p : Nat → Prop} (m : Nat) : ∀ ys : List Str, (∀ y ∈ ys, Tq p m y) → (ys.map (·.length)).sum ≤ ys.length * m
  | [], _ => Nat.zero_le _
  | y :: r, h => by
    have h1 := sum_most m r fun z hz => h z (List.mem_cons_of_mem _ hz)
    have h2 := (h y List.mem_cons_self).le
    rw [List.map_cons, List.sum_cons, List.length_cons, Nat.succ_mul]
    omega
theorem Tq.join {p : Nat → Prop} {sep : Str} {k m n : Nat} {ys : List Str} (hs : Tq p k sep) (h : ∀ y ∈ ys, Tq p m y) (hn : ys.length * m + ys.length * k ≤ n) : Tq p n (Txt.join sep ys) := by
  refine ⟨?_, fun c hc => ?_⟩
  · rw [TL.join_eq]
    have e := StrLaws.join_length_le sep ys
    have e2 := sum_most m ys h
    have e3 : ys.length * sep.length ≤ ys.length * k := Nat.mul_le_mul_left _ hs.le
    omega
  · rw [TL.join_eq, TL.tl_join] at hc
    rcases mem_joinL _ _ c hc with h1 | ⟨p, hp, h1⟩
    · exact hs.pl c h1
    · obtain ⟨y, hy, rfl⟩ := List.mem_map.mp hp
      exact (h y hy).pl c h1
section
variable {P : Program} {w : World} {K : PySem.W.Frag} {mg : Str → Option Value} {base : Heap}
/-! ### _law_cell -/
def spCell (K : PySem.W.Frag) : Sp := fun vs H Q _ => ∃ (a : Addr) (ns : List Int) (k : Int), vs = [.ref a, .int k] ∧ SqL K H a (ns.map V.int) ∧ 0 ≤ k ∧ ∀ z : Int, Q (.int z) H
theorem ok_cell {f : Addr} {fd : FuncData} {k : Nat} (F : Fun K "_law_cell" "_law_cell" sCell f fd) (mL : mg "len" = none) : FnOk P w K mg base CX0 (k + 1) f fd ["_law_script", "_law_k"] (spCell K) := by
  refine F.ok scCell (fun vs H Q E h => ?_) (fun cdv A outer s H vs Q E hr h => ?_)
  · obtain ⟨a, ns, k, rfl, _⟩ := h
    rfl
  · obtain ⟨a, ns, k, rfl, hS, hk, q⟩ := h
    refine ⟨_, pss_one (ps_ret (pe_ifExp (pt_cmpR op_lt (pv 1) (pe_callB call_len_seq (by rfl) mL PySem.boot_len (pa_cons (pv 0) pa_nil)) (nomark _)) (pe_ix ix_list (pv 0) (pv 1) (fun _ _ => rfl)) pe_int)), ?_⟩
    refine ⟨.int k, rfl, .ref a, rfl, a, _, rfl, .inl hS, k, _, rfl, rfl, _, rfl, ite2 (fun e => ?_) (fun e => q 0)⟩
    have e1 := of_decide_eq_true e
    obtain ⟨n, rfl⟩ := Int.eq_ofNat_of_zero_le hk
    rw [List.length_map] at e1
    have hn : n < ns.length := by omega
    exact ⟨.ref a, rfl, .int n, rfl, a, _, _, .int ns[n], rfl, rfl, hS, atI_nat (j := n) (by rw [List.getElem?_map, List.getElem?_eq_getElem hn]; rfl), q _⟩
/-! ### _law_pot -/
def spPot (K : PySem.W.Frag) : Sp := fun vs H Q _ => ∃ (a : Addr) (ns : List Int) (k : Int), vs = [.ref a, .int k] ∧ SqL K H a (ns.map V.int) ∧ 0 ≤ k ∧
  ∀ H' p, Same H H' → H p = none → Pot H' p → Q (.ref p) H'
theorem ok_pot {f fC : Addr} {fd fdC : FuncData} {k : Nat} (F : Fun K "_law_pot" "_law_pot" sPot f fd) (C : Df K mg "_law_cell" sCell ["_law_script", "_law_k"] fC fdC) (mL : mg "len" = none) (mM : mg "max" = none) :
    FnOk P w K mg base CX0 (k + 2) f fd ["_law_script", "_law_k"] (spPot K) := by
  have GC : FnOk P w K mg base CX0 (k + 1) fC fdC ["_law_script", "_law_k"] (spCell K) := ok_cell C.F mL
  refine F.ok scPot (fun vs H Q E h => ?_) (fun cdv A outer s H vs Q E hr h => ?_)
  · obtain ⟨a, ns, k, rfl, _⟩ := h
    rfl
  · obtain ⟨a, ns, k, rfl, hS, hk, q⟩ := h
    refine ⟨_, pss_cons (ps_set (i := 2) scPot.nd rfl (.inl rfl) (pe_call GC hr (by rfl) C.g C.F.kp C.b .nil pass0 (pa_cons (pv 0) (pa_cons (pv 1) pa_nil))))
      (pss_one (ps_ret (pe_lst (pa_cons (pe_callB (call_max2 rfl) (by rfl) mM (by decide +kernel) (pa_cons pe_int (pa_cons (pe_op op_sub (pv 2) (pe_op op_pow pe_int pe_int)) pa_nil)))
        (pa_cons (pe_op op_mod (pe_op op_add (pe_op op_add (pe_op op_mul (pe_op op_mod (pv 2) pe_int) pe_int) (pe_op op_mul pe_int (pv 1))) pe_int) pe_int) pa_nil))))), ?_⟩
    refine ⟨.ref a, rfl, .int k, rfl, a, ns, k, rfl, hS, hk, fun z => ?_⟩
    refine ⟨.int z, rfl, 10, 18, rfl, rfl, ⟨by decide, by decide, by decide⟩, z, _, rfl, rfl, 0, _, rfl, ?_⟩
    refine ⟨.int z, rfl, z, 2147483629, rfl, rfl, (by show (0 : Int) < 2147483629; decide), _, 48271, rfl, rfl, .inr ⟨by decide, by decide⟩, .int k, rfl, 7919, k, rfl, rfl, .inl ⟨by decide, by decide⟩, _, _, rfl, rfl, _, 31, rfl, rfl, _, 2147483629, rfl, rfl, (by show (0 : Int) < 2147483629; decide), ?_⟩
    refine ⟨by show 2 ≤ sizeLine; decide, fun p hp => q _ p (same_upd hp) hp ⟨_, _, upd_same, Int.emod_nonneg _ (by decide), ?_⟩⟩
    exact Int.lt_trans (Int.emod_lt_of_pos _ (by decide)) (by decide)
/-! ### _law_draw -/
def spDraw : Sp := fun vs H Q _ => ∃ (p : Addr) (m : Int), vs = [.ref p, .int m] ∧ Pot H p ∧ 0 < m ∧ m ≤ 1000 ∧ ∀ H' (d : Int), But p H H' → Pot H' p → 0 ≤ d → d < m → Q (.int d) H'
theorem ok_draw {f : Addr} {fd : FuncData} {k : Nat} (F : Fun K "_law_draw" "_law_draw" sDraw f fd) (mD : mg "divmod" = none) : FnOk P w K mg base CX0 (k + 1) f fd ["_law_pot_here", "_law_many"] spDraw := by
  refine F.ok scDraw (fun vs H Q E h => ?_) (fun cdv A outer s H vs Q E hr h => ?_)
  · obtain ⟨p, m, rfl, _⟩ := h
    rfl
  · obtain ⟨p, m, rfl, ⟨a, b, hp, hb0, hb1⟩, hm0, hm1, q⟩ := h
    refine ⟨_, pss_cons (ps_if (pt_cmpR op_gt (pe_ix ix_list (pv 0) pe_int (fun _ _ => rfl)) pe_int (nomark _))
        (pss_cons (ps_asg (pe_callB call_divmod (by rfl) mD (by decide +kernel) (pa_cons (pe_ix ix_list (pv 0) pe_int (fun _ _ => rfl)) (pa_cons (pv 1) pa_nil)))
            (pg_tup rfl (pgs_cons (pg_sub (pv 0) pe_int set_list) (pgs_cons (pg_name (i := 2) scDraw.nd rfl (.inl rfl)) pgs_nil))))
          (pss_one (ps_ret (pv 2)))) pss_nil)
      (pss_cons (ps_asg (pe_op op_mod (pe_op op_add (pe_op op_mul (pe_ix ix_list (pv 0) pe_int (fun _ _ => rfl)) pe_int) pe_int) pe_int) (pg_sub (pv 0) pe_int set_list))
      (pss_one (ps_ret (pe_op op_mod (pe_op op_fdiv (pe_op op_mod (pe_op op_pow (pe_ix ix_list (pv 0) pe_int (fun _ _ => rfl)) pe_int) pe_int) pe_int) (pv 1))))), ?_⟩
    refine ⟨.ref p, rfl, p, _, 0, .int a, rfl, rfl, SqL.of hp, atI_nat (j := 0) rfl, a, 0, rfl, rfl, _, rfl, ite2 (fun e => ?_) (fun e => ?_)⟩
    · refine ⟨.ref p, rfl, p, _, 0, .int a, rfl, rfl, SqL.of hp, atI_nat (j := 0) rfl, .int m, rfl, a, m, rfl, ⟨hm0, by omega⟩, fun t nt => ?_⟩
      have npt : p ≠ t := ne_of_none hp nt
      have hp1 : (upd H t (.tup [.int (a / m), .int (a % m)])) p = some (.lst [.int a, .int b]) := by
        rw [upd_ne npt]
        exact hp
      refine ⟨t, _, rfl, SqT.of upd_same, rfl, _, _, rfl, .ref p, rfl, p, _, 0, 0, rfl, rfl, hp1, rfl, _, _, rfl, rfl, ?_⟩
      refine ⟨.int (a % m), rfl, q _ _ ((But.new nt).trans (But.upd _ _ _)) ⟨a / m, b, upd_same, hb0, hb1⟩ (Int.emod_nonneg _ (by omega)) (Int.emod_lt_of_pos _ hm0)⟩
    · refine ⟨.ref p, rfl, p, _, 1, .int b, rfl, rfl, SqL.of hp, atI_nat (j := 1) rfl, b, 39373, rfl, rfl, .inr ⟨by decide, by decide⟩, _, 8191, rfl, rfl, _, 2147483587, rfl, rfl, (by show (0 : Int) < 2147483587; decide), ?_⟩
      refine ⟨.ref p, rfl, p, _, 1, 1, rfl, rfl, hp, rfl, ?_⟩
      have c0 : 0 ≤ (b * 39373 + 8191) % 2147483587 := Int.emod_nonneg _ (by decide)
      have c1 : (b * 39373 + 8191) % 2147483587 < 2147483587 := Int.emod_lt_of_pos _ (by decide)
      refine ⟨.ref p, rfl, p, _, 1, .int ((b * 39373 + 8191) % 2147483587), rfl, rfl, SqL.of upd_same, atI_nat (j := 1) rfl, (b * 39373 + 8191) % 2147483587, 2, rfl, rfl, ⟨by decide, by decide, by omega⟩, _, 2147483543, rfl, rfl, (by show (0 : Int) < 2147483543; decide), _, 13, rfl, rfl, ⟨by decide, by decide⟩, .int m, rfl, _, m, rfl, rfl, hm0, ?_⟩
      exact q _ _ (But.upd _ _ _) ⟨a, _, upd_same, c0, by omega⟩ (Int.emod_nonneg _ (by omega)) (Int.emod_lt_of_pos _ hm0)
end
theorem at_strs (ys : List Str) (d : Int) (h0 : 0 ≤ d) (h1 : d < (ys.length : Int)) : ∃ y ∈ ys, atI (ys.map V.str) d = some (.str y) := by
  obtain ⟨n, rfl⟩ := Int.eq_ofNat_of_zero_le h0
  have hn : n < ys.length := by omega
  exact ⟨ys[n], List.getElem_mem hn, atI_nat (by rw [List.getElem?_map, List.getElem?_eq_getElem hn]; rfl)⟩
theorem at_ints (ys : List Int) (d : Int) (h0 : 0 ≤ d) (h1 : d < (ys.length : Int)) : ∃ y ∈ ys, atI (ys.map V.int) d = some (.int y) := by
  obtain ⟨n, rfl⟩ := Int.eq_ofNat_of_zero_le h0
  have hn : n < ys.length := by omega
  exact ⟨ys[n], List.getElem_mem hn, atI_nat (by rw [List.getElem?_map, List.getElem?_eq_getElem hn]; rfl)⟩
theorem at_any (ys : List V) (d : Int) (h0 : 0 ≤ d) (h1 : d < (ys.length : Int)) : ∃ y ∈ ys, atI ys d = some y := by
  obtain ⟨n, rfl⟩ := Int.eq_ofNat_of_zero_le h0
  have hn : n < ys.length := by omega
  exact ⟨ys[n], List.getElem_mem hn, atI_nat (List.getElem?_eq_getElem hn)⟩
theorem go {R : Hp → Prop} {H : Hp} {a : Addr} {o : HO} (n : H a = none) (h : ∀ H', Same H H' → H' a = some o → R H') : R (upd H a o) := h _ (same_upd n) upd_same
theorem goT {α : Type} {R : Hp → α → Prop} {Q : α} {H : Hp} {a : Addr} {o : HO} (n : H a = none) (h : ∀ H', Same H H' → H' a = some o → R H' Q) : R (upd H a o) Q := h _ (same_upd n) upd_same
theorem goU {R : Hp → Prop} {H : Hp} {a : Addr} {o : HO} (h : ∀ H', But a H H' → H' a = some o → R H') : R (upd H a o) := h _ (But.upd _ _ _) upd_same
theorem ev_use {t : TE} {σ : L2.St} {H : Hp} {v : V} {R : VK} (e : ∀ R : VK, R v H → t σ H R) (c : R v H) : t σ H R := e R c
theorem ev_gen {t : TE} {σ : L2.St} {H : Hp} (D : V → Hp → Prop) {R : VK} (e : ∀ R : VK, (∀ v H', D v H' → R v H') → t σ H R) (c : ∀ v H', D v H' → R v H') : t σ H R := e R c
theorem ts_gen {t : TS} {κ : L2.Ends} {σ : L2.St} {H : Hp} (D : L2.St → Hp → Prop) (e : ∀ κ : L2.Ends, (∀ σ' H', D σ' H' → κ.nx σ' H') → t κ σ H) (c : ∀ σ' H', D σ' H' → κ.nx σ' H') : t κ σ H := e κ c
theorem dp_strs {K : PySem.W.Frag} {H : Hp} : ∀ ys : List Str, DpAll K H (ys.map V.str) (ys.map PyData.str)
  | [] => .nil
  | y :: r => .cons (.str y) (dp_strs r)
theorem strOk_of {z : Str} (h : ∀ c ∈ tl z, c < 256) : PyData.strOk z = true := by
  unfold PyData.strOk
  rw [← Array.all_toList]
  exact List.all_eq_true.mpr fun c hc => decide_eq_true (Nat.lt_trans (h c hc) (by decide))
theorem lay_strs : ∀ ys : List Str, (∀ y ∈ ys, PyData.strOk y = true) → PyData.canLayAll0 (ys.map PyData.str) = true ∧ PyData.depthAll (ys.map PyData.str) = 0
  | [], _ => ⟨by simp [PyData.canLayAll0], by simp [PyData.depthAll]⟩
  | y :: r, h => by
    obtain ⟨h1, h2⟩ := lay_strs r fun z hz => h z (List.mem_cons_of_mem _ hz)
    rw [List.map_cons]
    exact ⟨by simp [PyData.canLayAll0, PyData.canLay0, h1, h y List.mem_cons_self], by simp [PyData.depthAll, PyData.depth, h2]⟩
theorem shaped_strs (ys : List Str) (h : ∀ y ∈ ys, PyData.strOk y = true) : SeqAt.shaped (.list (ys.map PyData.str)) = true := by
  obtain ⟨h1, h2⟩ := lay_strs ys h
  unfold SeqAt.shaped
  simp [PyData.canLay0, PyData.depth, h1, h2]
theorem eqv_nil (ds : List PyData) : PyData.eqv (.list ds) (.list []) = ds.isEmpty := by
  cases ds with
  | nil => simp [PyData.eqv, PyData.eqvAll]
  | cons d r => simp [PyData.eqv, PyData.eqvAll]
theorem strs_flat (ys : List Str) : (ys.map V.str).all flatV = true := by
  rw [List.all_map]
  exact List.all_eq_true.mpr fun _ _ => rfl
theorem eqvAll_strs : ∀ xs ys : List Str, PyData.eqvAll (xs.map PyData.str) (ys.map PyData.str) = decide (xs = ys)
  | [], [] => by simp [PyData.eqvAll]
  | [], y :: r => by simp [PyData.eqvAll]
  | x :: r, [] => by simp [PyData.eqvAll]
  | x :: r, y :: t => by
    rw [List.map_cons, List.map_cons]
    simp only [PyData.eqvAll, PyData.eqv]
    rw [eqvAll_strs r t]
    by_cases h : x = y
    · subst h
      by_cases h2 : r = t
      · subst h2
        simp
      · simp [h2]
    · simp [h]
theorem eqv_strs (xs ys : List Str) : PyData.eqv (.list (xs.map PyData.str)) (.list (ys.map PyData.str)) = decide (xs = ys) := by
  simp only [PyData.eqv]
  exact eqvAll_strs xs ys
theorem inV_strs (z : Str) (ys : List Str) : inV (.str z) (ys.map V.str) = decide (z ∈ ys) := by
  unfold inV
  rw [List.any_map]
  induction ys with
  | nil => rfl
  | cons y r ih =>
    rw [List.any_cons, ih]
    show (decide (y = z) || decide (z ∈ r)) = _
    by_cases h : y = z
    · subst h
      simp
    · have h2 : ¬ z = y := fun e => h e.symm
      simp [h, h2]
theorem tl_cut_to (x : Str) (k : Nat) : tl (cutS x none (some (k : Int))) = (tl x).take k := by
  show ((((tl x).drop (HT.sIx x.length 0 none)).take (HT.sIx x.length x.length (some (k : Int)) - HT.sIx x.length 0 none)).toArray).toList = _
  rw [HT.sIx_none, HT.sIx_nat, List.drop_zero, Nat.sub_zero]
  show (tl x).take (min k x.length) = _
  rw [TL.len_tl, ← List.take_take, List.take_length]
theorem tl_cut_from (x : Str) (k : Nat) : tl (cutS x (some (k : Int)) none) = (tl x).drop k := by
  show ((((tl x).drop (HT.sIx x.length 0 (some (k : Int)))).take (HT.sIx x.length x.length none - HT.sIx x.length 0 (some (k : Int)))).toArray).toList = _
  rw [HT.sIx_none, HT.sIx_nat]
  show ((tl x).drop (min k x.length)).take (x.length - min k x.length) = _
  have hl := TL.len_tl x
  by_cases h : k ≤ x.length
  · rw [Nat.min_eq_left h, List.take_of_length_le (by rw [List.length_drop]; omega)]
  · rw [Nat.min_eq_right (by omega), List.drop_of_length_le (by omega), List.drop_of_length_le (by omega), List.take_nil]
theorem fold_toList : ∀ (l : List (Array Nat)) (acc : Array Nat), (l.foldl (· ++ ·) acc).toList = acc.toList ++ (l.map Array.toList).flatten
  | [], acc => by simp
  | x :: l, acc => by
    rw [List.foldl_cons, fold_toList l]
    simp
theorem mul_tl (z : Str) (n : Nat) : (Txt.mul z (n : Int)).cps.toList = (List.replicate n z.cps.toList).flatten := by
  unfold Txt.mul
  by_cases h1 : (n : Int) < 1
  · have e : n = 0 := by omega
    subst e
    rw [if_pos h1]
    rfl
  · rw [if_neg h1]
    by_cases h2 : ((n : Int) == 1 || z.length == 0) = true
    · rw [if_pos h2]
      rcases Bool.or_eq_true_iff.mp h2 with e | e
      · have e1 : n = 1 := by
          have := eq_of_beq e
          omega
        subst e1
        simp
      · have e1 : z.cps.toList = [] := List.length_eq_zero_iff.mp (by
          have := eq_of_beq e
          simpa [Str.length] using this)
        rw [e1]
        simp
    · rw [if_neg h2]
      show ((List.replicate (n : Int).toNat z.cps).foldl (· ++ ·) #[]).toList = _
      rw [fold_toList, Int.toNat_natCast, List.map_replicate]
      rfl
theorem op_mul_str {X : Cx} : OpR X (binaryOp .Mult) (fun x y H Q => ∃ (z : Str) (n : Nat), x = .str z ∧ y = .int (n : Int) ∧ n ≤ 1000 ∧ z.length ≤ 1000 ∧ ∀ y : Str, tl y = (List.replicate n (tl z)).flatten → Q (.str y) H) := by
  intro pins s σ H x y v u Q I rx ry h
  obtain ⟨z, n, rfl, rfl, hn, hz, q⟩ := h
  obtain ⟨tx, rfl⟩ := rx
  obtain ⟨ty, rfl⟩ := ry
  have pw : z.length * n ≤ 1000000 := Nat.le_trans (Nat.mul_le_mul hz hn) (by decide)
  refine PySem.SB.mul ⟨?_, fun h1 h2 => ?_, fun h1 h2 => ?_⟩ fun t' k => ⟨.str _, H, I.tok k, ⟨t', rfl⟩, q _ ?_⟩
  · rw [decide_eq_false (by omega), decide_eq_false (by omega)]
    rfl
  · have e : (1000 : Int) ≤ (2 ^ 63 - 1) / (n : Int) := by
      have h3 : (0 : Int) < n := by omega
      exact (Int.le_ediv_iff_mul_le h3).mpr (by omega)
    omega
  · rw [Int.toNat_natCast]
    exact decide_eq_false (by show ¬ sizeLine < _; have : sizeLine = 16777216 := sizeLine_eq; omega)
  · exact mul_tl z n
theorem tt_use {t : TT} {σ : L2.St} {H : Hp} {b : Bool} {R : Bool → Hp → Prop} (e : ∀ R : Bool → Hp → Prop, R b H → t σ H R) (c : R b H) : t σ H R := e R c
theorem str_ext {a b : Str} (h : tl a = tl b) : a = b := by
  cases a; cases b
  exact congrArg Str.mk (Array.toList_inj.mp h)
abbrev B8 : Nat → Prop := fun c => c < 256
theorem Pot.same {H H' : Hp} {p : Addr} (h : Pot H p) (s : Same H H') : Pot H' p := by
  obtain ⟨x, y, e, h1, h2⟩ := h
  exact ⟨x, y, s _ _ e, h1, h2⟩
end WB

set_option Elab.async false
set_option linter.all false
set_option maxRecDepth 100000
set_option maxHeartbeats 4000000
namespace WB
open PySem PySem.Spec PyProof.Rows L2
open TL (tl)
abbrev st_signs : Stmt := topS 21
theorem sc_signs : FnScope ["_law_letters"] [] (defScope st_signs) := ⟨rfl, rfl, rfl, by decide +kernel, rfl, by decide +kernel, by decide +kernel⟩
abbrev st_text : Stmt := topS 22
theorem sc_text : FnScope ["_law_pot_here", "_law_most", "_law_signs_here", "_law_k"] ["_law_pot_here", "_law_most", "_law_signs_here"] (defScope st_text) := ⟨rfl, rfl, rfl, by decide +kernel, rfl, by decide +kernel, by decide +kernel⟩
abbrev sSigns := st_signs
abbrev sText := st_text
abbrev scSigns := sc_signs
abbrev scText := sc_text
section
variable {P : Program} {w : World} {K : PySem.W.Frag} {mg : Str → Option Value} {base : Heap}
/-! ### _law_signs -/
def signs2 : Str := Str.ofString " !\"#$&'()*+,-./0123456789:;<=>?@" ++ Str.ofString "[\\]^_`{|}~abcdefghijklmnopqrstuvwxyzABCDEFGHIJKLMNOPQRSTUVWXYZ"
def spSigns : Sp := fun vs H Q _ => vs = [] ∧ Q (.str signs2) H
theorem ok_signs {f : Addr} {fd : FuncData} {k : Nat} (F : Fun K "_law_signs" "_law_signs" sSigns f fd) : FnOk P w K mg base CX0 (k + 1) f fd [] spSigns := by
  refine F.ok scSigns (fun vs H Q E h => ?_) (fun cdv A outer s H vs Q E hr h => ?_)
  · obtain ⟨rfl, _⟩ := h
    rfl
  · obtain ⟨rfl, q⟩ := h
    refine ⟨_, pss_cons (ps_set (i := 0) scSigns.nd rfl (.inl rfl) pe_str) (pss_one (ps_ret (pe_op op_add_str (pe_op op_add_str pe_str (pv 0)) (pe_upper (pv 0))))), ?_⟩
    refine ⟨_, rfl, _, _, rfl, rfl, ?_, _, rfl, ⟨_, rfl⟩, _, rfl, rfl, ?_, _, _, rfl, rfl, ?_, (congrArg (fun z => Q (.str z) H) (by decide +kernel)).mp q⟩ <;> decide +kernel
/-! ### _law_text -/
def spText : Sp := fun vs H Q _ => ∃ (p : Addr) (m : Int) (z : Str), vs = [.ref p, .int m, .str z] ∧ Pot H p ∧ 0 ≤ m ∧ m ≤ 100 ∧ 0 < z.length ∧ z.length ≤ 200 ∧
  ∀ H' (y : Str), But p H H' → Pot H' p → Tq (· ∈ tl z) m.toNat y → Q (.str y) H'
theorem ok_text {f fD : Addr} {fd fdD : FuncData} {k : Nat} (F : Fun K "_law_text" "_law_text" sText f fd) (D : Df K mg "_law_draw" sDraw ["_law_pot_here", "_law_many"] fD fdD) (mD : mg "divmod" = none) (mL : mg "len" = none) (mR : mg "range" = none) :
    FnOk P w K mg base CX0 (k + 2) f fd ["_law_pot_here", "_law_most", "_law_signs_here"] spText := by
  have GD : FnOk P w K mg base CX0 (k + 1) fD fdD ["_law_pot_here", "_law_many"] spDraw := ok_draw D.F mD
  refine F.ok scText (fun vs H Q E h => ?_) (fun cdv A outer s H vs Q E hr h => ?_)
  · obtain ⟨p, m, z, rfl, _⟩ := h
    rfl
  · obtain ⟨p, m, z, rfl, hp, hm0, hm1, hz0, hz1, q⟩ := h
    refine ⟨_, pss_one (ps_ret (pe_join pe_str (pe_lc (own := [("_law_k", 3)]) (g := gName 3) (tt := tYes) rfl scText.nd
      (pi_range1 rfl mR (pa_cons (pe_call GD hr (by rfl) D.g D.F.kp D.b .nil pass0 (pa_cons (pv 0) (pa_cons (pe_op op_add (pv 1) pe_int) pa_nil))) pa_nil))
      (blkOk_by (N := ["_law_pot_here", "_law_most", "_law_signs_here", "_law_k"]) (sc := defScope sText) (by decide +kernel))
      (fun _ _ _ _ _ => pg_name (i := 3) scText.nd rfl (Or.inl rfl)) (fun _ _ _ _ _ => pts_nil)
      (fun _ _ _ _ _ => pe_ix ix_str (pv 2) (pe_call GD hr (by rfl) D.g D.F.kp D.b .nil pass0 (pa_cons (pv 0) (pa_cons (pe_callB call_len_str (by rfl) mL PySem.boot_len (pa_cons (pv 2) pa_nil)) pa_nil))) (fun _ _ => rfl))))), ?_⟩
    refine ⟨⟨_, rfl⟩, .ref p, rfl, .int m, rfl, m, 1, rfl, rfl, p, m + 1, rfl, hp, by omega, by omega, fun H1 d b1 p1 d0 d1 => ?_⟩
    refine ⟨d, rfl, by omega, by omega, fun T nT => ?_⟩
    have npT : p ≠ T := p1.ne nT
    refine lc_range (lo := 0) (n := d.toNat) (fun i Hc => But p H1 Hc ∧ Pot Hc p ∧ ∃ ys : List Str, Hc T = some (.lst (ys.map V.str)) ∧ ys.length = i ∧ ∀ y ∈ ys, Tq (· ∈ tl z) 1 y)
      ⟨But.new nT, p1.new nT, [], upd_same, rfl, fun y hy => by cases hy⟩ (fun i Hc hi ⟨bc, pc, ys, eT, el, e1⟩ => ?_) (fun Hc ⟨bc, pc, ys, eT, el, e1⟩ => ?_)
    · refine ⟨rfl, ?_⟩
      have hzl : z.length ≤ sizeLine := Nat.le_trans hz1 (by decide)
      refine ⟨.str z, rfl, .ref p, rfl, .str z, rfl, z, rfl, hzl, p, z.length, rfl, pc, by omega, by omega, fun H4 j b4 p4 j0 j1 => ?_⟩
      obtain ⟨n, rfl⟩ := Int.eq_ofNat_of_zero_le j0
      have hn : n < z.cps.toList.length := by
        have e : z.cps.toList.length = z.length := by simp [Str.length]
        omega
      have eT4 : H4 T = some (.lst (ys.map V.str)) := b4 T _ npT.symm eT
      refine ⟨z, n, z.cps.toList[n], rfl, rfl, hzl, atI_nat (List.getElem?_eq_getElem hn), ys.map V.str, eT4, ?_, ?_, ?_, ys ++ [⟨#[z.cps.toList[n]]⟩], ?_, ?_, ?_⟩
      · rw [List.length_map, el]
        exact small1000 (by omega)
      · exact fun b o nb e => by
          rw [upd_ne (ne_of_none e nT)]
          exact b4 b o nb (bc b o nb e)
      · obtain ⟨x, y, e, h1, h2⟩ := p4
        refine ⟨x, y, ?_, h1, h2⟩
        rw [upd_ne npT]
        exact e
      · rw [upd_same, List.map_append]
        rfl
      · rw [List.length_append, el]
        rfl
      · intro y hy
        rcases List.mem_append.mp hy with hy | hy
        · exact e1 y hy
        · rw [List.mem_singleton.mp hy]
          exact Tq.sign (List.getElem_mem hn)
    · have e0 : (Str.ofString "").length = 0 := by decide +kernel
      have es := sum_most 1 ys e1
      refine ⟨_, T, ys, rfl, rfl, .inl (SqL.of eT), ?_, q _ _ (b1.trans bc) pc ?_⟩
      · rw [e0]
        omega
      · exact Tq.join ⟨by rw [e0]; exact Nat.le_refl 0, fun c hc => by cases hc⟩ e1 (by omega)
end
end WB

set_option Elab.async false
set_option linter.all false
set_option maxRecDepth 100000
set_option maxHeartbeats 4000000
namespace WG
open PySem PySem.Spec PyProof.Rows L2
/-! ### a def's promise where no repr is under way -/
structure GOk (P : Program) (w : World) (K : PySem.W.Frag) (mg : Str → Option Value) (base : Heap) (CX : CXT) (k : Nat) (f : Addr) (fd : FuncData) (ps : List Str) (sp : Sp) : Prop where
  len : ∀ vs H Q E, sp vs H Q E → vs.length = ps.length
  run : ∀ (A : Around) (outer : List Env) (s : Shared) (H : Hp) (args : Args) (us : List Value) (vs : List V) (Q : VK) (E : XK), A.guards = some [] → Room k A → Env0 P w K mg base A outer s H →
    BindsTo s fd args (ps.zip us) → Vals vs us → sp vs H Q E → codeAny (model P w) A (.call (.ref f) args) (CR CX outer P w H s Q E) s
theorem GOk.of {P : Program} {w : World} {K : PySem.W.Frag} {mg : Str → Option Value} {base : Heap} {CX : CXT} {k : Nat} {f : Addr} {fd : FuncData} {ps : List Str} {sp : Sp} (F : FnOk P w K mg base CX k f fd ps sp) : GOk P w K mg base CX k f fd ps sp :=
  ⟨F.len, fun A o s H args us vs Q E _ => F.run A o s H args us vs Q E⟩
section
variable {CX : CXT} {P : Program} {w : World} {K : PySem.W.Frag} {mg : Str → Option Value} {base : Heap} {k : Nat} {f : Addr} {N ps : List Str} {sp : Sp}
theorem gfn_of {name qual : Str} {params : Arguments} {body : List Stmt} {scope : Scope} {dV kV doc pm cdv ct oc : Value} {an od : Option Addr} {osl : Array (Option Value)}
    (lk : K.lookup f = some ⟨oc, od, .func (PySem.W.fnOf name qual params body scope dV kV doc pm an cdv ct), osl⟩) (hcd : PySem.W.codeIn K cdv qual = true) (S : FnScope N ps scope) (len : ∀ vs H Q E, sp vs H Q E → vs.length = ps.length)
    (hbody : ∀ (A : Around) (outer : List Env) (s : Shared) (H : Hp) (vs : List V) (Q : VK) (E : XK), A.guards = some [] → Room k (A.deeper (envOfC qual scope s.heap.objs.size f cdv)) → sp vs H Q E →
      ∃ t, PSs (cxOf CX P w K mg base N qual scope f cdv A outer s H E) body t ∧ t { nx := fun _ H' => Q .non H', rt := Q } (L2.start N vs) H) :
    GOk P w K mg base CX (k + 1) f (PySem.W.fnOf name qual params body scope dV kV doc pm an cdv ct) ps sp := by
  refine ⟨len, fun A outer s H args us vs Q E hgd room env bnd rel want => ?_⟩
  have hlen := len _ _ _ _ want
  have kin : K.In s.heap := env.mod.kin.keeps fun b o q => (env.bs b o q).1
  have nolim : s.heap.NoLimit := env.mod.nolimit.keeps fun b o q => (env.bs b o q).1
  have kinds : ∀ y ∈ ps.zip us, scope.names.lookup y.1 = some .local ∨ (scope.names.lookup y.1 = some .cell ∧ ((cellsFrom (s.heap.objs.size + 1) scope.names []).lookup y.1).isSome = true) := by
    intro y hy
    obtain ⟨n, v⟩ := y
    cases S.par n (List.of_mem_zip hy).1 with
    | inl z => exact .inl z
    | inr z => exact .inr ⟨z, PySem.W.cellsFrom_some _ _ _ (.inl z)⟩
  refine codeAny_call_function room.depth (kin _ _ lk) rfl S.co S.gen rfl (PySem.W.codeRec_of kin hcd) (bnd _ _ _ _ ?_)
  refine wpAny_newFunctionEnv_cells S.kind kinds fun e2 he2 s1 hx => ?_
  subst he2
  refine ⟨nolim.keeps hx.toInCall.keep, codeAny_func ?_⟩
  obtain ⟨t, tb, tq⟩ := hbody A outer s H vs Q E hgd (room.deeper _) want
  have I : Inv (cxOf CX P w K mg base N qual scope f cdv A outer s H E) [] (L2.start N vs) H s1 := inv_start S room.hd env hlen rel hx
  refine wpAny_mono (tb.run [] s1 (L2.start N vs) H _ I tq) (fun fl s' hs => ?_) fun e s' hs => hs
  cases fl with
  | ret u =>
    obtain ⟨v, _, H', J, rv, q⟩ := hs
    exact ⟨v, H', J.os, J.bare, J.base, J.hok, rv, q⟩
  | next =>
    obtain ⟨_, H', J, q⟩ := hs
    exact ⟨V.non, H', J.os, J.bare, J.base, J.hok, rfl, q⟩
  | brk =>
    obtain ⟨_, _, _, q⟩ := hs
    exact False.elim q
  | cont =>
    obtain ⟨_, _, _, q⟩ := hs
    exact False.elim q
theorem gfun_ok {x qual : Str} {st : Stmt} {fd : FuncData} (F : Fun K x qual st f fd) (S : FnScope N ps (defScope st)) (len : ∀ vs H Q E, sp vs H Q E → vs.length = ps.length)
    (hbody : ∀ (cdv : Value) (A : Around) (outer : List Env) (s : Shared) (H : Hp) (vs : List V) (Q : VK) (E : XK), A.guards = some [] → Room k (A.deeper (envOfC qual (defScope st) s.heap.objs.size f cdv)) → sp vs H Q E →
      ∃ t, PSs (cxOf CX P w K mg base N qual (defScope st) f cdv A outer s H E) (defBody st) t ∧ t { nx := fun _ H' => Q .non H', rt := Q } (L2.start N vs) H) : GOk P w K mg base CX (k + 1) f fd ps sp := by
  obtain ⟨oc, od, kV, doc, pm, an, cdv, ct, osl, rfl, lk, hcd⟩ := F.ex
  exact gfn_of lk hcd S len fun A outer s H vs Q E hg hr hsp => hbody cdv A outer s H vs Q E hg hr hsp
end
section
variable {X : Cx} {CX : CXT} {k : Nat} {f : Addr} {fd : FuncData} {ps : List Str} {sp : Sp} {E : XK} {x : Str} {p pos : Pos} {e : Expr} {es : List Expr} {t : TA}
theorem pe_callG (F : GOk X.prog X.w X.K X.mg X.base CX k f fd ps sp) (hgd : X.A.guards = some []) (hr : Room k X.A) (hg : Gl X x) (hm : X.mg x = some (.ref f)) (hk : PySem.W.keepIn X.K (.ref f) = true) (hb : Binds X.K fd ps []) (hx : Passes CX X E)
    (ha : PA X (e :: es) t) (hdb : (x == ("__debug__" : Str)) = false := by decide) (he : starEach (e :: es) X.env = (false, eval e X.env) :: starEach es X.env := by rfl) (hpl : (backTo pos (starEach es X.env)).any (·.1) = false := by rfl) :
    PE X (.Call (.Name x p) (e :: es) [] pos) (tCall sp [] E t) := by
  constructor
  intro pins s σ H Q I h
  refine wpAny_Call_Name_kw (ld_glob I hg hm ?_ hdb)
  refine PySem.W.callWith_K (h₀ := X.base) I.ok.mod.kin hk (thn (ha.run pos pins s σ H _ I h) fun us s1 ⟨vs, H1, I1, r, q⟩ => ⟨I1.kIn, ?_⟩) he hpl
  have q : sp vs H1 Q E := by
    have z : sp (vs ++ []) H1 Q E := q
    rw [List.append_nil] at z
    exact z
  have hl : (us ++ []).length = ps.length := by
    rw [List.append_nil, ← r.length]
    exact F.len _ _ _ _ q
  have b := hb s1 us I1.kIn hl
  rw [List.append_nil] at b
  refine wpAny_call (codeAny_mono (F.run X.A X.stack s1 H1 ⟨us, []⟩ us vs Q E hgd hr I1.env0 b r q) fun rr s' hq => ?_)
  cases rr with
  | error er => exact hx pins σ H1 s1 er s' I1 hq
  | ok fl =>
    cases fl with
    | ret u => exact I1.after hq
    | next => exact hq.elim
    | brk => exact hq.elim
    | cont => exact hq.elim
end
/-! ### the law's end over such a promise -/
theorem glaw_call {P : Program} {w : World} {K : PySem.W.Frag} {mg mb : Str → Option Value} {CX : CXT} {k : Nat} {fa a : Addr} {fd : FuncData} {x : Str} {sp : Sp} {t : Shared} {vs : List Value} {ns : List Int}
    (kin : K.In t.heap) (nsm : t.heap.Ns mainGlobals mg) (nsb : t.heap.Ns builtinsNs mb) (hbb : ∀ x : Str, x ≠ "__name__" → mb x = bootBuiltins x) (nolim : t.heap.NoLimit) (nogen : t.gens = #[])
    (obj : t.heap.get? a = some { cls := .type "list", data := .seq vs.toArray }) (hints : IntsAre vs ns) (hl : ns.length ≤ sizeLine) (room : Room k callerA)
    (F : ∀ base : Heap, K.In base → base.Ns mainGlobals mg → GOk P w K mg base CX k fa fd [x] sp) (bnd : ∀ (s : Shared) (u : Value), BindsTo s fd ⟨[u], []⟩ [(x, u)])
    (want : ∀ H : Hp, Only H → SqL K H a (ns.map V.int) → sp [.ref a] H (fun v _ => v = .bl true) fun _ _ _ => False)
    (noX : ∀ H e s', CX [] H t (fun _ _ _ => False) e s' → False) :
    codeAny (model P w) callerA (.call (.ref fa) ⟨[.ref a], []⟩) (fun r s' => r = .ok (.ret (.bool true)) ∧ OldK t.heap s'.heap ∧ s'.os = t.os ∧ AllBare s'.gens) t := by
  have rv := vals_ints hints
  have hlv := hints.length
  have main : ∀ H : Hp, Only H → SqL K H a (ns.map V.int) → HOk P w H t.heap → (∀ b, H b ≠ none → b = a) → (H a ≠ none → K.lookup a = none) →
      codeAny (model P w) callerA (.call (.ref fa) ⟨[.ref a], []⟩) (fun r s' => r = .ok (.ret (.bool true)) ∧ OldK t.heap s'.heap ∧ s'.os = t.os ∧ AllBare s'.gens) t := by
    intro H only hS ok onlyA hK
    have noD : ∀ {b : Addr} {o : Obj} {es : Array DictEntry} {ep : Nat}, t.heap.get? b = some o → o.data = .dict es ep → H b = none := by
      intro b o es ep e d
      cases q : H b with
      | none => rfl
      | some u =>
        have z := onlyA b (by rw [q]; exact Option.some_ne_none u)
        subst z
        rw [obj] at e
        cases e
        cases d
    have nsH : ∀ {b : Addr} {m : Str → Option Value}, t.heap.Ns b m → (hidT t.heap H).Ns b m := by
      rintro b m ⟨o, es, ep, e, d, r⟩
      exact ⟨o, es, ep, hidT_get e (noD e d), d, r⟩
    have kinH : K.In (hidT t.heap H) := by
      intro b o e
      refine hidT_get (kin b o e) ?_
      cases q : H b with
      | none => rfl
      | some u =>
        have z := onlyA b (by rw [q]; exact Option.some_ne_none u)
        subst z
        rw [hK (by rw [q]; exact Option.some_ne_none u)] at e
        cases e
    have md : Mod K mg (hidT t.heap H) := by
      refine ⟨kinH, nsH nsm, ⟨mb, nsH nsb, hbb⟩, ?_⟩
      obtain ⟨mc, h1, h2⟩ := nolim
      exact ⟨mc, nsH h1, h2⟩
    have env : Env0 P w K mg (hidT t.heap H) callerA [] t H :=
      ⟨rfl, md, fun b o e => of_hidT e, Nat.le_of_eq (hidT_size _ _), trivial, fun b hb => (List.not_mem_nil (show b ∈ ([] : List Addr) from hb)).elim, ok, .of_eq nogen⟩
    refine codeAny_mono ((F _ kinH (nsH nsm)).run callerA [] t H ⟨[.ref a], []⟩ [.ref a] [.ref a] _ _ rfl room env (bnd t (.ref a)) (.cons rfl .nil) (want H only hS)) fun r s' h => ?_
    cases r with
    | error e => exact (noX H e s' h).elim
    | ok fl =>
      cases fl with
      | next => exact h.elim
      | brk => exact h.elim
      | cont => exact h.elim
      | ret u =>
        obtain ⟨v, H', os, bare, un, ok', r', q⟩ := h
        have q' : v = .bl true := q
        subst q'
        cases r'
        refine ⟨rfl, OldK.of_keep fun b o e => ?_, os, bare⟩
        cases q : H b with
        | none => exact un.keep b o e q (fun z => (List.not_mem_nil (show b ∈ ([] : List Addr) from z)).elim) List.not_mem_nil
        | some u =>
          rcases only b with z | ⟨ob, xs, z⟩
          · rw [q] at z
            cases z
          · obtain ⟨e1, _⟩ := ok b _ z
            obtain ⟨e2, _⟩ := ok' b _ (un.frzs b ob _ z)
            rw [e] at e1
            cases e1
            exact e2
  cases hk : K.lookup a with
  | some o =>
    have e := kin a o hk
    rw [obj] at e
    cases e
    refine main (fun _ => none) (fun _ => .inl rfl) (.inr ⟨_, vs.toArray, _, hk, rfl, rfl, rfl, ?_, by simpa using rv⟩) (fun b u z => by cases (show (none : Option HO) = some u from z)) (fun b z => absurd rfl z) fun z => absurd rfl z
    rw [List.size_toArray, hlv]
    exact hl
  | none =>
    refine main (fun b => if b = a then some (.frz { cls := .type "list", data := .seq vs.toArray } (.lst (ns.map V.int))) else none) (fun b => ?_) (.inl (.inr ⟨_, if_pos rfl⟩)) (fun b u z => ?_) (fun b z => ?_) fun _ => hk
    · by_cases hb : b = a
      · exact .inr ⟨_, _, if_pos hb⟩
      · exact .inl (if_neg hb)
    · by_cases hb : b = a
      · have z' := (if_pos hb).symm.trans z
        cases z'
        subst hb
        exact ⟨obj, by rw [List.length_map]; exact hl, vs, _, rv, obj⟩
      · have z' := (if_neg hb).symm.trans z
        cases z'
    · by_cases hb : b = a
      · exact hb
      · exact absurd (if_neg hb) z
theorem gwalk_of {l : PySem.W.OpenLaw} {n k : Nat} {q : Program} {loose : List Str} {XP : (Str → Option Value) → Heap → Prop} {YP : World → Heap → Prop} {d : DefRec} {K : Params → PySem.W.Frag} {CX : World → CXT} {sp : World → Sp} {x : Str}
    (hn : l.most = some n) (hn2 : n ≤ sizeLine) (hdf : d.params.defaults = []) (hr : Room k callerA) (hY : ∀ (w : World) (h : Heap), YP w h → (K w.params).In h)
    (F : ∀ (w : World) (mg : Str → Option Value) (fa : Addr) (h : Heap), (K w.params).In h → h.Ns mainGlobals mg → mg d.name = some (.ref fa) →
      ∃ fd : FuncData, (∀ (s : Shared) (u : Value), BindsTo s fd ⟨[u], []⟩ [(x, u)]) ∧ ∀ base : Heap, (K w.params).In base → base.Ns mainGlobals mg → GOk l.prog w (K w.params) mg base (CX w) k fa fd [x] (sp w))
    (hsp : ∀ (w : World) (H : Hp) (a : Addr) (ns : List Int), ns.length ≤ n → Only H → SqL (K w.params) H a (ns.map V.int) → sp w [.ref a] H (fun v _ => v = .bl true) fun _ _ _ => False)
    (hCX : ∀ (w : World) (H : Hp) (s : Shared) (e : Value) (s' : Shared), CX w [] H s (fun _ _ _ => False) e s' → False) : PySem.W.WalkO q loose XP YP l.row.toRowW d [] (fun f vs => PySem.call f vs) := by
  refine Att.attach_call hn hdf fun w s0 s1 mg mb fa o pm cd doc a vs ns G Y ho hd hcd hmg hobj hints hlen hg => ?_
  obtain ⟨fd, hb, hF⟩ := F w mg fa _ (hY w _ Y) G.T.g hmg
  exact glaw_call (hY w _ Y) G.T.g G.T.b G.T.builtins G.T.nolimit hg hobj hints (Nat.le_trans hlen hn2) hr hF hb (fun H hO hS => hsp w H a ns hlen hO hS) fun H e s' => hCX w H s1 e s'
/-! ### text * int -/
theorem fold_toList : ∀ (l : List (Array Nat)) (acc : Array Nat), (l.foldl (· ++ ·) acc).toList = acc.toList ++ (l.map Array.toList).flatten
  | [], acc => by simp
  | x :: l, acc => by
    rw [List.foldl_cons, fold_toList l]
    simp
theorem mul_tl (z : Str) (n : Nat) : (Txt.mul z (n : Int)).cps.toList = (List.replicate n z.cps.toList).flatten := by
  unfold Txt.mul
  by_cases h1 : (n : Int) < 1
  · have e : n = 0 := by omega
    subst e
    rw [if_pos h1]
    rfl
  · rw [if_neg h1]
    by_cases h2 : ((n : Int) == 1 || z.length == 0) = true
    · rw [if_pos h2]
      rcases Bool.or_eq_true_iff.mp h2 with e | e
      · have e1 : n = 1 := by
          have := eq_of_beq e
          omega
        subst e1
        simp
      · have e1 : z.cps.toList = [] := List.length_eq_zero_iff.mp (by
          have := eq_of_beq e
          simpa [Str.length] using this)
        rw [e1]
        simp
    · rw [if_neg h2]
      show ((List.replicate (n : Int).toNat z.cps).foldl (· ++ ·) #[]).toList = _
      rw [fold_toList, Int.toNat_natCast, List.map_replicate]
      rfl
theorem op_mul_str {X : Cx} : OpR X (binaryOp .Mult) (fun x y H Q => ∃ (z : Str) (n : Nat), x = .str z ∧ y = .int (n : Int) ∧ n ≤ 1000 ∧ z.length ≤ 1000 ∧ ∀ y : Str, y.length = z.length * n → (∀ c ∈ y.cps.toList, c ∈ z.cps.toList) → Q (.str y) H) := by
  intro pins s σ H x y v u Q I rx ry h
  obtain ⟨z, n, rfl, rfl, hn, hz, q⟩ := h
  obtain ⟨tx, rfl⟩ := rx
  obtain ⟨ty, rfl⟩ := ry
  have pw : z.length * n ≤ 1000000 := Nat.le_trans (Nat.mul_le_mul hz hn) (by decide)
  refine PySem.SB.mul ⟨?_, fun h1 h2 => ?_, fun h1 h2 => ?_⟩ fun t' k => ⟨.str _, H, I.tok k, ⟨t', rfl⟩, q _ ?_ ?_⟩
  · rw [decide_eq_false (by omega), decide_eq_false (by omega)]
    rfl
  · have e : (1000 : Int) ≤ (2 ^ 63 - 1) / (n : Int) := by
      have h3 : (0 : Int) < n := by omega
      exact (Int.le_ediv_iff_mul_le h3).mpr (by omega)
    omega
  · rw [Int.toNat_natCast]
    exact decide_eq_false (by show ¬ sizeLine < _; have : sizeLine = 16777216 := sizeLine_eq; omega)
  · rw [TL.len_tl, TL.len_tl z]
    show (Txt.mul z (n : Int)).cps.toList.length = _
    rw [mul_tl]
    simp [Nat.mul_comm]
  · intro c hc
    rw [mul_tl] at hc
    obtain ⟨l, hl, hcl⟩ := List.mem_flatten.mp hc
    rw [(List.mem_replicate.mp hl).2] at hcl
    exact hcl
/-! ### repr of a list -/
/-- a value and the data that it is: as in Dp, and dicts of none or one text with an int -/
inductive Itm (K : PySem.W.Frag) (H : Hp) : V → PyData → Prop
  | dp {v : V} {d : PyData} (h : Dp K H v d) (nd : d.hasDict = false) : Itm K H v d
  | d0 {a : Addr} (h : H a = some (.dK [])) : Itm K H (.ref a) (.dict [])
  | d1 {a : Addr} {x : Str} {i : Int} (h : H a = some (.dK [(Sum.inr x, .int i)])) : Itm K H (.ref a) (.dict [(.str x, .int i)])
inductive ItmAll (K : PySem.W.Frag) (H : Hp) : List V → List PyData → Prop
  | nil : ItmAll K H [] []
  | cons {v : V} {vs : List V} {d : PyData} {ds : List PyData} : Itm K H v d → ItmAll K H vs ds → ItmAll K H (v :: vs) (d :: ds)
section
variable {X : Cx} {pins : List (Addr × Obj)} {σ : L2.St} {H : Hp} {s : Shared}
theorem Itm.reads (I : Inv X pins σ H s) {v : V} {u : Value} {d : PyData} (h : Itm X.K H v d) (r : RelV v u) : ∃ as, Reads s.heap u d as ∧ (d.hasDict = true → sysModules ∉ as) := by
  cases h with
  | dp h nd =>
    obtain ⟨as, q⟩ := Dp.reads I d v u h r
    exact ⟨as, q, fun z => by rw [nd] at z; cases z⟩
  | @d0 a h =>
    cases r
    obtain ⟨_, ns, vs, kv, o, es, ep, ho, hx, hd, hk, hp, _⟩ := I.hok _ _ h
    cases kv
    generalize hl : es.toList = l at hp
    cases hp
    refine ⟨_, Reads.dict (kvs := []) (as := []) (bs := []) ho hx.1 hd (by rw [hl]; exact .nil) (by rw [hl]; exact .nil), fun _ => ?_⟩
    intro hm
    rcases List.mem_cons.mp hm with e | e
    · rw [← e] at ns
      exact absurd ns (by decide)
    · cases e
  | @d1 a x i h =>
    cases r
    obtain ⟨_, ns, vs, kv, o, es, ep, ho, hx, hd, hk, hp, _⟩ := I.hok _ _ h
    cases kv with
    | cons h1 h2 =>
      cases h2
      obtain ⟨e1, t, e2⟩ := h1
      rename_i b nd2
      obtain ⟨b1, b2⟩ := b
      dsimp only at e1 e2
      subst e1 e2
      generalize hl : es.toList = l at hp
      cases hp with
      | cons k1 k2 k3 =>
        cases k3
        rename_i en
        obtain ⟨hh, ky, vl⟩ := en
        dsimp only at k1 k2
        subst k2
        have k1' : keyIs (Sum.inr x) ky = true := k1
        rcases keyIs_shape k1' with ⟨j, t', z, _⟩ | ⟨y, t', z, rfl⟩
        · cases z
        · cases z
          refine ⟨_, Reads.dict (kvs := [(.str x, .int i)]) ho hx.1 hd (by rw [hl]; exact .cons (.str x t') .nil) (by rw [hl]; exact .cons (.int i t) .nil), fun _ => ?_⟩
          intro hm
          rcases List.mem_cons.mp hm with e | e
          · rw [← e] at ns
            exact absurd ns (by decide)
          · cases e
theorem ItmAll.all (I : Inv X pins σ H s) : ∀ {vs : List V} {ds : List PyData} {us : List Value}, ItmAll X.K H vs ds → Vals vs us → PyData.showableAll ds = true → (∀ t ∈ PyData.shownAll ds, t.length ≤ sizeLine) →
    (∃ as, ReadsAll s.heap us ds as) ∧ ∃ bs, ReadAtMost s.heap (PyData.depthAll ds) bs ∧ ReprAllK X.prog X.w bs s.heap (PyData.depthAll ds) us (PyData.shownAll ds)
  | _, _, _, .nil, .nil, _, _ => ⟨⟨_, .nil⟩, [], (fun _ h => nomatch h), by simp only [PyData.shownAll]; exact .nil⟩
  | _, _, _, .cons (d := d) (ds := ds) h1 h2, .cons r1 r2, hs, hz => by
    have hs' : d.showable = true ∧ PyData.showableAll ds = true := by simpa [PyData.showableAll] using hs
    obtain ⟨as, q, nq⟩ := h1.reads I r1
    obtain ⟨⟨as2, q2⟩, bs2, b2, k2⟩ := ItmAll.all I h2 r2 hs'.2 (fun t ht => hz t (by simp only [PyData.shownAll]; exact List.mem_cons_of_mem _ ht))
    obtain ⟨bs1, b1, k1⟩ := ReprK.of_reads (prog := X.prog) (w := X.w) q hs'.1 nq (hz _ (by simp only [PyData.shownAll]; exact List.mem_cons_self ..))
    refine ⟨⟨_, .cons q q2⟩, bs1 ++ bs2, ?_, ?_⟩
    · have e1 : d.depth ≤ PyData.depthAll (d :: ds) := by simp only [PyData.depthAll]; omega
      have e2 : PyData.depthAll ds ≤ PyData.depthAll (d :: ds) := by simp only [PyData.depthAll]; omega
      exact (b1.mono e1).append (b2.mono e2)
    · have e1 : d.depth ≤ PyData.depthAll (d :: ds) := by simp only [PyData.depthAll]; omega
      have e2 : PyData.depthAll ds ≤ PyData.depthAll (d :: ds) := by simp only [PyData.depthAll]; omega
      simp only [PyData.shownAll]
      exact .cons ((k1.more fun b hb => List.mem_append_left _ hb).level_le e1) (k2.more_le (fun b hb => List.mem_append_right _ hb) e2)
/-- repr(l) -/
def rRepr (K : PySem.W.Frag) : List V → Hp → VK → Prop := fun xs H Q => ∃ (a : Addr) (vs : List V) (ds : List PyData), xs = [.ref a] ∧ SqL K H a vs ∧ vs ≠ [] ∧ ItmAll K H vs ds ∧ PyData.showableAll ds = true ∧ PyData.depthAll ds ≤ 8 ∧
  (listText (PyData.shownAll ds)).length ≤ sizeLine ∧ Q (.str (listText (PyData.shownAll ds))) H
end
theorem call_repr_l {X : Cx} (hg : X.A.guards = some []) (hu : X.A.units + 16 < cLine) : CallR X (.builtin "repr") (rRepr X.K) := by
  intro pins s σ H xs us Q I r h
  obtain ⟨a, vs, ds, rfl, hS, hne, hI, hs, hdp, hz, q⟩ := h
  cases r with
  | cons ra rr =>
    cases rr
    cases ra
    obtain ⟨its, rv, ⟨o, n, ho, hc, hdx, hd⟩, _⟩ := I.list hS
    obtain ⟨⟨as, hr⟩, bs, hb, hk⟩ := ItmAll.all I hI rv hs (fun t ht => Nat.le_trans (listText_mem_le ht) hz)
    cases its with
    | nil =>
      cases rv
      exact absurd rfl hne
    | cons x l =>
      have rd : Reads s.heap (.ref a) (.list ds) _ := Reads.list ho hc hd hr
      have hna : a ∉ bs := not_mem_of_deeper rd (by simp only [PyData.depth]; omega) hb
      refine call_repr_slot (T := "list") (idr := "list.__repr__") (by omega) ⟨o, ho, hc⟩ F.slot_list_repr.toG ?_
      exact call_list_reprK (h₀ := s.heap) (as := bs) ho hc hd hna (by simpa using hk.length_eq) (fun i y e => hk.item i y (by simpa using e)) (g := []) hg (fun b _ => Clear.nil b) (by show X.A.units + 1 + (_ + 1) < cLine; omega) (fun _ _ e => e)
        (fun h' u tk hkp => ⟨_, _, rfl, .str _, H, I.kept (t' := tk) hkp, ⟨u, rfl⟩, q⟩) hz
end WG

set_option Elab.async false
set_option linter.all false
set_option maxRecDepth 100000
set_option maxHeartbeats 4000000
namespace WG
open PySem PySem.Spec PySem.Calls PyProof.Rows PySem.W
section
variable {prog : Program} {w : World} {A : Around} {E : Value → Shared → Prop} {s : Shared} {K : Frag} {x D : Addr} {ox : Obj} {od : Option Obj}
theorem find_dat {C : Addr} {name : Str} {a g : Value} (hc : (clsIn K C).isSome = true) (ha : findIn K (.ref C) name = some (some a)) (hg : specialIn K a "__get__" = some (some g)) (ht : takesIn K a = some true) :
    findObj K C od name = some (.bind g a) := by
  obtain ⟨cd, hcd⟩ := Option.isSome_iff_exists.mp hc
  unfold findObj
  rw [hcd, Option.bind_some, ha, Option.bind_some]
  simp [hg, ht]
theorem exc_class {Q : Option Value → Shared → Prop} (c : L2.ExcC K D) (kin : K.In s.heap) (at0 : InstAt s.heap x ox D od) (h : Q (some (.ref D)) { s with toks := s.toks + 1 }) : wpAny (model prog w) A (getAttr? (.ref x) "__class__") Q E s := by
  have hf : findObj K D od "__class__" = some (.bind (.builtin "getset_descriptor.__get__") (.builtin "object.__class__")) := by
    refine find_dat ?_ c.ha c.hn c.ht
    obtain ⟨cd, hcd, _⟩ := any_some c.hd
    rw [hcd] <;> rfl
  obtain ⟨hh, gs, dr, tk, os⟩ := s
  have t0 := at0.type (M := model prog w)
  have t1 := looks_findIn (M := model prog w) kin c.hg
  have t2 := looks_findIn (M := model prog w) kin c.hk
  have t3 := looks_find (M := model prog w) kin at0 hf
  have isb : Looks (model prog w) hh (isInstance (.ref x) (.type "BaseException")) true := t0.andThen (looks_subIn kin c.hs)
  have z0 : (false && onTheHeap (Value.builtin "BaseException.__getattribute__")) = false := rfl
  have z2 : (Value.builtin "BaseException.__getattribute__" == Value.builtin "object.__getattribute__") = false := by decide +kernel
  have z1 : (onTheHeap (Value.ref D) && Value.builtin "BaseException.__getattribute__" == Value.builtin "object.__getattribute__") = false := by
    rw [z2]
    rfl
  unfold getAttr? getAttrBy? getAttrBy
  refine wpAny_bind (wpAny_mkText (wpAny_bind (wpAny_attempt (wpAny_holding (wpAny_bind (t0.at (wpAny_bind (t1.at ?_))))))))
  show wpAny _ _ (if (onTheHeap (Value.ref D) && Value.builtin "BaseException.__getattribute__" == Value.builtin "object.__getattribute__") = true then _ else _) _ _ _
  rw [z1, if_neg Bool.false_ne_true]
  unfold getAttrByItsOwn hookBefore
  refine wpAny_bind ?_
  rw [if_pos (show onTheHeap (Value.ref D) = true from rfl)]
  refine t2.at (wpAny_bind (wpAny_attempt (wpAny_holding ?_)))
  unfold callGetattribute
  rw [z0, if_neg Bool.false_ne_true]
  unfold boundAndCalled
  rw [PySem.F.excAttr_ValueError.ga.bind (.ref x)]
  refine wpAny_bind (wpAny_pure ?_)
  show wpAny _ _ (call (.builtin "BaseException.__getattribute__") [.ref x, .str "__class__" tk]) _ _ _
  refine wpAny_call (codeAny_call_builtin PySem.F.excAttr_ValueError.ga.plain PySem.F.entry_bexc_ga ?_)
  refine @check_slot (model prog w) _ _ ⟨hh, gs, dr, tk + 1, os⟩ "BaseException.__getattribute__" "BaseException" "__getattribute__" (.ref x) [.str "__class__" tk] [] _ (by decide +kernel) (by decide +kernel) isb (PySem.F.args_bexc_ga (.ref x) (.str "__class__" tk)) ?_
  unfold Builtin.«object.__getattribute__»
  refine wpAny_bind (wpAny_of_eq (a := ((Value.ref x : Value), [Value.str "__class__" tk])) (by first | rfl | (simp only [slotArgs]; rfl)) ?_)
  refine wpAny_bind (wpAny_pure (wpAny_bind (t0.at (wpAny_bind (t3.at ?_)))))
  show wpAny _ _ (holding [Value.builtin "object.__class__"] (call (.builtin "getset_descriptor.__get__") [.builtin "object.__class__", .ref x, .ref D]) >>= ret) _ _ _
  refine wpAny_bind (wpAny_holding (wpAny_call (class_get (s := ⟨hh, gs, dr, tk + 1, os⟩) (ox := ox) (od := od) kin at0 c.hm ?_)))
  refine wpAny_pure ?_
  show wpAny _ _ (handedOut (.ref D)) _ _ _
  rw [handedOut_of (v := .ref D) rfl]
  first
    | exact wpAny_pure (wpAny_pure h)
    | exact wpAny_pure h
    | exact wpAny_pure (wpAny_bind (wpAny_pure (wpAny_pure h)))
theorem kit_exc (c : L2.ExcC K D) : KitX K (.ref x) (.ref D) (fun h => InstAt h x ox D od) := by
  obtain ⟨cd, hcd, _⟩ := any_some c.hd
  obtain ⟨o, ho, hdo⟩ : ∃ o, K.lookup D = some o ∧ o.data = .cls cd := by
    unfold clsIn at hcd
    split at hcd
    · rename_i c' d' cd' sl' hk
      cases hcd
      exact ⟨_, hk, rfl⟩
    · cases hcd
  obtain ⟨oc, odd, oda, osl⟩ := o
  dsimp only at hdo
  subst hdo
  refine { ty := fun _ _ _ J => J.type, it := fun _ _ kin _ => ?_, ne := fun h tp dd its n sl kin htp => ?_, ca := fun kin J k => exc_class c kin J k }
  · intro A' Q' E' s' kp q
    unfold isType loadHead
    exact wpAny_bind (wpAny_loadPart (kp _ _ (kin _ _ ho)) (wpAny_pure q))
  · refine Bool.eq_false_iff.mpr fun q => ?_
    have e : D = tp := Value.ref.inj (beq_iff_eq.mp q)
    subst e
    have z := (kin _ _ ho).symm.trans htp
    cases z
end
end WG
namespace WG
open PySem PySem.Spec PyProof.Rows L2
/-- isinstance(e, c), e the caught exception at a with its own dict -/
def rIsD (K : PySem.W.Frag) (a : Addr) (cls : Value) (d : Option Addr) : List V → Hp → VK → Prop := fun xs H Q => ∃ (D dd : Addr) (fs : List (Str × V)) (c : V) (cv : Value) (b : Bool), cls = .ref D ∧ d = some dd ∧ H dd = some (.xd fs) ∧ ExcC K D ∧
  xs = [.ref a, c] ∧ (∀ u, RelV c u → u = cv) ∧ PySem.W.kitOne K (.ref D) cv = some b ∧ Q (.bl b) H
theorem call_isD {X : Cx} {a : Addr} {oe : Obj} {cls : Value} {d : Option Addr} {pn : List (Addr × Obj)} (hz : Zc cls d oe) (hf : ∃ vs, oe.data = .fields vs) : CallR (X.suite a ((a, oe) :: pn)) (.builtin "isinstance") (rIsD X.K a cls d) := by
  intro pins s σ H xs us Q I r h
  obtain ⟨D, dd, fs, cl, cv, b, rfl, rfl, hx, c, rfl, hcv, e, q⟩ := h
  cases r with
  | cons rx rr =>
    cases rr with
    | cons rt rr =>
      cases rr
      cases rx
      have ec := hcv _ rt
      subst ec
      obtain ⟨hget, _⟩ := I.pin (a, oe) (List.mem_append.mpr (.inl List.mem_cons_self))
      obtain ⟨vs, hv⟩ := hf
      obtain ⟨mA, hns, _⟩ := I.hok dd _ hx
      obtain ⟨od, ho, _⟩ := lookIn_ns hns
      have J : PySem.W.InstAt s.heap a oe D (some od) := ⟨hget, hz.1, by unfold PySem.W.notCls; rw [hv] <;> rfl, by rw [hz.2]; exact ho⟩
      exact PySem.W.kia_one (kit_exc c) I.kIn J e (fun z => nomatch z) fun tk => ⟨.bl b, H, I.kept (t' := tk) fun _ _ z => z, rfl, q⟩
end WG

set_option Elab.async false
set_option linter.all false
set_option maxRecDepth 100000
set_option maxHeartbeats 4000000
namespace WB
open PySem PySem.Spec PyProof.Rows L2 WG
open TL (tl)
/-! ### a call of a local name within a try -/
def tCallLS (i : Nat) (f : Addr) (sp : Sp) (E : L2.St → XK) (t : TA) : TE := fun σ H Q => σ[i]? = some (some (.ref f)) ∧ t σ H fun vs H1 => sp vs H1 Q (E σ)
theorem pe_callLS {X : Cx} {CX : CXT} {k i : Nat} {f : Addr} {fd : FuncData} {ps : List Str} {sp : Sp} {E : L2.St → XK} {nm : Str} {p pos : Pos} {e : Expr} {es : List Expr} {t : TA}
    (G : FnOk X.prog X.w X.K X.mg X.base CX k f fd ps sp) (room : Room k X.A) (at_ : X.N[i]? = some nm) (vis : Vis X.env.scope nm) (kp : PySem.W.keepIn X.K (.ref f) = true) (bnd : Binds X.K fd ps []) (out : ∀ σ, PassesAt CX X σ (E σ)) (args : PA X (e :: es) t)
    (n1 : (nm == ("__debug__" : Str)) = false := by decide) (n2 : (nm == ("__classdict__" : Str)) = false := by decide)
    (s1 : starEach (e :: es) X.env = (false, eval e X.env) :: starEach es X.env := by rfl) (s2 : (backTo pos (starEach es X.env)).any (·.1) = false := by rfl) : PE X (.Call (.Name nm p) (e :: es) [] pos) (tCallLS i f sp E t) := by
  constructor
  intro pins st σ H want inv ask
  refine wpAny_Call_Name_kw (thn ((pe_var (pos := p) at_ vis n1 n2).run pins st σ H (fun v H1 => v = .ref f ∧ H1 = H) inv ⟨.ref f, ask.1, rfl, rfl⟩) fun u st1 got => ?_)
  obtain ⟨v, H1, inv1, rel, rfl, rfl⟩ := got
  cases rel
  exact PySem.W.callWith_K (h₀ := X.base) inv.ok.mod.kin kp (thn (args.run pos pins st1 σ _ _ inv1 ask.2) fun us st2 ⟨vs, H2, inv2, rels, q⟩ => ⟨inv2.kIn, run_fnS G room bnd (out σ) inv2 rels q⟩) s1 s2
/-! ### dict(d) of a dict of the module -/
inductive EntAll (P : Params) : List DictEntry → List (Key × V) → Prop
  | nil : EntAll P [] []
  | cons {hs : Int} {x : Str} {t : Tok} {u : Value} {v : V} {es : List DictEntry} {kvs : List (Key × V)} : hs = PyData.keyHash P x → RelV v u → EntAll P es kvs → EntAll P (⟨hs, .str x t, u⟩ :: es) ((Sum.inr x, v) :: kvs)
theorem EntAll.vals {P : Program} {w : World} {es : List DictEntry} {kvs : List (Key × V)} (h : EntAll w.params es kvs) : ∃ vs : List (Key × Value), KV kvs vs ∧ Pairs (mixKind P w) es vs ∧ (∀ e ∈ es, ∃ k, (mixKind P w).is k e.key = true ∧ e.hash = (mixKind P w).hash k) ∧ vs.map (·.1) = kvs.map (·.1) := by
  induction h with
  | nil => exact ⟨[], .nil, .nil, (fun e he => by cases he), rfl⟩
  | @cons hs x t u v es kvs eh rel _ ih =>
    obtain ⟨vs, h1, h2, h3, h4⟩ := ih
    have is1 : (mixKind P w).is (Sum.inr x) (.str x t) = true := strKind_is P w x t
    refine ⟨(Sum.inr x, u) :: vs, .cons ⟨rfl, rel⟩ h1, .cons is1 rfl h2, fun e he => ?_, by rw [List.map_cons, List.map_cons, h4]⟩
    rcases List.mem_cons.mp he with r | r
    · subst r
      exact ⟨Sum.inr x, is1, eh⟩
    · exact h3 e r
/-- a dict that the module has written -/
def KDic (K : PySem.W.Frag) (w : World) (a : Addr) (kvs : List (Key × V)) : Prop :=
  ∃ es n, K.lookup a = some ⟨.type "dict", none, .dict es n, #[]⟩ ∧ (a == sysModules) = false ∧ EntAll w.params es.toList kvs ∧ (kvs.map (·.1)).Nodup ∧ kvs.length ≤ 1000
theorem call_dictK {X : Cx} : CallR X (.type "dict") (fun xs H Q => ∃ (a : Addr) (kvs : List (Key × V)), xs = [.ref a] ∧ KDic X.K X.w a kvs ∧ ∀ p, H p = none → Q (.ref p) (upd H p (.dK kvs))) := by
  intro pins s σ H xs us want I rels ask
  obtain ⟨a, kvs, rfl, ⟨es, n, look, low, ent, nd, len⟩, q⟩ := ask
  obtain ⟨u, rfl, rel⟩ := vals1 rels
  cases rel
  obtain ⟨vs, kv, prs, keys, same⟩ := ent.vals (P := X.prog)
  have dd : s.heap.DictOf (mixKind X.prog X.w) a vs := ⟨_, es, n, I.kIn _ _ look, ⟨rfl, rfl, rfl⟩, rfl, fun e he => keys e (Array.mem_toList_iff.mpr he), prs, by rw [same]; exact nd⟩
  have lv : vs.length ≤ sizeLine := by
    have h := congrArg List.length same
    rw [List.length_map, List.length_map] at h
    rw [h]
    exact Nat.le_trans len (by decide)
  have lk : kvs.length ≤ sizeLine := Nat.le_trans len (by decide)
  refine kt_call_dict low dd lv fun h2 d2 sb => ?_
  have ns : (s.heap.objs.size == sysModules) = false := beq_eq_false_iff_ne.mpr (Nat.ne_of_gt I.big)
  have laid : ∀ b o, s.heap.get? b = some o → h2.get? b = some o := fun b o e => (sb.2 b (Nat.ne_of_lt (Heap.lt_size e))).trans (Heap.get?_push_of_some _ e)
  have ob : ObjOk X.prog X.w (upd H s.heap.objs.size (.dK kvs)) h2 s.heap.objs.size (.dK kvs) := ⟨lk, ns, vs, kv, d2⟩
  exact ⟨.ref s.heap.objs.size, _, I.laid (t' := s.toks) laid (Nat.le_refl _) ob, rfl, q _ (I.hok.fresh (Nat.le_refl _))⟩
/-! ### Unmade -/
/-- Unmade, as the written part tells it -/
structure ErrT (K : PySem.W.Frag) (mg : Str → Option Value) (x : Str) (C fI : Addr) (fd : FuncData) : Prop where
  o : OexC K C
  i : PySem.W.findIn K (.ref C) "__init__" = some (some (.ref fI))
  t : PySem.W.typeIn K (.ref fI) = some (.type "function")
  nf : PySem.W.findIn K (.ref C) "why" = some none
  g : mg x = some (.ref C)
  b : Binds K fd ["self", "why"] []
abbrev st_Unmade_init : Stmt := inClass (topS 2) 0
theorem sc_Unmade_init : FnScope ["self", "why"] ["self", "why"] (defScope st_Unmade_init) := ⟨rfl, rfl, rfl, by decide +kernel, rfl, by decide +kernel, by decide +kernel⟩
abbrev st_err := st_Unmade_init
abbrev sc_err := sc_Unmade_init
abbrev ErrD (K : PySem.W.Frag) (f : Addr) (fd : FuncData) : Prop := FunD K "__init__" "Unmade.__init__" (defArgs st_err) (defBody st_err) (defScope st_err) [.str (Str.ofString "")] [] f fd
theorem err_b2 {K : PySem.W.Frag} {f : Addr} {fd : FuncData} (F : ErrD K f fd) : Binds K fd ["self", "why"] [] := by
  obtain ⟨ds, hv, b⟩ := F.binds1 (ps := ["self", "why"]) 2 1 (by simp) rfl (fun T kV doc pm an cdv ct us its h1 h2 => match us, its, h1, h2 with | [_, _], [_], _, _ => ⟨_, rfl, rfl⟩)
  cases hv
  exact b
section
variable {P : Program} {w : World} {K : PySem.W.Frag} {mg : Str → Option Value} {base : Heap}
def spErr (C : Addr) : Sp := fun vs H Q _ => ∃ (a : Addr) (y : V), vs = [.ref a, y] ∧ H a = some (exo a C none) ∧ ∀ dx, H dx = none → dx ≠ a → Q .non (upd (upd H dx (exd dx [(("why" : Str), y)])) a (exo a C (some dx)))
theorem ok_err {C f : Addr} {fd : FuncData} {x : Str} {k : Nat} (F : ErrD K f fd) (T : ErrT K mg x C f fd) : FnOk P w K mg base CX0 (k + 1) f fd ["self", "why"] (spErr C) := by
  refine F.ok sc_err (fun vs H Q E h => ?_) (fun cdv A outer s H vs Q E hr h => ?_)
  · obtain ⟨a, y, rfl, _⟩ := h
    rfl
  · obtain ⟨a, y, rfl, ea, q⟩ := h
    refine ⟨_, pss_one (ps_ost (pv 0) (pv 1)), ?_⟩
    exact ⟨y, rfl, .ref a, rfl, a, C, rfl, T.o, T.nf, .inl ⟨ea, fun dx n ne => q dx n ne⟩⟩
/-- the way out by a raised error -/
theorem err_out {C : Addr} {y : V} {H : Hp} {E : XK} (h : ∀ H' d, Same H H' → H d = none → H' d = some (.xd [(("why" : Str), y)]) → E (.ref C) (some d) H') (a : Addr) (na : H a = none) :
    spErr C [.ref a, y] (upd H a (exo a C none)) (fun v H2 => v = .non ∧ ∃ (d : Addr) (fs : List (Str × V)), H2 a = some (exo a C (some d)) ∧ H2 d = some (exd d fs) ∧ H d = none ∧ E (.ref C) (some d) (upd (del H2 a) d (.xd fs))) (fun _ _ _ => False) := by
  refine ⟨a, y, rfl, upd_same, fun dx ndx ne => ⟨rfl, dx, [(("why" : Str), y)], upd_same, ?_, ?_, ?_⟩⟩
  · rw [upd_ne ne, upd_same]
  · rw [upd_ne ne] at ndx
    exact ndx
  · rw [upd_ne ne] at ndx
    refine h _ dx (fun b o e => ?_) ndx upd_same
    have nb : b ≠ dx := ne_of_none e ndx
    have nba : b ≠ a := ne_of_none e na
    rw [upd_ne nb, del_ne nba, upd_ne nba, upd_ne nb, upd_ne nba]
    exact e
theorem why_look {v : V} : List.lookup ("why" : Str) [(("why" : Str), v)] = some v := by simp [List.lookup]
/-- what may be asked of a caught Unmade -/
structure CaughtT (K : PySem.W.Frag) (CU BE : Addr) : Prop where
  x : XfC K CU
  c : ExcC K CU
  e : PySem.W.exmOne K (.ref CU) (.ref CU) = some true
  v : PySem.W.kitOne K (.ref CU) (.type "ValueError") = some true
  b : PySem.W.kitOne K (.ref CU) (.ref BE) = some false
end
theorem kit_subT {K : PySem.W.Frag} {a : Addr} {T : String} {b : Bool} (hm : PySem.W.kitMeta T = true) (h : PySem.W.subIn K (.ref a) (.type T) = some b) : PySem.W.kitOne K (.ref a) (.type T) = some b := by
  unfold PySem.W.kitOne
  rw [if_neg (by intro z; cases z)]
  unfold PySem.W.kitCls
  dsimp only
  rw [if_pos hm]
  exact h
theorem kit_subR {K : PySem.W.Frag} {a c : Addr} {b : Bool} (h1 : PySem.W.hasDictIn K c = true) (h2 : PySem.W.typeIn K (.ref c) = some (.type "type")) (h3 : PySem.W.subIn K (.ref a) (.ref c) = some b) (h4 : PySem.W.subIn K (.ref a) (.ref a) = some true) : PySem.W.kitOne K (.ref a) (.ref c) = some b := by
  obtain ⟨cd, hc, _⟩ := PySem.W.any_some h1
  unfold PySem.W.kitOne
  split
  · rename_i e
    have e2 : a = c := Value.ref.inj (beq_iff_eq.mp e)
    subst e2
    rw [h4] at h3
    exact h3
  · unfold PySem.W.kitCls
    dsimp only
    have e : ((PySem.W.clsIn K c).isSome && PySem.W.typeIn K (.ref c) == some (.type "type")) = true := by rw [hc, h2] <;> rfl
    rw [if_pos e]
    exact h3
end WB

set_option Elab.async false
set_option linter.all false
set_option maxRecDepth 100000
set_option maxHeartbeats 4000000
namespace WB
open PySem PySem.Spec PyProof.Rows L2 WG
open TL (tl)
/-! ### a call of a local name that holds one of several defs, within a try -/
def tCallLM {ι : Type} (n : Nat) (f : ι → Addr) (sp : ι → Sp) (E : L2.St → XK) (t : TA) : TE := fun σ H Q => ∃ i : ι, σ[n]? = some (some (.ref (f i))) ∧ t σ H fun vs H1 => sp i vs H1 Q (E σ)
theorem pe_callLM {ι : Type} {X : Cx} {CX : CXT} {k n : Nat} {f : ι → Addr} {fd : ι → FuncData} {ps : List Str} {sp : ι → Sp} {E : L2.St → XK} {nm : Str} {p pos : Pos} {e : Expr} {es : List Expr} {t : TA}
    (G : ∀ i, FnOk X.prog X.w X.K X.mg X.base CX k (f i) (fd i) ps (sp i)) (room : Room k X.A) (at_ : X.N[n]? = some nm) (vis : Vis X.env.scope nm) (kp : ∀ i, PySem.W.keepIn X.K (.ref (f i)) = true) (bnd : ∀ i, Binds X.K (fd i) ps []) (out : ∀ σ, PassesAt CX X σ (E σ)) (args : PA X (e :: es) t)
    (n1 : (nm == ("__debug__" : Str)) = false := by decide) (n2 : (nm == ("__classdict__" : Str)) = false := by decide)
    (s1 : starEach (e :: es) X.env = (false, eval e X.env) :: starEach es X.env := by rfl) (s2 : (backTo pos (starEach es X.env)).any (·.1) = false := by rfl) : PE X (.Call (.Name nm p) (e :: es) [] pos) (tCallLM n f sp E t) := by
  constructor
  intro pins st σ H want inv ask
  obtain ⟨i, hi, ask⟩ := ask
  exact (pe_callLS (G i) room at_ vis (kp i) (bnd i) out args n1 n2 s1 s2).run pins st σ H want inv ⟨hi, ask⟩
/-! ### repr of data -/
def rReprD (K : PySem.W.Frag) : List V → Hp → VK → Prop := fun xs H Q => ∃ (a : Addr) (d : PyData), xs = [.ref a] ∧ Dp K H (.ref a) d ∧ d.showable = true ∧ d.hasDict = false ∧ d.depth ≤ 8 ∧ d.shown.length ≤ sizeLine ∧ Q (.str d.shown) H
theorem call_reprD {X : Cx} (hg : X.A.guards = some []) (hu : X.A.units + 16 < cLine) : CallR X (.builtin "repr") (rReprD X.K) := by
  intro pins s σ H xs us Q I rels ask
  obtain ⟨a, d, rfl, hd, sh, nd, dp, len, q⟩ := ask
  obtain ⟨u, rfl, rel⟩ := vals1 rels
  cases rel
  obtain ⟨as, rd⟩ := Dp.reads I d (.ref a) (.ref a) hd rfl
  exact repr_of_reads' (h₀ := s.heap) rd sh (PyData.noDict_hsm nd) hg (by omega) (fun _ _ e => e) (fun h' u tk kept => ⟨.str d.shown, H, I.kept (t' := tk) kept, ⟨u, rfl⟩, q⟩) len
/-! ### rpartition -/
theorem mt_rpartition {X : Cx} : MtR X "str.rpartition" (fun x xs H Q => ∃ a b, x = .str a ∧ xs = [.str b] ∧ (b.length == 0) = false ∧ a.length ≤ sizeLine ∧
    ∀ p, H p = none → Q (.ref p) (upd H p (.tup [.str (Txt.rpartition a b).1, .str (Txt.rpartition a b).2.1, .str (Txt.rpartition a b).2.2]))) := by
  intro pins s σ H x xs v us Q I rx rs ask
  obtain ⟨a, b, rfl, rfl, hb, hz, h⟩ := ask
  obtain ⟨t, rfl⟩ := rx
  obtain ⟨u, rfl, ru⟩ := vals1 rs
  obtain ⟨tu, rfl⟩ := ru
  refine call_meets PySem.F.slot_str_rpartition (typeIs_str _ _ _) PySem.F.entry_str_rpartition (PySem.F.args_str_rpartition_2 _ _) (meets_str_rpartition a b t tu hb hz) ?_
  unfold Txt.rpartition at h
  revert h
  cases Builtin.Str.lastOccurrence a b 0 a.length with
  | none =>
    intro h
    exact laid_parts I h
  | some i =>
    intro h
    exact laid_parts I h
/-! ### texts between signs -/
theorem joinL_snoc (S : List Nat) : ∀ (ps : List (List Nat)) (p : List Nat), TL.joinL S (ps ++ [p]) = if ps = [] then p else TL.joinL S ps ++ (S ++ p)
  | [], p => rfl
  | [x], p => rfl
  | x :: y :: r, p => by
    rw [if_neg (by simp)]
    show x ++ (S ++ TL.joinL S ((y :: r) ++ [p])) = (x ++ (S ++ TL.joinL S (y :: r))) ++ (S ++ p)
    rw [joinL_snoc S (y :: r) p, if_neg (by simp)]
    simp [List.append_assoc]
/-- the texts between the signs c of z -/
structure Between (c : Nat) (z : Str) (ps : List Str) (b : Str) : Prop where
  all : TL.joinL [c] ((ps ++ [b]).map tl) = tl z
  free : ∀ p ∈ ps ++ [b], c ∉ tl p
theorem Between.split {c : Nat} {z : Str} {ps : List Str} {b : Str} (h : Between c z ps b) (hc : c < 256) : Txt.split z ⟨#[c]⟩ = ps ++ [b] := by
  have e : Txt.join ⟨#[c]⟩ (ps ++ [b]) = z := str_ext (by rw [TL.join_eq, TL.tl_join]; exact h.all)
  have k := TL.split_join (y := ⟨#[c]⟩) (s := c) (S := []) rfl (by simp [hc]) (parts := ps ++ [b]) (by simp) h.free
  rw [e] at k
  exact k
theorem rpart_at {z y : Str} {c : Nat} {A B : List Nat} (hy : tl y = [c]) (hz : tl z = A ++ c :: B) (hB : c ∉ B) : Txt.rpartition z y = (⟨A.toArray⟩, y, ⟨B.toArray⟩) := by
  have ly : y.length = 1 := by rw [TL.len_tl, hy]; rfl
  have lz : z.length = A.length + (B.length + 1) := by rw [TL.len_tl, hz, List.length_append, List.length_cons]
  have hyn : tl y ≠ [] := by rw [hy]; exact fun k => nomatch k
  have pre1 : ∀ i, StrLaws.At z y z.length i ↔ (tl z)[i]? = some c := by
    intro i
    rw [TL.at_iff hyn i, hy]
    cases e : (tl z).drop i with
    | nil =>
      have hn : (tl z)[i]? = none := List.getElem?_eq_none (by have := congrArg List.length e; rw [List.length_drop] at this; have : (tl z).length - i = 0 := this; omega)
      rw [hn]
      exact ⟨(fun k => by cases k), fun k => nomatch k⟩
    | cons d r =>
      have hd : (tl z)[i]? = some d := by
        have := congrArg List.head? e
        rw [List.head?_drop] at this
        exact this
      rw [hd]
      show (decide _ && true) = true ↔ _
      constructor
      · intro k
        have := of_decide_eq_true (Bool.and_eq_true_iff.mp k).1
        rw [this]
      · intro k
        rw [Option.some.inj k]
        simp
  have hA : (tl z)[A.length]? = some c := by
    rw [hz, List.getElem?_append_right (Nat.le_refl _), Nat.sub_self]
    rfl
  rcases StrLaws.last_spec z y with ⟨_, hn⟩ | ⟨i, e, hi, hn⟩
  · exact absurd ((pre1 _).mpr hA) (hn _)
  · have ei : i = A.length := by
      have hi2 := (pre1 i).mp hi
      by_cases h1 : i < A.length
      · exact absurd ((pre1 _).mpr hA) (hn _ h1)
      · by_cases h2 : i = A.length
        · exact h2
        · have h3 : (A ++ c :: B)[i]? = B[i - A.length - 1]? := by
            rw [List.getElem?_append_right (by omega), show i - A.length = (i - A.length - 1) + 1 by omega, List.getElem?_cons_succ]
            congr 1
          rw [hz, h3] at hi2
          exact absurd (List.mem_of_getElem? hi2) hB
    unfold Txt.rpartition
    rw [e, ei]
    have e1 : Builtin.Str.strSub z 0 A.length = ⟨A.toArray⟩ := str_ext (by rw [TL.tl_strSub, hz, List.drop_zero, Nat.sub_zero, List.take_left])
    have e2 : Builtin.Str.strSub z (A.length + y.length) z.length = ⟨B.toArray⟩ := str_ext (by
      rw [TL.tl_strSub_end, hz, ly, List.drop_append]
      simp)
    show (Builtin.Str.strSub z 0 A.length, y, Builtin.Str.strSub z (A.length + y.length) z.length) = _
    rw [e1, e2]
theorem rpart_no {z y : Str} {c : Nat} (hy : tl y = [c]) (hz : c ∉ tl z) : Txt.rpartition z y = (Str.empty, Str.empty, z) := by
  have hyn : tl y ≠ [] := by rw [hy]; exact fun k => nomatch k
  rcases StrLaws.last_spec z y with ⟨e, _⟩ | ⟨i, e, hi, hn⟩
  · unfold Txt.rpartition
    rw [e]
  · have k := (TL.at_iff hyn i).mp hi
    rw [hy] at k
    cases e2 : (tl z).drop i with
    | nil =>
      rw [e2] at k
      cases k
    | cons d r =>
      rw [e2] at k
      have k1 : (decide (d = c) && true) = true ∨ (decide (c = d) && true) = true := by
        first | exact .inl k | exact .inr k
      have hd : d ∈ tl z := List.mem_of_mem_drop (i := i) (by rw [e2]; exact List.mem_cons_self)
      rcases k1 with k1 | k1
      · have := of_decide_eq_true (Bool.and_eq_true_iff.mp k1).1
        exact absurd (by rw [← this]; exact hd) hz
      · have := of_decide_eq_true (Bool.and_eq_true_iff.mp k1).1
        exact absurd (by rw [this]; exact hd) hz
end WB

set_option Elab.async false
set_option linter.all false
set_option maxRecDepth 100000
set_option maxHeartbeats 4000000
namespace WB
open PySem PySem.Spec PyProof.Rows L2 WG
open TL (tl)
abbrev st_as_word : Stmt := topS 9
theorem sc_as_word : FnScope ["word"] ["word"] (defScope st_as_word) := ⟨rfl, rfl, rfl, by decide +kernel, rfl, by decide +kernel, by decide +kernel⟩
abbrev st_as_yesno : Stmt := topS 12
theorem sc_as_yesno : FnScope ["word"] ["word"] (defScope st_as_yesno) := ⟨rfl, rfl, rfl, by decide +kernel, rfl, by decide +kernel, by decide +kernel⟩
abbrev st_as_pair : Stmt := topS 13
theorem sc_as_pair : FnScope ["word", "ahead", "sign", "behind"] ["word"] (defScope st_as_pair) := ⟨rfl, rfl, rfl, by decide +kernel, rfl, by decide +kernel, by decide +kernel⟩
abbrev st_as_list : Stmt := topS 14
theorem sc_as_list : FnScope ["word"] ["word"] (defScope st_as_list) := ⟨rfl, rfl, rfl, by decide +kernel, rfl, by decide +kernel, by decide +kernel⟩
/-! ### what the four makers tell -/
inductive MkI where
  | w | y | p | l
def nmOf : MkI → Str
  | .w => Str.ofString "word"
  | .y => Str.ofString "yesno"
  | .p => Str.ofString "pair"
  | .l => Str.ofString "list"
def cCol : Str := Str.ofString ":"
def cCom : Str := Str.ofString ","
theorem cCol_is : cCol = ⟨#[58]⟩ := by decide +kernel
theorem cCom_is : cCom = ⟨#[44]⟩ := by decide +kernel
def gOf : MkI → Str → Option PyData
  | .w, z => some (.str z)
  | .y, z => if z = Str.ofString "yes" then some (.bool true) else if z = Str.ofString "no" then some (.bool false) else none
  | .p, z => if 1 < (Txt.split z cCol).length then some (.tuple ([Txt.join cCol (Txt.split z cCol).dropLast, (Txt.split z cCol).getLastD (Str.ofString "")].map PyData.str)) else none
  | .l, z => some (.tuple ((if z = Str.ofString "" then [] else Txt.split z cCom).map PyData.str))
/-- a value and its data -/
inductive DV (K : PySem.W.Frag) (H : Hp) : V → PyData → Prop
  | str (y : Str) : DV K H (.str y) (.str y)
  | bl (b : Bool) : DV K H (.bl b) (.bool b)
  | tup {p : Addr} {ys : List Str} (h : SqT K H p (ys.map V.str)) : DV K H (.ref p) (.tuple (ys.map PyData.str))
theorem same_tup {K : PySem.W.Frag} {H H' : Hp} {a : Addr} {xs : List V} (e : Same H H') (h : SqT K H a xs) : SqT K H' a xs := by
  rcases h with (h | ⟨o, h⟩) | h
  · exact .inl (.inl (e _ _ h))
  · exact .inl (.inr ⟨o, e _ _ h⟩)
  · exact .inr h
theorem DV.same {K : PySem.W.Frag} {H H' : Hp} {v : V} {d : PyData} (h : DV K H v d) (e : Same H H') : DV K H' v d := by
  cases h with
  | str y => exact .str y
  | bl b => exact .bl b
  | tup h => exact .tup (same_tup e h)
theorem DV.dp {K : PySem.W.Frag} {H : Hp} {v : V} {d : PyData} (h : DV K H v d) : Dp K H v d := by
  cases h with
  | str y => exact .str y
  | bl b => exact .bl b
  | tup h => exact .tup h (dp_strs _)
section
variable {P : Program} {w : World} {K : PySem.W.Frag} {mg : Str → Option Value} {base : Heap}
def spMk (K : PySem.W.Frag) (CU : Addr) (g : Str → Option PyData) : Sp := fun vs H Q E => ∃ z : Str, vs = [.str z] ∧ Tq B8 60 z ∧ (∀ d, g z = some d → ∀ H' v, Same H H' → DV K H' v d → Q v H') ∧
  (g z = none → ∀ (y : Str) H' d, Same H H' → H d = none → H' d = some (.xd [(("why" : Str), .str y)]) → E (.ref CU) (some d) H')
theorem ok_word_m {CU f : Addr} {fd : FuncData} {k : Nat} (F : Fun K "as_word" "as_word" st_as_word f fd) : FnOk P w K mg base (L2.CX P w) (k + 3) f fd ["word"] (spMk K CU (gOf .w)) := by
  refine F.okX sc_as_word (fun vs H Q E h => ?_) (fun cdv A outer s H vs Q E hr h => ?_)
  · obtain ⟨z, rfl, _⟩ := h
    rfl
  · obtain ⟨z, rfl, tz, q, qx⟩ := h
    exact ⟨_, pss_one (ps_ret (pv 0)), _, rfl, q _ rfl _ _ (Same.refl _) (.str z)⟩
theorem ok_yesno_m {CU f fE : Addr} {fd fdE : FuncData} {k : Nat} (F : Fun K "as_yesno" "as_yesno" st_as_yesno f fd) (FE : ErrD K fE fdE) (TE : ErrT K mg "Unmade" CU fE fdE) : FnOk P w K mg base (L2.CX P w) (k + 3) f fd ["word"] (spMk K CU (gOf .y)) := by
  have GE : FnOk P w K mg base CX0 (k + 1) fE fdE ["self", "why"] (spErr CU) := ok_err FE TE
  refine F.okX sc_as_yesno (fun vs H Q E h => ?_) (fun cdv A outer s H vs Q E hr h => ?_)
  · obtain ⟨z, rfl, _⟩ := h
    rfl
  · obtain ⟨z, rfl, tz, q, qx⟩ := h
    refine ⟨_, pss_cons (ps_if (pt_cmpR op_notIn_seq (pv 0) (pe_tup (pa_cons pe_str (pa_cons pe_str pa_nil))) (by rfl)) (pss_one (ps_raise rfl (takes_of rfl rfl rfl rfl) (pmk_oex TE.o TE.i TE.t GE hr TE.b .nil pass0 (by rfl) TE.g (pa_cons pe_str pa_nil)))) pss_nil)
      (pss_one (ps_ret (pe_cmpR op_eq (pv 0) pe_str (nomark _)))), ?_⟩
    refine ⟨_, rfl, by show 2 ≤ sizeLine; decide, fun t nt => ?_⟩
    have sm1 : Same H (upd H t (.tup ([Str.ofString "yes", Str.ofString "no"].map V.str))) := same_upd nt
    have et : (upd H t (.tup ([Str.ofString "yes", Str.ofString "no"].map V.str))) t = some (.tup ([Str.ofString "yes", Str.ofString "no"].map V.str)) := upd_same
    refine ⟨t, _, rfl, .inr (SqT.of et), rfl, strs_flat [Str.ofString "yes", Str.ofString "no"], _, rfl, ite2 (fun e => ?_) (fun e => ?_)⟩
    · have hno : z ∉ [Str.ofString "yes", Str.ofString "no"] := fun h => by
        have e' : (!inV (.str z) ([Str.ofString "yes", Str.ofString "no"].map V.str)) = true := e
        rw [inV_strs, decide_eq_true h] at e'
        cases e'
      have hg : gOf .y z = none := by
        show (if z = Str.ofString "yes" then _ else if z = Str.ofString "no" then _ else none) = none
        rw [if_neg (fun h => hno (by rw [h]; exact List.mem_cons_self)), if_neg (fun h => hno (by rw [h]; exact List.mem_cons_of_mem _ List.mem_cons_self))]
      exact ⟨by show 1 ≤ 1000; decide, fun a na => err_out (fun H' d sm nd ed => qx hg _ H' d (sm1.trans sm) (sm1.free nd) ed) a na⟩
    · have hin : z ∈ [Str.ofString "yes", Str.ofString "no"] := by
        by_cases h : z ∈ [Str.ofString "yes", Str.ofString "no"]
        · exact h
        · refine absurd ?_ e
          show (!inV (.str z) ([Str.ofString "yes", Str.ofString "no"].map V.str)) = true
          rw [inV_strs, decide_eq_false h]
          rfl
      refine ⟨_, rfl, rfl, ?_⟩
      have hg : gOf .y z = some (.bool (decide (V.str z = V.str (Str.ofString "yes")))) := by
        show (if z = Str.ofString "yes" then _ else if z = Str.ofString "no" then _ else none) = _
        by_cases h : z = Str.ofString "yes"
        · rw [if_pos h, decide_eq_true (by rw [h])]
        · have h2 : z = Str.ofString "no" := by
            rcases List.mem_cons.mp hin with k | k
            · exact absurd k h
            · exact List.mem_singleton.mp k
          rw [if_neg h, if_pos h2, decide_eq_false (fun k => h (V.str.inj k))]
      exact q _ hg _ _ sm1 (.bl _)
/-- the parts of z between its colons -/
theorem cut_facts (z : Str) (c : Nat) : ∃ (ps : List Str) (b : Str), Txt.split z ⟨#[c]⟩ = ps ++ [b] ∧ TL.joinL [c] ((ps ++ [b]).map tl) = tl z ∧ (∀ p ∈ ps ++ [b], c ∉ tl p) := by
  have hj := StrLaws.join_split z ⟨#[c]⟩
  have hf := StrLaws.split_free z c
  have hne : Txt.split z ⟨#[c]⟩ ≠ [] := by
    intro h
    unfold Txt.split at h
    split at h
    · cases h
    · split at h
      · cases h
      · have := congrArg List.length h
        rw [length_partsBetween] at this
        cases this
  obtain ⟨ps, b, e⟩ : ∃ ps b, Txt.split z ⟨#[c]⟩ = ps ++ [b] := ⟨_, _, (List.dropLast_concat_getLast hne).symm⟩
  refine ⟨ps, b, e, ?_, by rw [← e]; exact hf⟩
  rw [e, ← TL.join_eq] at hj
  have k := congrArg tl hj
  rw [TL.join_eq, TL.tl_join] at k
  exact k
theorem mem_join {S : List Nat} {ps : List (List Nat)} {p : List Nat} (h : p ∈ ps) : p.length ≤ (TL.joinL S ps).length := by
  induction ps with
  | nil => cases h
  | cons x r ih =>
    cases r with
    | nil =>
      rw [List.mem_singleton.mp h]
      exact Nat.le_refl _
    | cons y t =>
      show _ ≤ (x ++ (S ++ TL.joinL S (y :: t))).length
      rw [List.length_append, List.length_append]
      rcases List.mem_cons.mp h with e | e
      · rw [e]
        omega
      · have := ih e
        omega
theorem ok_pair_m {CU f fE : Addr} {fd fdE : FuncData} {k : Nat} (F : Fun K "as_pair" "as_pair" st_as_pair f fd) (FE : ErrD K fE fdE) (TE : ErrT K mg "Unmade" CU fE fdE) : FnOk P w K mg base (L2.CX P w) (k + 3) f fd ["word"] (spMk K CU (gOf .p)) := by
  have GE : FnOk P w K mg base CX0 (k + 1) fE fdE ["self", "why"] (spErr CU) := ok_err FE TE
  refine F.okX sc_as_pair (fun vs H Q E h => ?_) (fun cdv A outer s H vs Q E hr h => ?_)
  · obtain ⟨z, rfl, _⟩ := h
    rfl
  · obtain ⟨z, rfl, tz, q, qx⟩ := h
    refine ⟨_, pss_cons (ps_asg (pe_m1 PySem.F.slot_str_rpartition PySem.F.type_str_rpartition mt_rpartition (pv 0) pe_str) (pg_tup rfl (pgs_cons (pg_name (i := 1) sc_as_pair.nd rfl (Or.inl rfl)) (pgs_cons (pg_name (i := 2) sc_as_pair.nd rfl (Or.inl rfl)) (pgs_cons (pg_name (i := 3) sc_as_pair.nd rfl (Or.inl rfl)) pgs_nil)))))
      (pss_cons (ps_if (pt_cmpR op_eq (pv 2) pe_str (nomark _)) (pss_one (ps_raise rfl (takes_of rfl rfl rfl rfl) (pmk_oex TE.o TE.i TE.t GE hr TE.b .nil pass0 (by rfl) TE.g (pa_cons pe_str pa_nil)))) pss_nil)
      (pss_one (ps_ret (pe_tup (pa_cons (pv 1) (pa_cons (pv 3) pa_nil)))))), ?_⟩
    have hzl : z.length ≤ sizeLine := Nat.le_trans tz.le (by decide)
    have tc : tl cCol = [58] := by decide +kernel
    have te : tl (Str.ofString "") = [] := by decide +kernel
    obtain ⟨ps, b, esp, ej, hf⟩ := cut_facts z 58
    rw [← cCol_is] at esp
    have hb : 58 ∉ tl b := hf b (List.mem_append_right _ List.mem_cons_self)
    have key : (ps = [] ∧ Txt.rpartition z cCol = (Str.empty, Str.empty, z)) ∨ (ps ≠ [] ∧ Txt.rpartition z cCol = (Txt.join cCol ps, cCol, b)) := by
      rw [List.map_append, List.map_cons, List.map_nil, joinL_snoc] at ej
      by_cases h : ps = []
      · left
        rw [if_pos (by rw [h]; rfl)] at ej
        exact ⟨h, rpart_no tc (by rw [← ej]; exact hb)⟩
      · right
        rw [if_neg (by simpa using h)] at ej
        refine ⟨h, (rpart_at tc (A := TL.joinL [58] (ps.map tl)) (B := tl b) ej.symm hb).trans ?_⟩
        have e1 : (⟨(TL.joinL [58] (ps.map tl)).toArray⟩ : Str) = Txt.join cCol ps := str_ext (by rw [TL.join_eq, TL.tl_join, tc])
        have e2 : (⟨(tl b).toArray⟩ : Str) = b := str_ext rfl
        rw [e1, e2]
    refine ⟨_, rfl, ⟨_, rfl⟩, z, cCol, rfl, rfl, by decide +kernel, hzl, fun p np => ?_⟩
    rcases key with ⟨hps, er⟩ | ⟨hps, er⟩
    · rw [er]
      refine ⟨p, _, rfl, SqT.of upd_same, rfl, _, _, rfl, _, _, rfl, _, _, rfl, rfl, ?_⟩
      have sm1 : Same H (upd H p (.tup [.str Str.empty, .str Str.empty, .str z])) := same_upd np
      refine ⟨_, rfl, rfl, _, rfl, ?_⟩
      rw [decide_eq_true (show V.str Str.empty = V.str (Str.ofString "") from by decide +kernel)]
      have hg : gOf .p z = none := by
        show (if 1 < (Txt.split z cCol).length then _ else none) = none
        rw [if_neg (by rw [esp, hps]; exact Nat.lt_irrefl 1)]
      exact ⟨by show 1 ≤ 1000; decide, fun a na => err_out (fun H' d sm nd ed => qx hg _ H' d (sm1.trans sm) (sm1.free nd) ed) a na⟩
    · rw [er]
      refine ⟨p, _, rfl, SqT.of upd_same, rfl, _, _, rfl, _, _, rfl, _, _, rfl, rfl, ?_⟩
      have sm1 : Same H (upd H p (.tup [.str (Txt.join cCol ps), .str cCol, .str b])) := same_upd np
      refine ⟨_, rfl, rfl, _, rfl, ?_⟩
      rw [decide_eq_false (show ¬ V.str cCol = V.str (Str.ofString "") from by decide +kernel)]
      have hpos : 0 < ps.length := List.length_pos_iff.mpr hps
      have hg : gOf .p z = some (.tuple ([Txt.join cCol ps, b].map PyData.str)) := by
        show (if 1 < (Txt.split z cCol).length then _ else none) = _
        rw [if_pos (by rw [esp, List.length_append]; show 1 < ps.length + 1; omega), esp, List.dropLast_concat]
        congr 3
        simp
      refine ⟨_, rfl, _, rfl, by show 2 ≤ sizeLine; decide, fun p2 np2 => ?_⟩
      exact q _ hg _ _ (sm1.trans (same_upd np2)) (.tup (ys := [Txt.join cCol ps, b]) (SqT.of upd_same))
theorem ok_list_m {CU f : Addr} {fd : FuncData} {k : Nat} (F : Fun K "as_list" "as_list" st_as_list f fd) (m_tuple : mg "tuple" = none) : FnOk P w K mg base (L2.CX P w) (k + 3) f fd ["word"] (spMk K CU (gOf .l)) := by
  refine F.okX sc_as_list (fun vs H Q E h => ?_) (fun cdv A outer s H vs Q E hr h => ?_)
  · obtain ⟨z, rfl, _⟩ := h
    rfl
  · obtain ⟨z, rfl, tz, q, qx⟩ := h
    refine ⟨_, pss_one (ps_ret (pe_ifExp (pt_cmpR op_eq (pv 0) pe_str (nomark _)) (pe_tup pa_nil) (pe_callTy call_tuple_of (by rfl) m_tuple (by decide +kernel) (pa_cons (pe_split (pv 0) pe_str) pa_nil)))), ?_⟩
    refine ⟨_, rfl, rfl, _, rfl, ite2 (fun e => ?_) (fun e => ?_)⟩
    · have e1 : z = Str.ofString "" := V.str.inj (of_decide_eq_true e)
      refine ⟨by show 0 ≤ sizeLine; decide, fun p np => q _ rfl _ _ (same_upd np) ?_⟩
      rw [if_pos e1]
      exact .tup (ys := []) (SqT.of upd_same)
    · have e1 : z ≠ Str.ofString "" := fun h => e (decide_eq_true (by rw [h]))
      refine ⟨_, rfl, ⟨_, rfl⟩, z, cCom, rfl, rfl, by decide +kernel, Nat.le_of_lt (small1000 (by have := tz.le; omega)), fun p np => ?_⟩
      refine ⟨p, _, rfl, .inl ⟨SqL.of upd_same, fun l nl => q _ rfl _ _ ((same_upd np).trans (same_upd nl)) ?_⟩⟩
      rw [if_neg e1]
      exact .tup (ys := Txt.split z cCom) (SqT.of upd_same)
end
end WB

set_option Elab.async false
set_option linter.all false
set_option maxRecDepth 100000
set_option maxHeartbeats 4000000
namespace WB
open PySem PySem.Spec PyProof.Rows L2 WG
open TL (tl)
abbrev st_own_makers : Stmt := topS 16
theorem sc_own_makers : FnScope [] [] (defScope st_own_makers) := ⟨rfl, rfl, rfl, by decide +kernel, rfl, by decide +kernel, by decide +kernel⟩
abbrev st_made : Stmt := topS 23
theorem sc_made : FnScope ["_law_maker", "_law_word_here", "_law_told", "e"] ["_law_maker", "_law_word_here"] (defScope st_made) := ⟨rfl, rfl, rfl, by decide +kernel, rfl, by decide +kernel, by decide +kernel⟩
abbrev st_word : Stmt := topS 24
theorem sc_word : FnScope ["_law_pot_here", "_law_way", "_law_word_here", "_law_at", "_law_sign", "_law_some"] ["_law_pot_here"] (defScope st_word) := ⟨rfl, rfl, rfl, by decide +kernel, rfl, by decide +kernel, by decide +kernel⟩
abbrev st_cut : Stmt := topS 25
theorem sc_cut : FnScope ["_law_word_here", "_law_sign", "_law_found", "_law_one"] ["_law_word_here", "_law_sign"] (defScope st_cut) := ⟨rfl, rfl, rfl, by decide +kernel, rfl, by decide +kernel, by decide +kernel⟩
abbrev st_due : Stmt := topS 26
theorem sc_due : FnScope ["_law_name", "_law_word_here", "_law_parts"] ["_law_name", "_law_word_here"] (defScope st_due) := ⟨rfl, rfl, rfl, by decide +kernel, rfl, by decide +kernel, by decide +kernel⟩
def ownKvs (T1 T2 T3 T4 T5 T6 : Addr) : List (Key × V) := [(Sum.inr (Str.ofString "word"), .ref T1), (Sum.inr (Str.ofString "whole"), .ref T2), (Sum.inr (Str.ofString "based"), .ref T3), (Sum.inr (Str.ofString "yesno"), .ref T4), (Sum.inr (Str.ofString "pair"), .ref T5), (Sum.inr (Str.ofString "list"), .ref T6)]
def tSuite (K : PySem.W.Frag) (CU BE : Addr) : Addr → Value → Option Addr → TS := fun a cls d => tAsg (tTup (tCons (tC (.str (Str.ofString "unmade"))) (tCons (tCB (rIsi K) (tCons (tXf a cls d CU "why" (tVar 3)) (tCons (tC (.ty "str")) tNil))) (tCons (tCB (rIsD K a cls d) (tCons (tVar 3) (tCons (tC (.ty "ValueError")) tNil))) (tCons (tCB (rIsD K a cls d) (tCons (tVar 3) (tCons (tC (.ref BE)) tNil))) tNil))))) (gName 2)

/-- what is told of a value's data, or of none -/
def datM : Option PyData → PyData
  | some d => .tuple [.str (Str.ofString "value"), d]
  | none => .tuple [.str (Str.ofString "unmade"), .bool true, .bool true, .bool false]
/-- the tuple at p tells it -/
def DT (K : PySem.W.Frag) (H : Hp) (p : Addr) : Option PyData → Prop
  | some d => ∃ v, SqT K H p [.str (Str.ofString "value"), v] ∧ DV K H v d
  | none => SqT K H p [.str (Str.ofString "unmade"), .bl true, .bl true, .bl false]
theorem DT.dp {K : PySem.W.Frag} {H : Hp} {p : Addr} {o : Option PyData} (h : DT K H p o) : Dp K H (.ref p) (datM o) := by
  cases o with
  | none => exact .tup h (.cons (.str _) (.cons (.bl _) (.cons (.bl _) (.cons (.bl _) .nil))))
  | some d =>
    obtain ⟨v, h1, h2⟩ := h
    exact .tup h1 (.cons (.str _) (.cons h2.dp .nil))
section
variable {P : Program} {w : World} {K : PySem.W.Frag} {mg : Str → Option Value} {base : Heap}
def spOwn (kvs : List (Key × V)) : Sp := fun vs H Q _ => vs = [] ∧ ∀ H' o, Same H H' → H o = none → H' o = some (.dK kvs) → Q (.ref o) H'
theorem ok_own {f aO : Addr} {fd : FuncData} {kvs : List (Key × V)} {k : Nat} (F : Fun K "own_makers" "own_makers" st_own_makers f fd) (m_dict : mg "dict" = none) (c_OWN : mg "OWN_MAKERS" = some (.ref aO)) (hO : KDic K w aO kvs) :
    FnOk P w K mg base CX0 (k + 1) f fd [] (spOwn kvs) := by
  refine F.ok sc_own_makers (fun vs H Q E h => ?_) (fun cdv A outer s H vs Q E hr h => ?_)
  · obtain ⟨rfl, _⟩ := h
    rfl
  · obtain ⟨rfl, q⟩ := h
    refine ⟨_, pss_one (ps_ret (pe_callTy call_dictK (by rfl) m_dict (by decide +kernel) (pa_cons (pe_glob (v := .ref aO) rfl c_OWN rfl) pa_nil))), ?_⟩
    exact ⟨aO, kvs, rfl, hO, fun p np => q _ p (same_upd np) np upd_same⟩

def spLMade (K : PySem.W.Frag) (fM : MkI → Addr) : Sp := fun vs H Q _ => ∃ (i : MkI) (z : Str), vs = [.ref (fM i), .str z] ∧ Tq B8 60 z ∧ ∀ H' p, Same H H' → H p = none → DT K H' p (gOf i z) → Q (.ref p) H'
theorem ok_lmade {CU BE f fE : Addr} {fM : MkI → Addr} {fd fdE : FuncData} {fdM : MkI → FuncData} {k : Nat} (F : Fun K "_law_made" "_law_made" st_made f fd) (G_maker : ∀ i, FnOk P w K mg base (L2.CX P w) k (fM i) (fdM i) ["word"] (spMk K CU (gOf i))) (kpM : ∀ i, PySem.W.keepIn K (.ref (fM i)) = true) (bM : ∀ i, Binds K (fdM i) ["word"] [])
    (TE : ErrT K mg "Unmade" CU fE fdE) (CT : CaughtT K CU BE) (gB : mg "BenchError" = some (.ref BE)) (m_isinstance : mg "isinstance" = none) (m_str : mg "str" = none) (m_ValueError : mg "ValueError" = none) :
    FnOk P w K mg base CX0 (k + 1) f fd ["_law_maker", "_law_word_here"] (spLMade K fM) := by
  refine F.ok sc_made (fun vs H Q E h => ?_) (fun cdv A outer s H vs Q E hr h => ?_)
  · obtain ⟨i, z, rfl, _⟩ := h
    rfl
  · obtain ⟨i, z, rfl, tz, q⟩ := h
    refine ⟨_, PSs.nox (pss_cons (ps_set (i := 2) sc_made.nd rfl (.inl rfl) (pe_tup (pa_cons pe_str pa_nil)))
      (pss_cons (ps_try_as (i := 3) (tb := fun W => tAsg (tTup (tCons (tC (.str (Str.ofString "value"))) (tCons (tCallLM 0 fM (fun i => spMk K CU (gOf i)) (WE W) (tCons (tVar 1) tNil)) tNil))) (gName 2)) (ts := tSuite K CU BE) (Wout := fun _ _ _ _ => False) rfl rfl sc_made.nd rfl rfl ⟨rfl, by decide, Or.inl TE.g⟩ takes0
          (fun W pn xe tk _ => pss_one (ps_set (i := 2) sc_made.nd rfl (Or.inl rfl) (by exact (pe_tup (pa_cons pe_str (pa_cons (pe_callLM G_maker hr rfl (by first | exact .inl rfl | exact .inr (.inl rfl)) kpM bM (fun σ => passAt tk σ) (by exact (pa_cons (pv 1) pa_nil))) pa_nil))))))
          (fun a oe cls d pn hz hf => pss_one (ps_set (i := 2) sc_made.nd rfl (Or.inl rfl) (by exact (pe_tup (pa_cons pe_str (pa_cons (pe_callB (id := "isinstance") (r := rIsi K) call_isi (by rfl) m_isinstance (by decide +kernel) (pa_cons (pe_xf CT.x TE.nf hz hf (pv 3)) (pa_cons (pe_bltn (v := .ty "str") (by rfl) m_str (by decide +kernel) rfl) pa_nil)))
            (pa_cons (pe_callB (call_isD hz hf) (by rfl) m_isinstance (by decide +kernel) (pa_cons (pv 3) (pa_cons (pe_bltn (v := .ty "ValueError") (by rfl) m_ValueError (by decide +kernel) rfl) pa_nil)))
            (pa_cons (pe_callB (call_isD hz hf) (by rfl) m_isinstance (by decide +kernel) (pa_cons (pv 3) (pa_cons (pe_glob (v := .ref BE) rfl gB rfl) pa_nil))) pa_nil)))))))))
      (pss_one (ps_ret (pv 2))))), ?_⟩
    refine ⟨by show 1 ≤ sizeLine; decide, fun t0 n0 => ?_⟩
    first | refine go n0 fun H1 s1 e1 => ?_ | refine goT n0 fun H1 s1 e1 => ?_
    refine ⟨i, rfl, .str z, rfl, z, rfl, tz, fun d hd H2 v s2 dv => ?_, fun hg y H2 d s2 nd ed => ⟨true, CT.e, fun _ a0 na0 => ?_, fun r => Bool.noConfusion r⟩⟩
    · refine ⟨by show 2 ≤ sizeLine; decide, fun p np => ?_⟩
      refine ⟨_, rfl, q _ p ((s1.trans s2).trans (same_upd np)) ((s1.trans s2).free np) ?_⟩
      rw [hd]
      exact ⟨v, SqT.of upd_same, dv.same (same_upd np)⟩
    · refine ⟨.ref a0, rfl, rfl, rfl, d, _, .str y, rfl, ed, why_look, .str y, _, _, _, true, rfl, ClsV.ty "str", TyX.base (TyOf.str _), kit_ty (by decide +kernel), ?_⟩
      refine ⟨.ref a0, rfl, CU, d, _, .ty "ValueError", .type "ValueError", true, rfl, rfl, ed, CT.c, rfl, fun u hu => hu, CT.v, ?_⟩
      refine ⟨.ref a0, rfl, CU, d, _, .ref BE, .ref BE, false, rfl, rfl, ed, CT.c, rfl, fun u hu => hu, CT.b, ?_⟩
      refine ⟨by show 4 ≤ sizeLine; decide, fun p np => ?_⟩
      refine ⟨_, rfl, q _ p ((s1.trans s2).trans (same_upd np)) ((s1.trans s2).free np) ?_⟩
      rw [hg]
      exact SqT.of upd_same
/-! ### the law's words -/
def sets3 : List Str := [signs2, Str.ofString ":,a", Str.ofString ",-:'"]
theorem sets3_ok : ∀ y ∈ sets3, 0 < y.length ∧ y.length ≤ 200 ∧ ∀ c ∈ tl y, c < 256 := by decide +kernel
def sg8 : Str := Str.ofString "yesnoYN "
theorem sg8_ok : sg8.length = 8 ∧ ∀ c ∈ tl sg8, c < 256 := by decide +kernel
def spWord : Sp := fun vs H Q _ => ∃ p : Addr, vs = [.ref p] ∧ Pot H p ∧ ∀ H' (y : Str), But p H H' → Pot H' p → Tq B8 60 y → Q (.str y) H'
theorem ok_word {f fD fS fT : Addr} {fd fdD fdS fdT : FuncData} {k : Nat} (F : Fun K "_law_word" "_law_word" st_word f fd) (D_draw : Df K mg "_law_draw" sDraw ["_law_pot_here", "_law_many"] fD fdD) (D_signs : Df K mg "_law_signs" sSigns [] fS fdS)
    (D_text : Df K mg "_law_text" sText ["_law_pot_here", "_law_most", "_law_signs_here"] fT fdT) (m_divmod : mg "divmod" = none) (m_len : mg "len" = none) (m_range : mg "range" = none) :
    FnOk P w K mg base CX0 (k + 3) f fd ["_law_pot_here"] spWord := by
  have G_draw : FnOk P w K mg base CX0 (k + 2) fD fdD ["_law_pot_here", "_law_many"] spDraw := ok_draw D_draw.F m_divmod
  have G_signs : FnOk P w K mg base CX0 (k + 2) fS fdS [] spSigns := ok_signs D_signs.F
  have G_text : FnOk P w K mg base CX0 (k + 2) fT fdT ["_law_pot_here", "_law_most", "_law_signs_here"] spText := ok_text D_text.F D_draw m_divmod m_len m_range
  refine F.ok sc_word (fun vs H Q E h => ?_) (fun cdv A outer s H vs Q E hr h => ?_)
  · obtain ⟨p, rfl, _⟩ := h
    rfl
  · obtain ⟨p, rfl, hp, q⟩ := h
    refine ⟨_, pss_cons (ps_set (i := 1) sc_word.nd rfl (.inl rfl) (pe_call G_draw hr (by rfl) D_draw.g D_draw.F.kp D_draw.b .nil pass0 (pa_cons (pv 0) (pa_cons pe_int pa_nil))))
      (pss_cons (ps_if (pt_cmpR op_lt (pv 1) pe_int (nomark _)) (pss_one (ps_ret (pe_call G_text hr (by rfl) D_text.g D_text.F.kp D_text.b .nil pass0 (pa_cons (pv 0) (pa_cons (pe_ix ix_list (pe_lst (pa_cons pe_int (pa_cons pe_int (pa_cons pe_int pa_nil)))) (pe_call G_draw hr (by rfl) D_draw.g D_draw.F.kp D_draw.b .nil pass0 (pa_cons (pv 0) (pa_cons pe_int pa_nil))) (fun _ _ => rfl)) (pa_cons (pe_ix ix_list (pe_lst (pa_cons (pe_call0 G_signs hr (by rfl) D_signs.g D_signs.F.kp D_signs.b .nil pass0) (pa_cons pe_str (pa_cons pe_str pa_nil)))) (pv 1) (fun _ _ => rfl)) pa_nil)))))) pss_nil)
      (pss_cons (ps_set (i := 2) sc_word.nd rfl (.inl rfl) (pe_ix ix_list (pe_lst (pa_cons pe_str (pa_cons pe_str pa_nil))) (pe_call G_draw hr (by rfl) D_draw.g D_draw.F.kp D_draw.b .nil pass0 (pa_cons (pv 0) (pa_cons pe_int pa_nil))) (fun _ _ => rfl)))
      (pss_cons (ps_set (i := 3) sc_word.nd rfl (.inl rfl) (pe_call G_draw hr (by rfl) D_draw.g D_draw.F.kp D_draw.b .nil pass0 (pa_cons (pv 0) (pa_cons (pe_op op_add (pe_callB call_len_str (by rfl) m_len PySem.boot_len (pa_cons (pv 2) pa_nil)) pe_int) pa_nil))))
      (pss_cons (ps_set (i := 4) sc_word.nd rfl (.inl rfl) (pe_ix ix_str pe_str (pe_call G_draw hr (by rfl) D_draw.g D_draw.F.kp D_draw.b .nil pass0 (pa_cons (pv 0) (pa_cons pe_int pa_nil))) (fun _ _ => rfl)))
      (pss_cons (ps_set (i := 5) sc_word.nd rfl (.inl rfl) (pe_lst (pa_cons (pv 2) (pa_cons (pe_op op_add_str (pe_op op_add_str (pe_slice sl_str (pv 2) po_none (po_some (pv 3))) (pv 4)) (pe_slice sl_str (pv 2) (po_some (pv 3)) po_none)) (pa_cons (pe_op op_add_str (pe_slice sl_str (pv 2) po_none (po_some (pv 3))) (pe_slice sl_str (pv 2) (po_some (pe_op op_add (pv 3) pe_int)) po_none)) (pa_cons (pe_op op_add_str (pe_op op_add_str (pe_slice sl_str (pv 2) po_none (po_some (pv 3))) (pv 4)) (pe_slice sl_str (pv 2) (po_some (pe_op op_add (pv 3) pe_int)) po_none)) pa_nil))))))
      (pss_one (ps_ret (pe_ix ix_list (pv 5) (pe_call G_draw hr (by rfl) D_draw.g D_draw.F.kp D_draw.b .nil pass0 (pa_cons (pv 0) (pa_cons pe_int pa_nil))) (fun _ _ => rfl))))))))), ?_⟩
    refine ⟨.ref p, rfl, p, 4, rfl, hp, by decide, by decide, fun H1 way b1 p1 w0 w1 => ?_⟩
    refine ⟨_, rfl, way, 3, rfl, rfl, _, rfl, ite2 (fun e => ?_) (fun e => ?_)⟩
    · have hw := of_decide_eq_true e
      refine ⟨.ref p, rfl, by decide +kernel, fun l3 n3 => ?_⟩
      have p5 := p1.new (o := .lst ([(3 : Int), 12, 60].map V.int)) n3
      have nl3 := p1.ne n3
      refine ⟨.ref p, rfl, p, 3, rfl, p5, by decide, by decide, fun H6 d6 b6 p6 d60 d61 => ?_⟩
      obtain ⟨mo, mom, moe⟩ := at_ints [(3 : Int), 12, 60] d6 d60 (by show d6 < 3; exact d61)
      have hmo : 0 ≤ mo ∧ mo ≤ 60 := (by decide : ∀ y ∈ [(3 : Int), 12, 60], 0 ≤ y ∧ y ≤ 60) mo mom
      refine ⟨l3, _, d6, .int mo, rfl, rfl, SqL.of (b6 _ _ nl3.symm upd_same), moe, rfl, by show 3 ≤ sizeLine; decide, fun l4 n4 => ?_⟩
      have p7 := p6.new (o := .lst (sets3.map V.str)) n4
      obtain ⟨sg, sgm, sge⟩ := at_strs sets3 way w0 (by show way < 3; exact hw)
      obtain ⟨hz0, hz1, hz2⟩ := sets3_ok sg sgm
      refine ⟨_, rfl, l4, _, way, .str sg, rfl, rfl, SqL.of upd_same, sge, p, mo, sg, rfl, p7, hmo.1, by omega, hz0, hz1, fun H8 y b8 p8 ty => ?_⟩
      exact q _ _ ((((b1.trans (But.new n3)).trans b6).trans (But.new n4)).trans b8) p8 (ty.mono (by omega) hz2)
    · refine ⟨by show 2 ≤ sizeLine; decide, fun l1 n1 => ?_⟩
      have p2 := p1.new (o := .lst ([Str.ofString "yes", Str.ofString "no"].map V.str)) n1
      have nl1 := p1.ne n1
      refine ⟨.ref p, rfl, p, 2, rfl, p2, by decide, by decide, fun H3 d3 b3 p3 d30 d31 => ?_⟩
      obtain ⟨wd, wdm, wde⟩ := at_strs [Str.ofString "yes", Str.ofString "no"] d3 d30 (by show d3 < 2; exact d31)
      have twd : Tq B8 3 wd := by
        have h : ∀ y ∈ [Str.ofString "yes", Str.ofString "no"], y.length ≤ 3 ∧ ∀ c ∈ tl y, c < 256 := by decide +kernel
        exact ⟨(h wd wdm).1, (h wd wdm).2⟩
      have lw := twd.le
      have hwl : wd.length ≤ sizeLine := Nat.le_trans lw (by decide)
      refine ⟨l1, _, d3, .str wd, rfl, rfl, SqL.of (b3 _ _ nl1.symm upd_same), wde, ?_⟩
      refine ⟨.ref p, rfl, _, rfl, wd, rfl, hwl, _, 1, rfl, rfl, p, (wd.length : Int) + 1, rfl, p3, by omega, by omega, fun H4 at1 b4 p4 a0 a1 => ?_⟩
      refine ⟨.ref p, rfl, p, 8, rfl, p4, by decide, by decide, fun H5 j b5 p5 j0 j1 => ?_⟩
      obtain ⟨n, rfl⟩ := Int.eq_ofNat_of_zero_le j0
      have hn : n < sg8.cps.toList.length := by
        have e : sg8.cps.toList.length = sg8.length := by simp [Str.length]
        rw [e, sg8_ok.1]
        omega
      have t1 : Tq B8 1 (⟨#[sg8.cps.toList[n]]⟩ : Str) := Tq.sign (sg8_ok.2 _ (List.getElem_mem hn))
      refine ⟨sg8, n, sg8.cps.toList[n], rfl, rfl, by rw [sg8_ok.1]; decide, atI_nat (List.getElem?_eq_getElem hn), ?_⟩
      have c1 := twd.cut none (some at1)
      have c2 := twd.cut (some at1) none
      have c3 := twd.cut (some (at1 + 1)) none
      have k1 := c1.app t1
      refine ⟨_, rfl, _, rfl, _, rfl, at1, rfl, wd, rfl, hwl, _, rfl, _, _, rfl, rfl, Nat.le_of_lt (small1000 (by have := c1.le; have := t1.le; omega)), ?_⟩
      refine ⟨_, rfl, _, rfl, at1, rfl, wd, rfl, hwl, _, _, rfl, rfl, Nat.le_of_lt (small1000 (by have := k1.le; have := c2.le; omega)), ?_⟩
      refine ⟨_, rfl, _, rfl, at1, rfl, wd, rfl, hwl, _, rfl, _, rfl, at1, 1, rfl, rfl, at1 + 1, rfl, wd, rfl, hwl, _, _, rfl, rfl, Nat.le_of_lt (small1000 (by have := c1.le; have := c3.le; omega)), ?_⟩
      refine ⟨_, rfl, _, rfl, at1, rfl, wd, rfl, hwl, _, rfl, _, _, rfl, rfl, Nat.le_of_lt (small1000 (by have := c1.le; have := t1.le; omega)), ?_⟩
      refine ⟨_, rfl, _, rfl, at1, 1, rfl, rfl, at1 + 1, rfl, wd, rfl, hwl, _, _, rfl, rfl, Nat.le_of_lt (small1000 (by have := k1.le; have := c3.le; omega)), by show 4 ≤ sizeLine; decide, fun L nL => ?_⟩
      let S4 : List Str := [wd, cutS wd none (some at1) ++ ⟨#[sg8.cps.toList[n]]⟩ ++ cutS wd (some at1) none, cutS wd none (some at1) ++ cutS wd (some (at1 + 1)) none, cutS wd none (some at1) ++ ⟨#[sg8.cps.toList[n]]⟩ ++ cutS wd (some (at1 + 1)) none]
      have p6 := p5.new (o := .lst (S4.map V.str)) nL
      have nlL := p5.ne nL
      refine ⟨.ref L, rfl, .ref p, rfl, p, 4, rfl, p6, by decide, by decide, fun H7 d7 b7 p7 d70 d71 => ?_⟩
      obtain ⟨y, hym, hye⟩ := at_strs S4 d7 d70 (by show d7 < 4; exact d71)
      have ty : Tq B8 60 y := by
        rcases List.mem_cons.mp hym with h | h
        · rw [h]
          exact twd.mono (by decide) (fun _ h => h)
        · rcases List.mem_cons.mp h with h | h
          · rw [h]
            exact (k1.app c2).mono (by decide) (fun _ h => h)
          · rcases List.mem_cons.mp h with h | h
            · rw [h]
              exact (c1.app c3).mono (by decide) (fun _ h => h)
            · rw [List.mem_singleton.mp h]
              exact (k1.app c3).mono (by decide) (fun _ h => h)
      refine ⟨L, _, d7, .str y, rfl, rfl, SqL.of (b7 _ _ nlL.symm upd_same), hye, q _ _ ?_ p7 ty⟩
      exact ((((((b1.trans (But.new n1)).trans b3).trans b4).trans b5).trans (But.new nL)).trans b7)
/-! ### the law's cut -/
def spCut : Sp := fun vs H Q _ => ∃ (z sg : Str) (c : Nat), vs = [.str z, .str sg] ∧ sg = ⟨#[c]⟩ ∧ c < 256 ∧ Tq B8 60 z ∧ ∀ H' o, Same H H' → H o = none → H' o = some (.lst ((Txt.split z sg).map V.str)) → Q (.ref o) H'
theorem le0 (n : Nat) : (Str.ofString "").length ≤ n := by
  have : (Str.ofString "").length = 0 := by decide +kernel
  omega
theorem ok_cut {f : Addr} {fd : FuncData} {k : Nat} (F : Fun K "_law_cut" "_law_cut" st_cut f fd) : FnOk P w K mg base CX0 (k + 1) f fd ["_law_word_here", "_law_sign"] spCut := by
  refine F.ok sc_cut (fun vs H Q E h => ?_) (fun cdv A outer s H vs Q E hr h => ?_)
  · obtain ⟨z, sg, c, rfl, _⟩ := h
    rfl
  · obtain ⟨z, sg, c, rfl, rfl, hc, tz, q⟩ := h
    refine ⟨_, pss_cons (ps_set (i := 2) sc_cut.nd rfl (.inl rfl) (pe_lst (pa_cons pe_str pa_nil)))
      (pss_cons (ps_for PassesOwn.never rfl (pi_str (pv 0)) (pg_name (i := 3) sc_cut.nd rfl (Or.inl rfl)) (pss_one (ps_if (pt_cmpR op_eq (pv 3) (pv 1) (nomark _)) (pss_one (ps_expr (pe_bm PySem.F.plainAttrs_list PySem.F.slot_list_append PySem.F.type_list_append mt_append (pv 2) (pa_cons pe_str pa_nil)))) (pss_one (ps_asg (pe_op op_add_str (pe_ix ix_list (pv 2) (pe_un un_neg pe_int) (fun _ _ => rfl)) (pv 3)) (pg_sub (pv 2) (pe_un un_neg pe_int) set_list))))))
      (pss_one (ps_ret (pv 2)))), ?_⟩
    have hz := tz.le
    have ez := TL.len_tl z
    have esz : z.cps.size = (tl z).length := by simp
    have te : tl (Str.ofString "") = [] := by decide +kernel
    refine ⟨by show 1 ≤ sizeLine; decide, fun l nl => ?_⟩
    first | refine go nl fun H1 s1 e1 => ?_ | refine goT nl fun H1 s1 e1 => ?_
    refine ⟨_, rfl, z, rfl, for_it walk_str (fun i σ H' => Same H H' ∧ i ≤ (tl z).length ∧ ∃ (ps : List Str) (b : Str) (x3 : Option V), σ = [some (.str z), some (.str ⟨#[c]⟩), some (.ref l), x3] ∧ H' l = some (.lst ((ps ++ [b]).map V.str)) ∧ ps.length ≤ i ∧ b.length ≤ i ∧ TL.joinL [c] ((ps ++ [b]).map tl) = (tl z).take i ∧ ∀ p ∈ ps ++ [b], c ∉ tl p)
      ⟨s1, Nat.zero_le _, [], Str.ofString "", none, rfl, e1, Nat.le_refl 0, by decide +kernel, te, (fun p hp => by rw [List.mem_singleton.mp hp, te]; exact fun k => nomatch k)⟩ (fun _ _ _ _ _ => True.intro) ?_ ?_⟩
    · rintro i x σ H5 H6 hi ⟨sm, hle, ps, b, x3, rfl, el, hps, hb, ej, hf⟩ ⟨rfl, d, ec, rfl⟩
      have ec' : (tl z)[i]? = some d := by
        rw [Array.getElem?_toList]
        exact ec
      have hi' : i < (tl z).length := by omega
      have et : (tl z).take (i + 1) = (tl z).take i ++ [d] := by
        rw [List.take_add_one, ec']
        rfl
      have lm : ((ps ++ [b]).map V.str).length = ps.length + 1 := by simp
      refine ⟨_, rfl, _, rfl, rfl, _, rfl, ite2 (fun e => ?_) (fun e => ?_)⟩
      · have ed : d = c := by
          have h1 := congrArg tl (V.str.inj (of_decide_eq_true e))
          exact (List.cons.inj (show [d] = [c] from h1)).1
        refine ⟨.ref l, rfl, .inl ⟨rfl, _, SqL.of el⟩, l, _, _, rfl, rfl, el, by rw [lm]; exact small1000 (by omega), ?_⟩
        refine goU fun H7 u7 e7 => ?_
        refine ⟨fun b' o e => u7 b' o (ne_of_none e nl) (sm b' o e), by omega, ps ++ [b], Str.ofString "", _, rfl, ?_, by rw [List.length_append]; show ps.length + 1 ≤ i + 1; omega, le0 _, ?_, ?_⟩
        · rw [e7, show ((ps ++ [b]) ++ [Str.ofString ""]).map V.str = (ps ++ [b]).map V.str ++ [V.str (Str.ofString "")] from List.map_append]
        · rw [List.map_append (l₁ := ps ++ [b]), List.map_cons, List.map_nil, joinL_snoc, if_neg (by simp), ej, te, et, ed]
          rfl
        · intro p hp
          rcases List.mem_append.mp hp with h | h
          · exact hf p h
          · rw [List.mem_singleton.mp h, te]
            exact fun k => nomatch k
      · have ed : d ≠ c := fun h => e (decide_eq_true (by rw [h]))
        refine ⟨.ref l, rfl, 1, rfl, l, _, -1, .str b, rfl, rfl, SqL.of el, ?_, _, rfl, b, ⟨#[d]⟩, rfl, rfl, Nat.le_of_lt (small1000 (by show b.length + 1 ≤ 1000; omega)), ?_⟩
        · rw [List.map_append]
          exact atI_last _ _
        refine ⟨.ref l, rfl, 1, rfl, l, _, -1, ps.length, rfl, rfl, el, ?_, ?_⟩
        · rw [lm]
          unfold ixN
          rw [if_neg (by decide), if_pos (by omega)]
          congr 1
          omega
        have eset : ((ps ++ [b]).map V.str).set ps.length (.str (b ++ ⟨#[d]⟩)) = (ps ++ [b ++ ⟨#[d]⟩]).map V.str := by
          rw [List.map_append, List.map_append]
          have : ps.length = (ps.map V.str).length := by rw [List.length_map]
          rw [this, List.set_append_right _ _ (Nat.le_refl _), Nat.sub_self]
          rfl
        rw [eset]
        refine goU fun H7 u7 e7 => ?_
        have tbd : tl (b ++ ⟨#[d]⟩) = tl b ++ [d] := TL.tl_append _ _
        refine ⟨fun b' o e => u7 b' o (ne_of_none e nl) (sm b' o e), by omega, ps, b ++ ⟨#[d]⟩, _, rfl, e7, by omega, ?_, ?_, ?_⟩
        · rw [Str.length_append]
          show b.length + 1 ≤ i + 1
          omega
        · rw [List.map_append, List.map_cons, List.map_nil, joinL_snoc] at ej ⊢
          rw [tbd, et, ← ej]
          by_cases h : ps.map tl = []
          · rw [if_pos h, if_pos h]
          · rw [if_neg h, if_neg h]
            simp [List.append_assoc]
        · intro p hp
          rcases List.mem_append.mp hp with h | h
          · exact hf p (List.mem_append_left _ h)
          · rw [List.mem_singleton.mp h, tbd]
            intro k
            rcases List.mem_append.mp k with k | k
            · exact hf b (List.mem_append_right _ List.mem_cons_self) k
            · exact ed (List.mem_singleton.mp k).symm
    · rintro σ H5 ⟨sm, hle, ps, b, x3, rfl, el, hps, hb, ej, hf⟩
      rw [esz, List.take_length] at ej
      have es := (Between.mk ej hf).split hc
      rw [← es] at el
      exact ⟨_, rfl, q _ l sm nl el⟩
/-! ### what is due -/
def spDue (K : PySem.W.Frag) : Sp := fun vs H Q _ => ∃ (i : MkI) (z : Str), vs = [.str (nmOf i), .str z] ∧ Tq B8 60 z ∧ ∀ H' p, Same H H' → DT K H' p (gOf i z) → Q (.ref p) H'
theorem nm_eq (i j : MkI) : decide (V.str (nmOf i) = V.str (nmOf j)) = match i, j with | .w, .w => true | .y, .y => true | .p, .p => true | .l, .l => true | _, _ => false := by
  cases i <;> cases j <;> decide +kernel
theorem ok_due {f fC : Addr} {fd fdC : FuncData} {k : Nat} (F : Fun K "_law_due" "_law_due" st_due f fd) (D_cut : Df K mg "_law_cut" st_cut ["_law_word_here", "_law_sign"] fC fdC) (m_len : mg "len" = none) (m_tuple : mg "tuple" = none) : FnOk P w K mg base CX0 (k + 2) f fd ["_law_name", "_law_word_here"] (spDue K) := by
  have G_cut : FnOk P w K mg base CX0 (k + 1) fC fdC ["_law_word_here", "_law_sign"] spCut := ok_cut D_cut.F
  refine F.ok sc_due (fun vs H Q E h => ?_) (fun cdv A outer s H vs Q E hr h => ?_)
  · obtain ⟨i, z, rfl, _⟩ := h
    rfl
  · obtain ⟨i, z, rfl, tz, q⟩ := h
    refine ⟨_, pss_cons (ps_if (pt_cmpR op_eq (pv 0) pe_str (nomark _)) (pss_one (ps_ret (pe_tup (pa_cons pe_str (pa_cons (pv 1) pa_nil))))) pss_nil)
      (pss_cons (ps_if (PW.pt (pw_and (pt_cmpR op_eq (pv 0) pe_str (nomark _)) (pw_and1 (pt_cmpR op_in_seq (pv 1) (pe_tup (pa_cons pe_str (pa_cons pe_str pa_nil))) (by rfl))))) (pss_one (ps_ret (pe_tup (pa_cons pe_str (pa_cons (pe_cmpR op_eq (pv 1) pe_str (nomark _)) pa_nil))))) pss_nil)
      (pss_cons (ps_if (pt_cmpR op_eq (pv 0) pe_str (nomark _)) (pss_one (ps_ret (pe_tup (pa_cons pe_str (pa_cons (pe_ifExp (pt_cmpR op_ne (pv 1) pe_str (nomark _)) (pe_callTy call_tuple_of (by rfl) m_tuple (by decide +kernel) (pa_cons (pe_call G_cut hr (by rfl) D_cut.g D_cut.F.kp D_cut.b .nil pass0 (pa_cons (pv 1) (pa_cons pe_str pa_nil))) pa_nil)) (pe_tup pa_nil)) pa_nil))))) pss_nil)
      (pss_cons (ps_set (i := 2) sc_due.nd rfl (.inl rfl) (pe_call G_cut hr (by rfl) D_cut.g D_cut.F.kp D_cut.b .nil pass0 (pa_cons (pv 1) (pa_cons pe_str pa_nil))))
      (pss_cons (ps_if (PW.pt (pw_and (pt_cmpR op_eq (pv 0) pe_str (nomark _)) (pw_and1 (pt_cmpR op_gt (pe_callB call_len_seq (by rfl) m_len PySem.boot_len (pa_cons (pv 2) pa_nil)) pe_int (nomark _))))) (pss_one (ps_ret (pe_tup (pa_cons pe_str (pa_cons (pe_tup (pa_cons (pe_join pe_str (pe_slice sl_list (pv 2) po_none (po_some (pe_un un_neg pe_int)))) (pa_cons (pe_ix ix_list (pv 2) (pe_un un_neg pe_int) (fun _ _ => rfl)) pa_nil))) pa_nil))))) pss_nil)
      (pss_one (ps_ret (pe_tup (pa_cons pe_str (pa_cons pe_bl (pa_cons pe_bl (pa_cons pe_bl pa_nil))))))))))), ?_⟩
    have eC : Str.ofString ":" = ⟨#[58]⟩ := by decide +kernel
    have eK : Str.ofString "," = ⟨#[44]⟩ := by decide +kernel
    have n1 : ∀ j : MkI, decide (V.str (nmOf j) = V.str (Str.ofString "word")) = match j with | .w => true | _ => false := fun j => by cases j <;> decide +kernel
    have n2 : ∀ j : MkI, decide (V.str (nmOf j) = V.str (Str.ofString "yesno")) = match j with | .y => true | _ => false := fun j => by cases j <;> decide +kernel
    have n3 : ∀ j : MkI, decide (V.str (nmOf j) = V.str (Str.ofString "list")) = match j with | .l => true | _ => false := fun j => by cases j <;> decide +kernel
    have n4 : ∀ j : MkI, decide (V.str (nmOf j) = V.str (Str.ofString "pair")) = match j with | .p => true | _ => false := fun j => by cases j <;> decide +kernel
    refine ⟨_, rfl, rfl, _, rfl, ?_⟩
    rw [n1]
    cases i with
    | w =>
      refine ⟨_, rfl, by show 2 ≤ sizeLine; decide, fun p np => q _ p (same_upd np) ?_⟩
      exact ⟨_, SqT.of upd_same, .str z⟩
    | y =>
      refine ⟨_, rfl, rfl, _, rfl, ?_⟩
      rw [n2]
      refine ⟨_, rfl, by show 2 ≤ sizeLine; decide, fun t nt => ?_⟩
      have sm1 : Same H (upd H t (.tup ([Str.ofString "yes", Str.ofString "no"].map V.str))) := same_upd nt
      have et : (upd H t (.tup ([Str.ofString "yes", Str.ofString "no"].map V.str))) t = some (.tup ([Str.ofString "yes", Str.ofString "no"].map V.str)) := upd_same
      refine ⟨t, _, rfl, .inr (SqT.of et), rfl, strs_flat [Str.ofString "yes", Str.ofString "no"], _, rfl, ite2 (fun e => ?_) (fun e => ?_)⟩
      · have hin : z ∈ [Str.ofString "yes", Str.ofString "no"] := by
          have e' : inV (.str z) ([Str.ofString "yes", Str.ofString "no"].map V.str) = true := e
          rw [inV_strs] at e'
          exact of_decide_eq_true e'
        refine ⟨_, rfl, rfl, by show 2 ≤ sizeLine; decide, fun p np => q _ p (sm1.trans (same_upd np)) ?_⟩
        have hg : gOf .y z = some (.bool (decide (V.str z = V.str (Str.ofString "yes")))) := by
          show (if z = Str.ofString "yes" then _ else if z = Str.ofString "no" then _ else none) = _
          by_cases h : z = Str.ofString "yes"
          · rw [if_pos h, decide_eq_true (by rw [h])]
          · have h2 : z = Str.ofString "no" := by
              rcases List.mem_cons.mp hin with k | k
              · exact absurd k h
              · exact List.mem_singleton.mp k
            rw [if_neg h, if_pos h2, decide_eq_false (fun k => h (V.str.inj k))]
        rw [hg]
        exact ⟨_, SqT.of upd_same, .bl _⟩
      · have hno : z ∉ [Str.ofString "yes", Str.ofString "no"] := fun h => e (by
          show inV (.str z) ([Str.ofString "yes", Str.ofString "no"].map V.str) = true
          rw [inV_strs]
          exact decide_eq_true h)
        have hg : gOf .y z = none := by
          show (if z = Str.ofString "yes" then _ else if z = Str.ofString "no" then _ else none) = none
          rw [if_neg (fun h => hno (by rw [h]; exact List.mem_cons_self)), if_neg (fun h => hno (by rw [h]; exact List.mem_cons_of_mem _ List.mem_cons_self))]
        refine ⟨_, rfl, rfl, _, rfl, ?_⟩
        rw [n3]
        refine ⟨_, rfl, z, _, 58, rfl, eC, by decide, tz, fun H2 o s2 no eo => ?_⟩
        refine ⟨_, rfl, rfl, _, rfl, ?_⟩
        rw [n4]
        refine ⟨by show 4 ≤ sizeLine; decide, fun p np => q _ p ((sm1.trans s2).trans (same_upd np)) ?_⟩
        rw [hg]
        exact SqT.of upd_same
    | l =>
      refine ⟨_, rfl, rfl, _, rfl, ?_⟩
      rw [n2]
      refine ⟨_, rfl, rfl, _, rfl, ?_⟩
      rw [n3]
      refine ⟨_, rfl, rfl, _, rfl, ite2 (fun e => ?_) (fun e => ?_)⟩
      · have hne : z ≠ Str.ofString "" := fun h => by
          have e' : (!decide (V.str z = V.str (Str.ofString ""))) = true := e
          rw [h] at e'
          simp at e'
        refine ⟨_, rfl, z, _, 44, rfl, eK, by decide, tz, fun H2 o s2 no eo => ?_⟩
        refine ⟨o, _, rfl, .inl ⟨SqL.of eo, fun l nl => ?_⟩⟩
        refine ⟨by show 2 ≤ sizeLine; decide, fun p np => q _ p ((s2.trans (same_upd nl)).trans (same_upd np)) ?_⟩
        refine ⟨.ref l, SqT.of upd_same, ?_⟩
        rw [if_neg hne]
        exact .tup (ys := Txt.split z cCom) (same_tup (same_upd np) (SqT.of upd_same))
      · have he : z = Str.ofString "" := by
          by_cases h : z = Str.ofString ""
          · exact h
          · refine absurd ?_ e
            show (!decide (V.str z = V.str (Str.ofString ""))) = true
            rw [decide_eq_false (fun k => h (V.str.inj k))]
            rfl
        refine ⟨by show 0 ≤ sizeLine; decide, fun l nl => ?_⟩
        refine ⟨by show 2 ≤ sizeLine; decide, fun p np => q _ p ((same_upd nl).trans (same_upd np)) ?_⟩
        refine ⟨.ref l, SqT.of upd_same, ?_⟩
        rw [if_pos he]
        exact .tup (ys := []) (same_tup (same_upd np) (SqT.of upd_same))
    | p =>
      refine ⟨_, rfl, rfl, _, rfl, ?_⟩
      rw [n2]
      refine ⟨_, rfl, rfl, _, rfl, ?_⟩
      rw [n3]
      refine ⟨_, rfl, z, _, 58, rfl, eC, by decide, tz, fun H2 o s2 no eo => ?_⟩
      obtain ⟨ps, b, esp, ej, hf⟩ := cut_facts z 58
      rw [← cCol_is] at esp
      have eo2 : H2 o = some (.lst ((ps ++ [b]).map V.str)) := by
        rw [← esp]
        exact eo
      refine ⟨_, rfl, rfl, _, rfl, ?_⟩
      rw [n4]
      refine ⟨_, rfl, o, _, rfl, .inl (SqL.of eo2), _, 1, rfl, rfl, _, rfl, ite2 (fun e => ?_) (fun e => ?_)⟩
      · have hl : 1 < (ps ++ [b]).length := by
          have := of_decide_eq_true e
          rw [List.length_map] at this
          omega
        have hps : ps.length ≤ 61 := by
          have hh : (tl z).length ≤ 60 := by
            rw [← TL.len_tl]
            exact tz.le
          have lb : ∀ (qs : List (List Nat)), qs.length ≤ (TL.joinL [58] qs).length + 1 := by
            intro qs
            induction qs with
            | nil => exact Nat.zero_le _
            | cons x r ih =>
              cases r with
              | nil => exact Nat.succ_le_succ (Nat.zero_le _)
              | cons y t =>
                show _ ≤ (x ++ ([58] ++ TL.joinL [58] (y :: t))).length + 1
                rw [List.length_append, List.length_append, List.length_cons]
                show _ + 1 ≤ _ + (1 + _) + 1
                omega
          have := lb ((ps ++ [b]).map tl)
          rw [ej, List.length_map, List.length_append] at this
          have h1 : ps.length + 1 ≤ (tl z).length + 1 := this
          omega
        have hg : gOf .p z = some (.tuple ([Txt.join cCol ps, b].map PyData.str)) := by
          show (if 1 < (Txt.split z cCol).length then _ else none) = _
          rw [if_pos (by rw [esp]; exact hl), esp, List.dropLast_concat]
          congr 3
          simp
        have hcv : cutV ((ps ++ [b]).map V.str) none (some (-1)) = ps.map V.str := by
          rw [List.map_append]
          unfold cutV
          have h1 : HT.sIx ((ps.map V.str) ++ [b].map V.str).length ((ps.map V.str) ++ [b].map V.str).length (some (-1)) = ps.length := by
            simp [HT.sIx]
            omega
          rw [HT.sIx_none, h1, List.drop_zero, Nat.sub_zero, ← List.length_map (as := ps) (f := V.str), List.take_left]
        refine ⟨⟨_, rfl⟩, .ref o, rfl, 1, rfl, -1, rfl, o, _, rfl, SqL.of eo2, fun l nl => ?_⟩
        rw [hcv]
        have eo3 : (upd H2 l (.lst (ps.map V.str))) o = some (.lst ((ps ++ [b]).map V.str)) := by
          rw [upd_ne (ne_of_none eo2 nl)]
          exact eo2
        have lcc : cCol.length = 1 := by decide +kernel
        have hus : ∀ u ∈ ps, Tq (fun _ => True) 60 u := by
          intro u hu
          refine ⟨?_, fun _ _ => True.intro⟩
          have := mem_join (S := [58]) (ps := (ps ++ [b]).map tl) (p := tl u) (List.mem_map_of_mem (List.mem_append_left _ hu))
          rw [ej] at this
          rw [TL.len_tl]
          have h2 := tz.le
          rw [TL.len_tl] at h2
          omega
        have es := sum_most 60 ps hus
        refine ⟨cCol, l, ps, rfl, rfl, .inl (SqL.of upd_same), by rw [lcc]; omega, ?_⟩
        refine ⟨.ref o, rfl, 1, rfl, o, _, -1, .str b, rfl, rfl, SqL.of eo3, by rw [List.map_append]; exact atI_last _ _, ?_⟩
        refine ⟨by show 2 ≤ sizeLine; decide, fun t nt => ?_⟩
        refine ⟨by show 2 ≤ sizeLine; decide, fun p np => q _ p (((s2.trans (same_upd nl)).trans (same_upd nt)).trans (same_upd np)) ?_⟩
        rw [hg]
        exact ⟨.ref t, SqT.of upd_same, .tup (ys := [Txt.join cCol ps, b]) (same_tup (same_upd np) (SqT.of upd_same))⟩
      · have hl : ¬ 1 < (ps ++ [b]).length := fun h => e (decide_eq_true (by rw [List.length_map]; omega))
        have hg : gOf .p z = none := by
          show (if 1 < (Txt.split z cCol).length then _ else none) = none
          rw [if_neg (by rw [esp]; exact hl)]
        refine ⟨by show 4 ≤ sizeLine; decide, fun p np => q _ p (s2.trans (same_upd np)) ?_⟩
        rw [hg]
        exact SqT.of upd_same
end
end WB

set_option Elab.async false
set_option linter.all false
set_option maxRecDepth 100000
set_option maxHeartbeats 4000000
namespace WB
open PySem PySem.Spec PyProof.Rows L2 WG
open TL (tl)
/-! ### what is told can be shown -/
theorem join_count (S : List Nat) (hS : 1 ≤ S.length) : ∀ qs : List (List Nat), qs.length ≤ (TL.joinL S qs).length + 1
  | [] => Nat.zero_le _
  | [x] => Nat.succ_le_succ (Nat.zero_le _)
  | x :: y :: t => by
    have ih := join_count S hS (y :: t)
    show _ ≤ (x ++ (S ++ TL.joinL S (y :: t))).length + 1
    rw [List.length_append, List.length_append, List.length_cons]
    omega
theorem mem_of_join {S : List Nat} {c : Nat} : ∀ {ps : List (List Nat)} {p : List Nat}, p ∈ ps → c ∈ p → c ∈ TL.joinL S ps
  | [x], p, h, hc => by
    rw [← List.mem_singleton.mp h]
    exact hc
  | x :: y :: t, p, h, hc => by
    show c ∈ x ++ (S ++ TL.joinL S (y :: t))
    rcases List.mem_cons.mp h with e | e
    · exact List.mem_append_left _ (by rw [← e]; exact hc)
    · exact List.mem_append_right _ (List.mem_append_right _ (mem_of_join e hc))
theorem split_ok {z : Str} {c : Nat} (tz : Tq B8 60 z) : (Txt.split z ⟨#[c]⟩).length ≤ 61 ∧ ∀ p ∈ Txt.split z ⟨#[c]⟩, Tq B8 60 p := by
  obtain ⟨ps, b, esp, ej, hf⟩ := cut_facts z c
  have hz : (tl z).length ≤ 60 := by
    rw [← TL.len_tl]
    exact tz.le
  rw [esp]
  refine ⟨?_, fun p hp => ⟨?_, fun d hd => ?_⟩⟩
  · have := join_count [c] (Nat.le_refl 1) ((ps ++ [b]).map tl)
    rw [ej, List.length_map] at this
    omega
  · have := mem_join (S := [c]) (ps := (ps ++ [b]).map tl) (p := tl p) (List.mem_map_of_mem hp)
    rw [ej] at this
    rw [TL.len_tl]
    omega
  · refine tz.pl d ?_
    rw [← ej]
    exact mem_of_join (List.mem_map_of_mem hp) hd
structure Shows (x : PyData) : Prop where
  s : x.showable = true
  n : x.hasDict = false
  d : x.depth ≤ 8
  l : x.shown.length ≤ sizeLine
theorem shown_strs : ∀ ys : List Str, PyData.shownAll (ys.map PyData.str) = ys.map reprText
  | [] => by simp [PyData.shownAll]
  | y :: r => by
    rw [List.map_cons, List.map_cons, ← shown_strs r]
    simp [PyData.shownAll, PyData.shown]
theorem able_strs : ∀ ys : List Str, PyData.showableAll (ys.map PyData.str) = true ∧ PyData.hasDictAll (ys.map PyData.str) = false ∧ PyData.depthAll (ys.map PyData.str) = 0
  | [] => ⟨by simp [PyData.showableAll], by simp [PyData.hasDictAll], by simp [PyData.depthAll]⟩
  | y :: r => by
    obtain ⟨h1, h2, h3⟩ := able_strs r
    rw [List.map_cons]
    exact ⟨by simp [PyData.showableAll, PyData.showable, h1], by simp [PyData.hasDictAll, PyData.hasDict, h2], by simp [PyData.depthAll, PyData.depth, h3]⟩
theorem repr_len {y : Str} (h : Tq B8 60 y) : (reprText y).length ≤ 602 := by
  have e := StrLaws.reprText_len y (fun c hc => Nat.lt_trans (h.pl c hc) (by decide))
  have := h.le
  omega
theorem shows_strs {ys : List Str} (h : ys.length ≤ 61 ∧ ∀ y ∈ ys, Tq B8 60 y) : Shows (.tuple [.str (Str.ofString "value"), .tuple (ys.map PyData.str)]) := by
  obtain ⟨h1, h2, h3⟩ := able_strs ys
  have hs : ∀ zs : List Str, (∀ y ∈ zs, Tq B8 60 y) → ((zs.map reprText).map (·.length)).sum ≤ zs.length * 602 := by
    intro zs
    induction zs with
    | nil => exact fun _ => Nat.zero_le _
    | cons y r ih =>
      intro hy
      have e1 := ih fun x hx => hy x (List.mem_cons_of_mem _ hx)
      have e2 := repr_len (hy y List.mem_cons_self)
      rw [List.map_cons, List.map_cons, List.sum_cons, List.length_cons]
      omega
  refine ⟨by simp [PyData.showable, PyData.showableAll, h1], by simp [PyData.hasDict, PyData.hasDictAll, h2], by simp [PyData.depth, PyData.depthAll, h3], ?_⟩
  have e1 : PyData.shown (.tuple [.str (Str.ofString "value"), .tuple (ys.map PyData.str)]) = tupleText [reprText (Str.ofString "value"), tupleText (ys.map reprText)] := by
    simp only [PyData.shown, PyData.shownAll, shown_strs]
  rw [e1]
  have l1 := tupleText_len_le [reprText (Str.ofString "value"), tupleText (ys.map reprText)]
  have l2 := tupleText_len_le (ys.map reprText)
  have l3 := hs ys h.2
  have l4 : (reprText (Str.ofString "value")).length ≤ 60 := by decide +kernel
  have l5 : ([reprText (Str.ofString "value"), tupleText (ys.map reprText)].map (·.length)).sum = (reprText (Str.ofString "value")).length + ((tupleText (ys.map reprText)).length + 0) := rfl
  have l6 : [reprText (Str.ofString "value"), tupleText (ys.map reprText)].length = 2 := rfl
  rw [l5, l6] at l1
  rw [List.length_map] at l2
  have : sizeLine = 16777216 := sizeLine_eq
  have := h.1
  omega
theorem shows_of {i : MkI} {z : Str} (tz : Tq B8 60 z) : Shows (datM (gOf i z)) := by
  have none_ok : Shows (datM none) := ⟨by decide +kernel, by decide +kernel, by decide +kernel, by decide +kernel⟩
  cases i with
  | w =>
    show Shows (.tuple [.str (Str.ofString "value"), .str z])
    refine ⟨by simp [PyData.showable, PyData.showableAll], by simp [PyData.hasDict, PyData.hasDictAll], by simp [PyData.depth, PyData.depthAll], ?_⟩
    have e1 : PyData.shown (.tuple [.str (Str.ofString "value"), .str z]) = tupleText [reprText (Str.ofString "value"), reprText z] := by
      simp only [PyData.shown, PyData.shownAll]
    rw [e1]
    have l1 := tupleText_len_le [reprText (Str.ofString "value"), reprText z]
    have l3 := repr_len tz
    have l4 : (reprText (Str.ofString "value")).length ≤ 60 := by decide +kernel
    have l5 : ([reprText (Str.ofString "value"), reprText z].map (·.length)).sum = (reprText (Str.ofString "value")).length + ((reprText z).length + 0) := rfl
    have l6 : [reprText (Str.ofString "value"), reprText z].length = 2 := rfl
    rw [l5, l6] at l1
    have : sizeLine = 16777216 := sizeLine_eq
    omega
  | y =>
    show Shows (datM (if z = Str.ofString "yes" then _ else if z = Str.ofString "no" then _ else none))
    split
    · exact ⟨by decide +kernel, by decide +kernel, by decide +kernel, by decide +kernel⟩
    · split
      · exact ⟨by decide +kernel, by decide +kernel, by decide +kernel, by decide +kernel⟩
      · exact none_ok
  | p =>
    show Shows (datM (if 1 < (Txt.split z cCol).length then _ else none))
    split
    · rename_i hl
      refine shows_strs ⟨by show 2 ≤ 61; decide, fun y hy => ?_⟩
      obtain ⟨ps, b, esp, ej, hf⟩ := cut_facts z 58
      rw [← cCol_is] at esp
      have hps : ps ≠ [] := by
        intro h
        rw [esp, h] at hl
        exact absurd hl (Nat.lt_irrefl 1)
      rw [List.map_append, List.map_cons, List.map_nil, joinL_snoc, if_neg (by simpa using hps)] at ej
      have tc : tl cCol = [58] := by decide +kernel
      have hz : (tl z).length ≤ 60 := by
        rw [← TL.len_tl]
        exact tz.le
      have lz : (TL.joinL [58] (ps.map tl)).length + (1 + (tl b).length) = (tl z).length := by
        rw [← ej, List.length_append, List.length_append]
        rfl
      rw [esp, List.dropLast_concat] at hy
      rcases List.mem_cons.mp hy with e | e
      · rw [e]
        have et : tl (Txt.join cCol ps) = TL.joinL [58] (ps.map tl) := by rw [TL.join_eq, TL.tl_join, tc]
        refine ⟨by rw [TL.len_tl, et]; omega, fun c hc => tz.pl c ?_⟩
        rw [← ej]
        rw [et] at hc
        exact List.mem_append_left _ hc
      · have eb : y = b := by
          rw [List.mem_singleton.mp e]
          simp
        rw [eb]
        refine ⟨by rw [TL.len_tl]; omega, fun c hc => tz.pl c ?_⟩
        rw [← ej]
        exact List.mem_append_right _ (List.mem_append_right _ hc)
    · exact none_ok
  | l =>
    show Shows (.tuple [.str (Str.ofString "value"), .tuple ((if z = Str.ofString "" then [] else Txt.split z cCom).map PyData.str)])
    refine shows_strs ?_
    split
    · exact ⟨Nat.zero_le _, fun y hy => by cases hy⟩
    · rw [cCom_is]
      exact split_ok tz
/-! ### one way to be sorted -/
def leS (a b : Str) : Prop := ¬ b.cps.toList < a.cps.toList
theorem leS_anti {a b : Str} (h : leS a b) (k : leS b a) : a = b := by
  have e : a.cps.toList = b.cps.toList := List.le_antisymm (List.not_lt.mp h) (List.not_lt.mp k)
  cases a; cases b
  exact congrArg Str.mk (Array.toList_inj.mp e)
theorem leS_trans {a b c : Str} (h : leS a b) (k : leS b c) : leS a c := List.not_lt.mpr (List.le_trans (List.not_lt.mp h) (List.not_lt.mp k))
theorem rising_all : ∀ (l : List Str) (p : Str), risingS p l = true → (∀ x ∈ l, leS p x) ∧ l.Pairwise leS
  | [], p, _ => ⟨fun x hx => (by cases hx), .nil⟩
  | y :: r, p, h => by
    have h' : (!ltCps y.cps.toList p.cps.toList && risingS y r) = true := h
    obtain ⟨h1, h2⟩ := Bool.and_eq_true_iff.mp h'
    have py : leS p y := by
      rw [ltCps_eq] at h1
      intro c
      rw [decide_eq_true c] at h1
      cases h1
    obtain ⟨k1, k2⟩ := rising_all r y h2
    refine ⟨fun x hx => ?_, .cons k1 k2⟩
    rcases List.mem_cons.mp hx with e | e
    · rw [e]
      exact py
    · exact leS_trans py (k1 x e)
theorem sorted_pw {l : List Str} (h : sortedS l = true) : l.Pairwise leS := by
  cases l with
  | nil => exact .nil
  | cons x r =>
    obtain ⟨k1, k2⟩ := rising_all r x h
    exact .cons k1 k2
theorem pw_eq : ∀ {l m : List Str}, l.Perm m → l.Pairwise leS → m.Pairwise leS → l = m
  | [], m, h, _, _ => by rw [List.nil_perm.mp h]
  | a :: r, [], h, _, _ => by cases List.perm_nil.mp h
  | a :: r, b :: t, h, k1, k2 => by
    obtain ⟨a1, a2⟩ := List.pairwise_cons.mp k1
    obtain ⟨b1, b2⟩ := List.pairwise_cons.mp k2
    have e : a = b := by
      rcases List.mem_cons.mp (h.mem_iff.mp List.mem_cons_self : a ∈ b :: t) with e | e
      · exact e
      · rcases List.mem_cons.mp (h.mem_iff.mpr List.mem_cons_self : b ∈ a :: r) with e2 | e2
        · exact e2.symm
        · exact leS_anti (a1 b e2) (b1 a e)
    subst e
    rw [pw_eq (List.perm_cons a |>.mp h) a2 b2]
theorem sorted_one {l m : List Str} (h : l.Perm m) (k1 : sortedS l = true) (k2 : sortedS m = true) : l = m := pw_eq h (sorted_pw k1) (sorted_pw k2)
abbrev st_right : Stmt := topS 27
theorem sc_right : FnScope ["_law_name", "_law_word_here", "_law_maker", "_law_sample"] ["_law_name", "_law_word_here"] (defScope st_right) := ⟨rfl, rfl, rfl, by decide +kernel, rfl, by decide +kernel, by decide +kernel⟩
abbrev st_law : Stmt := topS 28
theorem sc_law : FnScope ["_law_script", "_law_words", "_law_word_here", "_law_table", "_law_k", "_law_name"] ["_law_script"] (defScope st_law) := ⟨rfl, rfl, rfl, by decide +kernel, rfl, by decide +kernel, by decide +kernel⟩
def smp : MkI → Str
  | .w => Str.ofString "word"
  | .y => Str.ofString "yes"
  | .p => Str.ofString "key:value"
  | .l => Str.ofString "one,two"
theorem smp_ok (i : MkI) : Tq B8 60 (smp i) ∧ (tl (smp i)).take 1 ≠ [45] ∧ ∃ d, gOf i (smp i) = some d := by
  have h : ∀ j : MkI, (smp j).length ≤ 60 ∧ (∀ c ∈ tl (smp j), c < 256) ∧ (tl (smp j)).take 1 ≠ [45] := fun j => by cases j <;> decide +kernel
  refine ⟨⟨(h i).1, (h i).2.1⟩, (h i).2.2, ?_⟩
  cases i with
  | w => exact ⟨_, rfl⟩
  | y => exact ⟨.bool true, by show (if Str.ofString "yes" = Str.ofString "yes" then some (PyData.bool true) else if Str.ofString "yes" = Str.ofString "no" then some (PyData.bool false) else none) = some (PyData.bool true); rw [if_pos rfl]⟩
  | l => exact ⟨_, rfl⟩
  | p => exact ⟨.tuple ([Txt.join cCol (Txt.split (smp .p) cCol).dropLast, (Txt.split (smp .p) cCol).getLastD (Str.ofString "")].map PyData.str), by show (if 1 < (Txt.split (smp .p) cCol).length then _ else none) = _; exact if_pos (by decide +kernel)⟩
section
variable {P : Program} {w : World} {K : PySem.W.Frag} {mg : Str → Option Value} {base : Heap}
def spRight : Sp := fun vs H Q _ => ∃ (i : MkI) (z : Str), vs = [.str (nmOf i), .str z] ∧ Tq B8 60 z ∧ ∀ H', Same H H' → Q (.bl true) H'
theorem ok_right {f fL fD fO : Addr} {fM T : MkI → Addr} {fd fdL fdD fdO : FuncData} {kvs : List (Key × V)} {k : Nat} (F : Fun K "_law_right" "_law_right" st_right f fd) (D_made : Df K mg "_law_made" st_made ["_law_maker", "_law_word_here"] fL fdL) (G_made : FnOk P w K mg base CX0 k fL fdL ["_law_maker", "_law_word_here"] (spLMade K fM))
    (D_due : Df K mg "_law_due" st_due ["_law_name", "_law_word_here"] fD fdD) (G_due : FnOk P w K mg base CX0 k fD fdD ["_law_name", "_law_word_here"] (spDue K)) (D_own_makers : Df K mg "own_makers" st_own_makers [] fO fdO) (G_own_makers : FnOk P w K mg base CX0 k fO fdO [] (spOwn kvs))
    (hT : ∀ i H, SqT K H (T i) [.ref (fM i), .str (smp i)]) (hkv : ∀ i, valV kvs (Sum.inr (nmOf i)) = some (.ref (T i))) (m_isinstance : mg "isinstance" = none) (m_str : mg "str" = none) (m_repr : mg "repr" = none) :
    GOk P w K mg base CX0 (k + 1) f fd ["_law_name", "_law_word_here"] spRight := by
  refine gfun_ok F sc_right (fun vs H Q E h => ?_) (fun cdv A outer s H vs Q E hgd hr h => ?_)
  · obtain ⟨i, z, rfl, _⟩ := h
    rfl
  · obtain ⟨i, z, rfl, tz, q⟩ := h
    have hun : A.units + 3 + 16 < cLine := by
      have := hr.un
      have z : (A.deeper (envOfC "_law_right" (defScope st_right) s.heap.objs.size f cdv)).units = A.units + 3 := rfl
      omega
    refine ⟨_, PSs.nox (pss_cons (ps_asg (pe_dget (hu_of hr) (pe_call0 G_own_makers hr (by rfl) D_own_makers.g D_own_makers.F.kp D_own_makers.b .nil pass0) (pv 0) (fun _ _ => rfl)) (pg_tup rfl (pgs_cons (pg_name (i := 2) sc_right.nd rfl (Or.inl rfl)) (pgs_cons (pg_name (i := 3) sc_right.nd rfl (Or.inl rfl)) pgs_nil))))
      (pss_cons (ps_if (PW.pt (pw_or (pt_not (pt_val (pe_callB call_isi (by rfl) m_isinstance (by decide +kernel) (pa_cons (pv 3) (pa_cons (pe_bltn (v := .ty "str") (by rfl) m_str (by decide +kernel) rfl) pa_nil))))) (pw_or (PW.pt (pw_and (pt_cmpR op_eq (pe_slice sl_str (pv 3) po_none (po_some pe_int)) pe_str (nomark _)) (pw_and1 (pt_cmpR op_ne (pv 3) pe_str (nomark _))))) (pw_or1 (pt_cmpR op_ne (pe_ix ix_tup (pe_call G_made hr (by rfl) D_made.g D_made.F.kp D_made.b .nil pass0 (pa_cons (pv 2) (pa_cons (pv 3) pa_nil))) pe_int (fun _ _ => rfl)) pe_str (nomark _)))))) (pss_one (ps_ret pe_bl)) pss_nil)
      (pss_one (ps_ret (pe_cmpR op_eq (pe_callB (call_reprD hgd hun) (by rfl) m_repr (by decide +kernel) (pa_cons (pe_call G_made hr (by rfl) D_made.g D_made.F.kp D_made.b .nil pass0 (pa_cons (pv 2) (pa_cons (pv 1) pa_nil))) pa_nil)) (pe_callB (call_reprD hgd hun) (by rfl) m_repr (by decide +kernel) (pa_cons (pe_call G_due hr (by rfl) D_due.g D_due.F.kp D_due.b .nil pass0 (pa_cons (pv 0) (pa_cons (pv 1) pa_nil))) pa_nil)) (nomark _)))))), ?_⟩
    obtain ⟨ts, hs1, d0, hd0⟩ := smp_ok i
    have hsl : (smp i).length ≤ sizeLine := Nat.le_trans ts.le (by decide)
    have tm : tl (Str.ofString "-") = [45] := by decide +kernel
    refine ⟨rfl, fun H1 o s1 no eo => ⟨_, rfl, o, .ref (T i), rfl, by rw [← hkv i]; exact DGet.k (k := Sum.inr (nmOf i)) eo, ?_⟩⟩
    refine ⟨T i, _, rfl, hT i _, rfl, _, _, rfl, _, _, rfl, rfl, ?_⟩
    refine ⟨_, rfl, .str (smp i), _, _, _, true, rfl, ClsV.ty "str", TyX.base (TyOf.str _), kit_ty (by decide +kernel), _, rfl, ?_⟩
    refine ⟨_, rfl, 1, rfl, smp i, rfl, hsl, rfl, _, rfl, ?_⟩
    rw [decide_eq_false (show ¬ V.str (cutS (smp i) none (some 1)) = V.str (Str.ofString "-") from fun e => by
      have e2 := congrArg tl (V.str.inj e)
      rw [show tl (cutS (smp i) none (some 1)) = (tl (smp i)).take 1 from tl_cut_to _ 1, tm] at e2
      exact hs1 e2)]
    refine ⟨_, rfl, _, rfl, i, smp i, rfl, ts, fun H2 p s2 np dt => ?_⟩
    rw [hd0] at dt
    obtain ⟨v0, hp0, _⟩ := dt
    refine ⟨p, _, 0, .str (Str.ofString "value"), rfl, rfl, hp0, atI_nat (j := 0) rfl, rfl, _, rfl, ?_⟩
    rw [show (!decide (V.str (Str.ofString "value") = V.str (Str.ofString "value"))) = false from by simp]
    have sh := shows_of (i := i) tz
    refine ⟨_, rfl, _, rfl, i, z, rfl, tz, fun H3 p3 s3 np3 dt3 => ?_⟩
    refine ⟨p3, _, rfl, dt3.dp, sh.s, sh.n, sh.d, sh.l, ?_⟩
    refine ⟨_, rfl, _, rfl, i, z, rfl, tz, fun H4 p4 s4 dt4 => ?_⟩
    refine ⟨p4, _, rfl, dt4.dp, sh.s, sh.n, sh.d, sh.l, rfl, ?_⟩
    rw [decide_eq_true rfl]
    exact q _ (((s1.trans s2).trans s3).trans s4)
def words14 : List Str := [Str.ofString "", Str.ofString ":", Str.ofString ",", Str.ofString "yes", Str.ofString "no", Str.ofString "Yes", Str.ofString "ye", Str.ofString "yes ", Str.ofString "a:b:c", Str.ofString "a,b,", Str.ofString ",,", Str.ofString "True", Str.ofString "-", Str.ofString "a"]
theorem words14_ok : ∀ y ∈ words14, Tq B8 60 y := by
  have h : ∀ y ∈ words14, y.length ≤ 60 ∧ ∀ c ∈ tl y, c < 256 := by decide +kernel
  exact fun y hy => ⟨(h y hy).1, (h y hy).2⟩
def ownKeys : List Str := [Str.ofString "word", Str.ofString "whole", Str.ofString "based", Str.ofString "yesno", Str.ofString "pair", Str.ofString "list"]
def ownSorted : List Str := [Str.ofString "based", Str.ofString "list", Str.ofString "pair", Str.ofString "whole", Str.ofString "word", Str.ofString "yesno"]
theorem own_one {l : List Str} (h : l.Perm ownKeys) (hs : sortedS l = true) : l = ownSorted := sorted_one (h.trans (by decide +kernel)) hs (by decide +kernel)
def names4 : List Str := [Str.ofString "word", Str.ofString "yesno", Str.ofString "pair", Str.ofString "list"]
theorem names4_is (n : Str) (h : n ∈ names4) : ∃ i : MkI, n = nmOf i := by
  rcases List.mem_cons.mp h with e | e
  · exact ⟨.w, e⟩
  · rcases List.mem_cons.mp e with e | e
    · exact ⟨.y, e⟩
    · rcases List.mem_cons.mp e with e | e
      · exact ⟨.p, e⟩
      · exact ⟨.l, List.mem_singleton.mp e⟩
def spLaw (K : PySem.W.Frag) : Sp := fun vs H Q _ => ∃ (a : Addr) (ns : List Int), vs = [.ref a] ∧ SqL K H a (ns.map V.int) ∧ ns.length ≤ 63 ∧ ∀ H', Q (.bl true) H'
theorem ok_law {f fC fP fD fS fT fW fR fO : Addr} {fd fdC fdP fdD fdS fdT fdW fdR fdO : FuncData} {T1 T2 T3 T4 T5 T6 : Addr} {k : Nat} (F : Fun K "law" "law" st_law f fd)
    (D_cell : Df K mg "_law_cell" sCell ["_law_script", "_law_k"] fC fdC) (D_pot : Df K mg "_law_pot" sPot ["_law_script", "_law_k"] fP fdP) (D_draw : Df K mg "_law_draw" sDraw ["_law_pot_here", "_law_many"] fD fdD)
    (D_signs : Df K mg "_law_signs" sSigns [] fS fdS) (D_text : Df K mg "_law_text" sText ["_law_pot_here", "_law_most", "_law_signs_here"] fT fdT) (D_word : Df K mg "_law_word" st_word ["_law_pot_here"] fW fdW)
    (D_right : Df K mg "_law_right" st_right ["_law_name", "_law_word_here"] fR fdR) (G_right : GOk P w K mg base CX0 (k + 3) fR fdR ["_law_name", "_law_word_here"] spRight)
    (D_own_makers : Df K mg "own_makers" st_own_makers [] fO fdO) (G_own_makers : FnOk P w K mg base CX0 (k + 3) fO fdO [] (spOwn (ownKvs T1 T2 T3 T4 T5 T6)))
    (m_len : mg "len" = none) (m_max : mg "max" = none) (m_min : mg "min" = none) (m_divmod : mg "divmod" = none) (m_range : mg "range" = none) (m_all : mg "all" = none) (m_sorted : mg "sorted" = none) :
    GOk P w K mg base CX0 (k + 4) f fd ["_law_script"] (spLaw K) := by
  have G_pot : FnOk P w K mg base CX0 (k + 3) fP fdP ["_law_script", "_law_k"] (spPot K) := ok_pot D_pot.F D_cell m_len m_max
  have G_word : FnOk P w K mg base CX0 (k + 3) fW fdW ["_law_pot_here"] spWord := ok_word D_word.F D_draw D_signs D_text m_divmod m_len m_range
  refine gfun_ok F sc_law (fun vs H Q E h => ?_) (fun cdv A outer s H vs Q E hgd hr h => ?_)
  · obtain ⟨a, ns, rfl, _⟩ := h
    rfl
  · obtain ⟨a, ns, rfl, hS, hlen, q⟩ := h
    refine ⟨_, PSs.nox (pss_cons (ps_set (i := 1) sc_law.nd rfl (.inl rfl) (pe_lst (pa_cons pe_str (pa_cons pe_str (pa_cons pe_str (pa_cons pe_str (pa_cons pe_str (pa_cons pe_str (pa_cons pe_str (pa_cons pe_str (pa_cons pe_str (pa_cons pe_str (pa_cons pe_str (pa_cons pe_str (pa_cons pe_str (pa_cons pe_str pa_nil))))))))))))))))
      (pss_cons (ps_for PassesOwn.never rfl (pi_list (pe_op op_cat (pv 1) (pe_lc (own := [("_law_k", 4)]) (g := gName 4) (tt := tYes) rfl sc_law.nd (pi_range1 rfl m_range (pa_cons (pe_callB (call_min2 rfl) (by rfl) m_min (by decide +kernel) (pa_cons (pe_callB call_len_seq (by rfl) m_len PySem.boot_len (pa_cons (pv 0) pa_nil)) (pa_cons pe_int pa_nil))) pa_nil)) (blkOk_by (N := ["_law_script", "_law_words", "_law_word_here", "_law_table", "_law_k", "_law_name"]) (sc := defScope st_law) (by decide +kernel)) (fun _ _ _ _ _ => (pg_name (i := 4) sc_law.nd rfl (Or.inl rfl))) (fun _ _ _ _ _ => pts_nil) (fun _ _ _ _ _ => (pe_call G_word hr (by rfl) D_word.g D_word.F.kp D_word.b .nil pass0 (pa_cons (pe_call G_pot hr (by rfl) D_pot.g D_pot.F.kp D_pot.b .nil pass0 (pa_cons (pv 0) (pa_cons (pv 4) pa_nil))) pa_nil)))))) (pg_name (i := 2) sc_law.nd rfl (Or.inr rfl)) (pss_one (ps_if (pt_not (pt_val (pe_callB (cr_all rfl) (by rfl) m_all (by decide +kernel) (pa_cons (pe_lc (own := [("_law_name", 5)]) (g := gName 5) (tt := tYes) rfl sc_law.nd (pi_list (pe_lst (pa_cons pe_str (pa_cons pe_str (pa_cons pe_str (pa_cons pe_str pa_nil)))))) (blkOk_by (N := ["_law_script", "_law_words", "_law_word_here", "_law_table", "_law_k", "_law_name"]) (sc := defScope st_law) (by decide +kernel)) (fun _ _ _ _ _ => (pg_name (i := 5) sc_law.nd rfl (Or.inl rfl))) (fun _ _ _ _ _ => pts_nil) (fun _ _ _ _ _ => (pe_callG G_right hgd hr (by rfl) D_right.g D_right.F.kp D_right.b pass0 (pa_cons (pv 5) (pa_cons (pv 2) pa_nil))))) pa_nil)))) (pss_one (ps_ret pe_bl)) pss_nil)))
      (pss_cons (ps_set (i := 3) sc_law.nd rfl (.inl rfl) (pe_call0 G_own_makers hr (by rfl) D_own_makers.g D_own_makers.F.kp D_own_makers.b .nil pass0))
      (pss_cons (ps_expr (pe_dclear (pv 3)))
      (pss_one (ps_ret (pe_cmpR (op_eqD hr.units) (pe_callB (call_sortedD rfl) (by rfl) m_sorted (by decide +kernel) (pa_cons (pe_call0 G_own_makers hr (by rfl) D_own_makers.g D_own_makers.F.kp D_own_makers.b .nil pass0) pa_nil)) (pe_lst (pa_cons pe_str (pa_cons pe_str (pa_cons pe_str (pa_cons pe_str (pa_cons pe_str (pa_cons pe_str pa_nil))))))) (nomark _)))))))), ?_⟩
    refine ⟨by show 14 ≤ sizeLine; decide, fun l1 n1 => ?_⟩
    have s1' : Same H (upd H l1 (.lst (words14.map V.str))) := same_upd n1
    have e1' : (upd H l1 (.lst (words14.map V.str))) l1 = some (.lst (words14.map V.str)) := upd_same
    refine ⟨.ref l1, rfl, .ref a, rfl, a, _, rfl, .inl (s1'.seq hS), _, 30, rfl, _, rfl, ?_, ?_, fun D nD => ?_⟩
    · split <;> omega
    · split <;> omega
    refine lc_range (lo := 0) (n := _) (fun i Hc => Same (upd H l1 (.lst (words14.map V.str))) Hc ∧ i ≤ 30 ∧ ∃ ys : List Str, Hc D = some (.lst (ys.map V.str)) ∧ ys.length = i ∧ ∀ y ∈ ys, Tq B8 60 y)
      ⟨same_upd nD, by decide, [], upd_same, rfl, fun y hy => by cases hy⟩ (fun i Hc hi ⟨sc, h30, ys, eD, el, e1⟩ => ?_) (fun Hc ⟨sc, h30, ys, eD, el, e1⟩ => ?_)
    · have hi30 : i < 30 := by
        revert hi
        split <;> omega
      refine ⟨rfl, .ref a, rfl, .int (0 + (i : Int)), rfl, a, ns, _, rfl, sc.seq (s1'.seq hS), by omega, fun H4 p s4 np p4 => ?_⟩
      refine ⟨p, rfl, p4, fun H5 y b5 p5 ty => ?_⟩
      have npD : D ≠ p := ne_of_none eD np
      have e5 : H5 D = some (.lst (ys.map V.str)) := b5 _ _ npD (s4 _ _ eD)
      refine ⟨_, e5, ?_, ?_, by omega, ys ++ [y], ?_, ?_, ?_⟩
      · rw [List.length_map, el]
        exact small1000 (by omega)
      · intro b o e
        rw [upd_ne (ne_of_none e nD)]
        exact b5 b o (ne_of_none (sc b o e) np) (s4 b o (sc b o e))
      · rw [upd_same, List.map_append]
        rfl
      · rw [List.length_append, el]
        rfl
      · intro z hz
        rcases List.mem_append.mp hz with hz | hz
        · exact e1 z hz
        · rw [List.mem_singleton.mp hz]
          exact ty
    · refine ⟨l1, D, words14.map V.str, ys.map V.str, rfl, rfl, sc _ _ e1', eD, ?_, fun l3 n3 => ?_⟩
      · rw [List.length_map, List.length_map, el]
        exact Nat.le_of_lt (small1000 (by show 14 + _ ≤ 1000; omega))
      have e3 : ∀ y ∈ words14 ++ ys, Tq B8 60 y := fun y hy => by
        rcases List.mem_append.mp hy with hy | hy
        · exact words14_ok y hy
        · exact e1 y hy
      rw [← List.map_append]
      generalize words14 ++ ys = zs at e3
      have S3 : Same H (upd Hc l3 (.lst (zs.map V.str))) := (s1'.trans sc).trans (same_upd n3)
      have el3 : (upd Hc l3 (.lst (zs.map V.str))) l3 = some (.lst (zs.map V.str)) := upd_same
      refine ⟨l3, rfl, ⟨_, SqL.of el3⟩, ?_⟩
      revert S3 el3
      generalize upd Hc l3 (.lst (zs.map V.str)) = H3
      intro S3 el3
      refine for_list (K := K) (a := l3) (xs := zs.map V.str) (fun i σ H' => Same H3 H' ∧ ∃ x2 x4 x5, σ = [some (.ref a), some (.ref l1), x2, none, x4, x5]) ⟨Same.refl _, none, none, none, rfl⟩ (fun i σ H' _ ⟨sm, _⟩ => SqL.of (sm _ _ el3)) ?_ ?_
      · rintro i x σ H5 hx ⟨sm, x2, x4, x5, rfl⟩
        rw [List.getElem?_map] at hx
        obtain ⟨z, ez, rfl⟩ := Option.map_eq_some_iff.mp hx
        have tz := e3 z (List.mem_of_getElem? ez)
        refine ⟨by show 4 ≤ sizeLine; decide, fun l4 n4 => ?_⟩
        have s6' : Same H5 (upd H5 l4 (.lst (names4.map V.str))) := same_upd n4
        have e6' : (upd H5 l4 (.lst (names4.map V.str))) l4 = some (.lst (names4.map V.str)) := upd_same
        refine ⟨l4, rfl, ⟨_, SqL.of e6'⟩, fun D2 nD2 => ?_⟩
        refine lc_list (K := K) (a := l4) (xs := names4.map V.str) (fun j Hc => Same (upd H5 l4 (.lst (names4.map V.str))) Hc ∧ j ≤ 4 ∧ Hc D2 = some (.lst ((List.replicate j true).map V.bl))) ⟨same_upd nD2, by decide, upd_same⟩ (fun j Hc _ ⟨sc, _⟩ => SqL.of (sc _ _ e6')) (fun j x Hc hx ⟨sc, j4, eD2⟩ => ?_) (fun Hc ⟨sc, j4, eD2⟩ => ?_)
        · have hj : j < 4 := by
            rcases List.getElem?_eq_some_iff.mp hx with ⟨h, _⟩
            exact h
          rw [List.getElem?_map] at hx
          obtain ⟨n, en, rfl⟩ := Option.map_eq_some_iff.mp hx
          obtain ⟨i', rfl⟩ := names4_is n (List.mem_of_getElem? en)
          refine ⟨rfl, _, rfl, _, rfl, i', z, rfl, tz, fun H9 s9 => ?_⟩
          refine ⟨_, s9 _ _ eD2, ?_, ?_, by omega, ?_⟩
          · rw [List.length_map, List.length_replicate]
            exact small1000 (by omega)
          · intro b o' e
            rw [upd_ne (ne_of_none e nD2)]
            exact s9 _ _ (sc b o' e)
          · rw [upd_same, List.replicate_succ', List.map_append]
            rfl
        · refine ⟨D2, _, rfl, SqL.of eD2, _, rfl, ?_⟩
          rw [show (List.replicate (names4.map V.str).length true).all id = true from rfl]
          exact ⟨sm.trans (s6'.trans sc), _, _, _, rfl⟩
      · rintro σ H5 ⟨sm, x2, x4, x5, rfl⟩
        refine ⟨rfl, fun H6 o s6 no eo => ?_⟩
        refine ⟨.ref o, rfl, .inr (.inr (.inl ⟨rfl, .inl ⟨_, eo⟩⟩)), o, _, rfl, rfl, eo, ?_⟩
        refine ⟨rfl, fun H7 o2 s7 no2 eo2 => ?_⟩
        refine ⟨o2, _, ownKeys, rfl, .inl eo2, rfl, by decide, fun out p hp hs np => ?_⟩
        have eout := own_one hp hs
        subst eout
        refine ⟨by show 6 ≤ sizeLine; decide, fun p2 np2 => ?_⟩
        have ep : (upd (upd H7 p (.lst (ownSorted.map V.str))) p2 (.lst (ownSorted.map V.str))) p = some (.lst (ownSorted.map V.str)) := by
          rw [upd_ne (ne_of_none upd_same np2), upd_same]
        refine ⟨_, _, .lst (SqL.of ep) (dp_strs _), .lst (SqL.of upd_same) (dp_strs ownSorted), by decide +kernel, by decide +kernel, ?_⟩
        rw [eqv_strs, decide_eq_true rfl]
        exact q _
end
end WB

set_option Elab.async false
set_option linter.all false
set_option maxRecDepth 100000
set_option maxHeartbeats 4000000
namespace WB
open PySem PySem.Spec PyProof.Rows L2 WG
open TL (tl)
theorem df_mk {K : PySem.W.Frag} {h : Heap} {mg : Str → Option Value} {x : Str} {st : Stmt} {ps : List Str} {f : Addr} {oc : Value} {od an : Option Addr} {osl : Array (Option Value)} {kV doc pm cdv ct : Value} (X : K.In h) (G : h.Ns mainGlobals mg)
    (a : PySem.W.nsIn K mainGlobals x = some (some (.ref f))) (l : K.lookup f = some ⟨oc, od, .func (PySem.W.fnOf x x (defArgs st) (defBody st) (defScope st) .none kV doc pm an cdv ct), osl⟩)
    (c : PySem.W.codeIn K cdv x = true) (k : PySem.W.keepIn K (.ref f) = true)
    (b : ∀ (kV doc pm : Value) (an : Option Addr) (cdv ct : Value) (us : List Value), us.length = ps.length → bindArgs (PySem.W.fnOf x x (defArgs st) (defBody st) (defScope st) .none kV doc pm an cdv ct) ⟨us, []⟩ = pure (ps.zip us)) :
    Df K mg x st ps f (PySem.W.fnOf x x (defArgs st) (defBody st) (defScope st) .none kV doc pm an cdv ct) := by
  have F := fun_mk (st := st) l c k
  exact ⟨F, F.binds b, PySem.W.mg_of X G a⟩
def pick4 {α : Type} (a b c d : α) : MkI → α
  | .w => a
  | .y => b
  | .p => c
  | .l => d
theorem all_mk {l : PySem.W.OpenLaw} {w : World} {K : PySem.W.Frag} {h : Heap} {mg : Str → Option Value} {fa : Addr} (X : K.In h) (G : h.Ns mainGlobals mg) (hfa : mg "law" = some (.ref fa))
    {fCell : Addr} {odCell anCell : Option Addr} {slCell : Array (Option Value)} {ocCell kVCell dcCell pmCell cdCell ctCell : Value} {fPot : Addr} {odPot anPot : Option Addr} {slPot : Array (Option Value)} {ocPot kVPot dcPot pmPot cdPot ctPot : Value} {fDraw : Addr} {odDraw anDraw : Option Addr} {slDraw : Array (Option Value)} {ocDraw kVDraw dcDraw pmDraw cdDraw ctDraw : Value} {fSigns : Addr} {odSigns anSigns : Option Addr} {slSigns : Array (Option Value)} {ocSigns kVSigns dcSigns pmSigns cdSigns ctSigns : Value} {fText : Addr} {odText anText : Option Addr} {slText : Array (Option Value)} {ocText kVText dcText pmText cdText ctText : Value} {fWord : Addr} {odWord anWord : Option Addr} {slWord : Array (Option Value)} {ocWord kVWord dcWord pmWord cdWord ctWord : Value} {fCut : Addr} {odCut anCut : Option Addr} {slCut : Array (Option Value)} {ocCut kVCut dcCut pmCut cdCut ctCut : Value} {fDue : Addr} {odDue anDue : Option Addr} {slDue : Array (Option Value)} {ocDue kVDue dcDue pmDue cdDue ctDue : Value} {fLMade : Addr} {odLMade anLMade : Option Addr} {slLMade : Array (Option Value)} {ocLMade kVLMade dcLMade pmLMade cdLMade ctLMade : Value} {fRight : Addr} {odRight anRight : Option Addr} {slRight : Array (Option Value)} {ocRight kVRight dcRight pmRight cdRight ctRight : Value} {fOwn : Addr} {odOwn anOwn : Option Addr} {slOwn : Array (Option Value)} {ocOwn kVOwn dcOwn pmOwn cdOwn ctOwn : Value} {fMW : Addr} {odMW anMW : Option Addr} {slMW : Array (Option Value)} {ocMW kVMW dcMW pmMW cdMW ctMW : Value} {fMY : Addr} {odMY anMY : Option Addr} {slMY : Array (Option Value)} {ocMY kVMY dcMY pmMY cdMY ctMY : Value} {fMP : Addr} {odMP anMP : Option Addr} {slMP : Array (Option Value)} {ocMP kVMP dcMP pmMP cdMP ctMP : Value} {fML : Addr} {odML anML : Option Addr} {slML : Array (Option Value)} {ocML kVML dcML pmML cdML ctML : Value} {CU BE : Addr} {nmU qU : Str} {NU : Addr} {bsU : List Value} {snU : List Str} {subU : List Value} {abU : Bool} {colU : Option Bool} {ddU : Option Addr} {m0 m1 m2 m3 m5 : Option Value} {TD : Addr} {odTD : Option Addr} {ocTD : Value} {tTD : Tok} {nTD : Nat} {slTD : Array (Option Value)} {fE : Addr} {odE anE : Option Addr} {slE : Array (Option Value)} {ocE kVE dcE pmE cdE ctE : Value} {aO : Addr} {nO : Nat} {h1 h2 h3 h4 h5 h6 : Int} {t1 t2 t3 t4 t5 t6 : Tok} {T1 T2 T3 T4 T5 T6 : Addr} {odT1 : Option Addr} {sT1 : Tok} {nT1 : Nat} {slT1 : Array (Option Value)} {odT4 : Option Addr} {sT4 : Tok} {nT4 : Nat} {slT4 : Array (Option Value)} {odT5 : Option Addr} {sT5 : Tok} {nT5 : Nat} {slT5 : Array (Option Value)} {odT6 : Option Addr} {sT6 : Tok} {nT6 : Nat} {slT6 : Array (Option Value)} {fLaw : Addr} {odLaw anLaw : Option Addr} {slLaw : Array (Option Value)} {ocLaw kVLaw dcLaw pmLaw cdLaw ctLaw : Value}
    (aCell : PySem.W.nsIn K mainGlobals "_law_cell" = some (some (.ref fCell)))
    (lCell : K.lookup fCell = some ⟨ocCell, odCell, .func (PySem.W.fnOf "_law_cell" "_law_cell" (defArgs sCell) (defBody sCell) (defScope sCell) .none kVCell dcCell pmCell anCell cdCell ctCell), slCell⟩)
    (cCell : PySem.W.codeIn K cdCell "_law_cell" = true)
    (kCell : PySem.W.keepIn K (.ref fCell) = true)
    (aPot : PySem.W.nsIn K mainGlobals "_law_pot" = some (some (.ref fPot)))
    (lPot : K.lookup fPot = some ⟨ocPot, odPot, .func (PySem.W.fnOf "_law_pot" "_law_pot" (defArgs sPot) (defBody sPot) (defScope sPot) .none kVPot dcPot pmPot anPot cdPot ctPot), slPot⟩)
    (cPot : PySem.W.codeIn K cdPot "_law_pot" = true)
    (kPot : PySem.W.keepIn K (.ref fPot) = true)
    (aDraw : PySem.W.nsIn K mainGlobals "_law_draw" = some (some (.ref fDraw)))
    (lDraw : K.lookup fDraw = some ⟨ocDraw, odDraw, .func (PySem.W.fnOf "_law_draw" "_law_draw" (defArgs sDraw) (defBody sDraw) (defScope sDraw) .none kVDraw dcDraw pmDraw anDraw cdDraw ctDraw), slDraw⟩)
    (cDraw : PySem.W.codeIn K cdDraw "_law_draw" = true)
    (kDraw : PySem.W.keepIn K (.ref fDraw) = true)
    (aSigns : PySem.W.nsIn K mainGlobals "_law_signs" = some (some (.ref fSigns)))
    (lSigns : K.lookup fSigns = some ⟨ocSigns, odSigns, .func (PySem.W.fnOf "_law_signs" "_law_signs" (defArgs sSigns) (defBody sSigns) (defScope sSigns) .none kVSigns dcSigns pmSigns anSigns cdSigns ctSigns), slSigns⟩)
    (cSigns : PySem.W.codeIn K cdSigns "_law_signs" = true)
    (kSigns : PySem.W.keepIn K (.ref fSigns) = true)
    (aText : PySem.W.nsIn K mainGlobals "_law_text" = some (some (.ref fText)))
    (lText : K.lookup fText = some ⟨ocText, odText, .func (PySem.W.fnOf "_law_text" "_law_text" (defArgs sText) (defBody sText) (defScope sText) .none kVText dcText pmText anText cdText ctText), slText⟩)
    (cText : PySem.W.codeIn K cdText "_law_text" = true)
    (kText : PySem.W.keepIn K (.ref fText) = true)
    (aWord : PySem.W.nsIn K mainGlobals "_law_word" = some (some (.ref fWord)))
    (lWord : K.lookup fWord = some ⟨ocWord, odWord, .func (PySem.W.fnOf "_law_word" "_law_word" (defArgs st_word) (defBody st_word) (defScope st_word) .none kVWord dcWord pmWord anWord cdWord ctWord), slWord⟩)
    (cWord : PySem.W.codeIn K cdWord "_law_word" = true)
    (kWord : PySem.W.keepIn K (.ref fWord) = true)
    (aCut : PySem.W.nsIn K mainGlobals "_law_cut" = some (some (.ref fCut)))
    (lCut : K.lookup fCut = some ⟨ocCut, odCut, .func (PySem.W.fnOf "_law_cut" "_law_cut" (defArgs st_cut) (defBody st_cut) (defScope st_cut) .none kVCut dcCut pmCut anCut cdCut ctCut), slCut⟩)
    (cCut : PySem.W.codeIn K cdCut "_law_cut" = true)
    (kCut : PySem.W.keepIn K (.ref fCut) = true)
    (aDue : PySem.W.nsIn K mainGlobals "_law_due" = some (some (.ref fDue)))
    (lDue : K.lookup fDue = some ⟨ocDue, odDue, .func (PySem.W.fnOf "_law_due" "_law_due" (defArgs st_due) (defBody st_due) (defScope st_due) .none kVDue dcDue pmDue anDue cdDue ctDue), slDue⟩)
    (cDue : PySem.W.codeIn K cdDue "_law_due" = true)
    (kDue : PySem.W.keepIn K (.ref fDue) = true)
    (aLMade : PySem.W.nsIn K mainGlobals "_law_made" = some (some (.ref fLMade)))
    (lLMade : K.lookup fLMade = some ⟨ocLMade, odLMade, .func (PySem.W.fnOf "_law_made" "_law_made" (defArgs st_made) (defBody st_made) (defScope st_made) .none kVLMade dcLMade pmLMade anLMade cdLMade ctLMade), slLMade⟩)
    (cLMade : PySem.W.codeIn K cdLMade "_law_made" = true)
    (kLMade : PySem.W.keepIn K (.ref fLMade) = true)
    (aRight : PySem.W.nsIn K mainGlobals "_law_right" = some (some (.ref fRight)))
    (lRight : K.lookup fRight = some ⟨ocRight, odRight, .func (PySem.W.fnOf "_law_right" "_law_right" (defArgs st_right) (defBody st_right) (defScope st_right) .none kVRight dcRight pmRight anRight cdRight ctRight), slRight⟩)
    (cRight : PySem.W.codeIn K cdRight "_law_right" = true)
    (kRight : PySem.W.keepIn K (.ref fRight) = true)
    (aOwn : PySem.W.nsIn K mainGlobals "own_makers" = some (some (.ref fOwn)))
    (lOwn : K.lookup fOwn = some ⟨ocOwn, odOwn, .func (PySem.W.fnOf "own_makers" "own_makers" (defArgs st_own_makers) (defBody st_own_makers) (defScope st_own_makers) .none kVOwn dcOwn pmOwn anOwn cdOwn ctOwn), slOwn⟩)
    (cOwn : PySem.W.codeIn K cdOwn "own_makers" = true)
    (kOwn : PySem.W.keepIn K (.ref fOwn) = true)
    (aMW : PySem.W.nsIn K mainGlobals "as_word" = some (some (.ref fMW)))
    (lMW : K.lookup fMW = some ⟨ocMW, odMW, .func (PySem.W.fnOf "as_word" "as_word" (defArgs st_as_word) (defBody st_as_word) (defScope st_as_word) .none kVMW dcMW pmMW anMW cdMW ctMW), slMW⟩)
    (cMW : PySem.W.codeIn K cdMW "as_word" = true)
    (kMW : PySem.W.keepIn K (.ref fMW) = true)
    (aMY : PySem.W.nsIn K mainGlobals "as_yesno" = some (some (.ref fMY)))
    (lMY : K.lookup fMY = some ⟨ocMY, odMY, .func (PySem.W.fnOf "as_yesno" "as_yesno" (defArgs st_as_yesno) (defBody st_as_yesno) (defScope st_as_yesno) .none kVMY dcMY pmMY anMY cdMY ctMY), slMY⟩)
    (cMY : PySem.W.codeIn K cdMY "as_yesno" = true)
    (kMY : PySem.W.keepIn K (.ref fMY) = true)
    (aMP : PySem.W.nsIn K mainGlobals "as_pair" = some (some (.ref fMP)))
    (lMP : K.lookup fMP = some ⟨ocMP, odMP, .func (PySem.W.fnOf "as_pair" "as_pair" (defArgs st_as_pair) (defBody st_as_pair) (defScope st_as_pair) .none kVMP dcMP pmMP anMP cdMP ctMP), slMP⟩)
    (cMP : PySem.W.codeIn K cdMP "as_pair" = true)
    (kMP : PySem.W.keepIn K (.ref fMP) = true)
    (aML : PySem.W.nsIn K mainGlobals "as_list" = some (some (.ref fML)))
    (lML : K.lookup fML = some ⟨ocML, odML, .func (PySem.W.fnOf "as_list" "as_list" (defArgs st_as_list) (defBody st_as_list) (defScope st_as_list) .none kVML dcML pmML anML cdML ctML), slML⟩)
    (cML : PySem.W.codeIn K cdML "as_list" = true)
    (kML : PySem.W.keepIn K (.ref fML) = true)
    (aB : PySem.W.nsIn K mainGlobals "BenchError" = some (some (.ref BE)))
    (aN : PySem.W.nsIn K mainGlobals "Unmade" = some (some (.ref CU)))
    (xN : K.lookup CU = some (excClassObj nmU qU CU NU bsU [.type "ValueError", .type "Exception", .type "BaseException", .type "object"] true snU subU abU colU ddU m0 m1 m2 m3 m5 "ValueError.__new__"))
    (aE : PySem.W.findIn K (.ref CU) "__init__" = some (some (.ref fE)))
    (lE : K.lookup fE = some ⟨ocE, odE, .func (PySem.W.fnOf "__init__" "Unmade.__init__" (defArgs st_err) (defBody st_err) (defScope st_err) (.ref TD) kVE dcE pmE anE cdE ctE), slE⟩)
    (cE : PySem.W.codeIn K cdE "Unmade.__init__" = true)
    (kE : PySem.W.keepIn K (.ref fE) = true)
    (lTD : K.lookup TD = some ⟨ocTD, odTD, .seq [.str (Str.ofString "") tTD].toArray nTD, slTD⟩)
    (tE : PySem.W.typeIn K (.ref fE) = some (.type "function"))
    (saN : PySem.W.findIn K (.ref CU) "__setattr__" = some (some (.builtin "object.__setattr__")))
    (gaN : PySem.W.findIn K (.ref CU) "__getattribute__" = some (some (.builtin "BaseException.__getattribute__")))
    (ggN : PySem.W.findIn K (.ref CU) "__getattr__" = some none)
    (nfN : PySem.W.findIn K (.ref CU) "why" = some none)
    (hcN : PySem.W.findIn K (.ref CU) "__class__" = some (some (.builtin "object.__class__")))
    (kN : PySem.W.keepIn K (.ref CU) = true)
    (eN : PySem.W.subIn K (.ref CU) (.type "BaseException") = some true)
    (tN : PySem.W.typeIn K (.ref CU) = some (.type "type"))
    (hdN : PySem.W.hasDictIn K CU = true)
    (sN : PySem.W.subIn K (.ref CU) (.ref CU) = some true)
    (spN : PySem.W.specialIn K (.builtin "object.__class__") "__get__" = some (some (.builtin "getset_descriptor.__get__")))
    (tkN : PySem.W.takesIn K (.builtin "object.__class__") = some true)
    (moN : PySem.W.mroIn K CU (.type "object") = some true)
    (tB : PySem.W.typeIn K (.ref BE) = some (.type "type"))
    (hdB : PySem.W.hasDictIn K BE = true)
    (sB : PySem.W.subIn K (.ref CU) (.ref BE) = some false)
    (sV : PySem.W.subIn K (.ref CU) (.type "ValueError") = some true)
    (aO_ : PySem.W.nsIn K mainGlobals "OWN_MAKERS" = some (some (.ref aO)))
    (lO : K.lookup aO = some ⟨.type "dict", none, .dict (⟨[⟨h1, .str (Str.ofString "word") t1, .ref T1⟩, ⟨h2, .str (Str.ofString "whole") t2, .ref T2⟩, ⟨h3, .str (Str.ofString "based") t3, .ref T3⟩, ⟨h4, .str (Str.ofString "yesno") t4, .ref T4⟩, ⟨h5, .str (Str.ofString "pair") t5, .ref T5⟩, ⟨h6, .str (Str.ofString "list") t6, .ref T6⟩]⟩ : Array DictEntry) nO, #[]⟩)
    (hh1 : h1 = PyData.keyHash w.params (Str.ofString "word"))
    (hh2 : h2 = PyData.keyHash w.params (Str.ofString "whole"))
    (hh3 : h3 = PyData.keyHash w.params (Str.ofString "based"))
    (hh4 : h4 = PyData.keyHash w.params (Str.ofString "yesno"))
    (hh5 : h5 = PyData.keyHash w.params (Str.ofString "pair"))
    (hh6 : h6 = PyData.keyHash w.params (Str.ofString "list"))
    (lowO : (aO == sysModules) = false)
    (lT1 : K.lookup T1 = some ⟨.type "tuple", odT1, .seq [.ref fMW, .str (Str.ofString "word") sT1].toArray nT1, slT1⟩)
    (lT4 : K.lookup T4 = some ⟨.type "tuple", odT4, .seq [.ref fMY, .str (Str.ofString "yes") sT4].toArray nT4, slT4⟩)
    (lT5 : K.lookup T5 = some ⟨.type "tuple", odT5, .seq [.ref fMP, .str (Str.ofString "key:value") sT5].toArray nT5, slT5⟩)
    (lT6 : K.lookup T6 = some ⟨.type "tuple", odT6, .seq [.ref fML, .str (Str.ofString "one,two") sT6].toArray nT6, slT6⟩)
    (z_len : PySem.W.nsIn K mainGlobals "len" = some none)
    (z_max : PySem.W.nsIn K mainGlobals "max" = some none)
    (z_min : PySem.W.nsIn K mainGlobals "min" = some none)
    (z_divmod : PySem.W.nsIn K mainGlobals "divmod" = some none)
    (z_range : PySem.W.nsIn K mainGlobals "range" = some none)
    (z_str : PySem.W.nsIn K mainGlobals "str" = some none)
    (z_isinstance : PySem.W.nsIn K mainGlobals "isinstance" = some none)
    (z_all : PySem.W.nsIn K mainGlobals "all" = some none)
    (z_dict : PySem.W.nsIn K mainGlobals "dict" = some none)
    (z_ValueError : PySem.W.nsIn K mainGlobals "ValueError" = some none)
    (z_tuple : PySem.W.nsIn K mainGlobals "tuple" = some none)
    (z_repr : PySem.W.nsIn K mainGlobals "repr" = some none)
    (z_sorted : PySem.W.nsIn K mainGlobals "sorted" = some none)
    (aLaw : PySem.W.nsIn K mainGlobals "law" = some (some (.ref fLaw)))
    (lLaw : K.lookup fLaw = some ⟨ocLaw, odLaw, .func (PySem.W.fnOf "law" "law" (defArgs st_law) (defBody st_law) (defScope st_law) .none kVLaw dcLaw pmLaw anLaw cdLaw ctLaw), slLaw⟩)
    (cLaw : PySem.W.codeIn K cdLaw "law" = true)
    (kLaw : PySem.W.keepIn K (.ref fLaw) = true) :
    ∃ fd : FuncData, (∀ (s : Shared) (v : Value), BindsTo s fd ⟨[v], []⟩ [("_law_script", v)]) ∧ ∀ base : Heap, K.In base → base.Ns mainGlobals mg → GOk l.prog w K mg base CX0 6 fa fd ["_law_script"] (spLaw K) := by
  have e := hfa.symm.trans (PySem.W.mg_of X G aLaw)
  cases e
  have g0 : ∀ {x : Str}, PySem.W.nsIn K mainGlobals x = some none → mg x = none := fun {x} z => PySem.W.mg_none_of X G z
  have DCell := df_mk (st := sCell) (ps := ["_law_script", "_law_k"]) X G aCell lCell cCell kCell fun _ _ _ _ _ _ us hl => match us, hl with | [_, _], _ => rfl
  have DPot := df_mk (st := sPot) (ps := ["_law_script", "_law_k"]) X G aPot lPot cPot kPot fun _ _ _ _ _ _ us hl => match us, hl with | [_, _], _ => rfl
  have DDraw := df_mk (st := sDraw) (ps := ["_law_pot_here", "_law_many"]) X G aDraw lDraw cDraw kDraw fun _ _ _ _ _ _ us hl => match us, hl with | [_, _], _ => rfl
  have DSigns := df_mk (st := sSigns) (ps := []) X G aSigns lSigns cSigns kSigns fun _ _ _ _ _ _ us hl => match us, hl with | [], _ => rfl
  have DText := df_mk (st := sText) (ps := ["_law_pot_here", "_law_most", "_law_signs_here"]) X G aText lText cText kText fun _ _ _ _ _ _ us hl => match us, hl with | [_, _, _], _ => rfl
  have DWord := df_mk (st := st_word) (ps := ["_law_pot_here"]) X G aWord lWord cWord kWord fun _ _ _ _ _ _ us hl => match us, hl with | [_], _ => rfl
  have DCut := df_mk (st := st_cut) (ps := ["_law_word_here", "_law_sign"]) X G aCut lCut cCut kCut fun _ _ _ _ _ _ us hl => match us, hl with | [_, _], _ => rfl
  have DDue := df_mk (st := st_due) (ps := ["_law_name", "_law_word_here"]) X G aDue lDue cDue kDue fun _ _ _ _ _ _ us hl => match us, hl with | [_, _], _ => rfl
  have DLMade := df_mk (st := st_made) (ps := ["_law_maker", "_law_word_here"]) X G aLMade lLMade cLMade kLMade fun _ _ _ _ _ _ us hl => match us, hl with | [_, _], _ => rfl
  have DRight := df_mk (st := st_right) (ps := ["_law_name", "_law_word_here"]) X G aRight lRight cRight kRight fun _ _ _ _ _ _ us hl => match us, hl with | [_, _], _ => rfl
  have DOwn := df_mk (st := st_own_makers) (ps := []) X G aOwn lOwn cOwn kOwn fun _ _ _ _ _ _ us hl => match us, hl with | [], _ => rfl
  have DMW := df_mk (st := st_as_word) (ps := ["word"]) X G aMW lMW cMW kMW fun _ _ _ _ _ _ us hl => match us, hl with | [_], _ => rfl
  have DMY := df_mk (st := st_as_yesno) (ps := ["word"]) X G aMY lMY cMY kMY fun _ _ _ _ _ _ us hl => match us, hl with | [_], _ => rfl
  have DMP := df_mk (st := st_as_pair) (ps := ["word"]) X G aMP lMP cMP kMP fun _ _ _ _ _ _ us hl => match us, hl with | [_], _ => rfl
  have DML := df_mk (st := st_as_list) (ps := ["word"]) X G aML lML cML kML fun _ _ _ _ _ _ us hl => match us, hl with | [_], _ => rfl
  have FLaw := fun_mk (st := st_law) lLaw cLaw kLaw
  have FE : ErrD K fE _ := ⟨⟨_, _, _, _, _, _, _, _, _, _, rfl, lE, cE, .inr ⟨by simp, TD, _, _, _, rfl, lTD, rfl, .cons ⟨_, rfl⟩ .nil⟩, .inl rfl⟩, kE⟩
  have TE : ErrT K mg "Unmade" CU fE _ := ⟨⟨⟨nmU, qU, NU, bsU, _, snU, subU, abU, colU, ddU, m0, m1, m2, m3, m5, xN, rfl⟩, saN, eN, tN, kN⟩, aE, tE, nfN, PySem.W.mg_of X G aN, err_b2 FE⟩
  have CT : CaughtT K CU BE := ⟨⟨gaN, ggN, eN, hdN⟩, ⟨gaN, ggN, eN, hdN, hcN, spN, tkN, moN⟩, PySem.W.exm_ref eN hdN tN sN, kit_subT (by decide +kernel) sV, kit_subR hdB tB sB sN⟩
  have hO : KDic K w aO (ownKvs T1 T2 T3 T4 T5 T6) := ⟨_, _, lO, lowO, .cons hh1 rfl (.cons hh2 rfl (.cons hh3 rfl (.cons hh4 rfl (.cons hh5 rfl (.cons hh6 rfl .nil))))), (by show ([Sum.inr (Str.ofString "word"), Sum.inr (Str.ofString "whole"), Sum.inr (Str.ofString "based"), Sum.inr (Str.ofString "yesno"), Sum.inr (Str.ofString "pair"), Sum.inr (Str.ofString "list")] : List Key).Nodup; decide +kernel), (by show 6 ≤ 1000; decide)⟩
  have hT1 : ∀ H : Hp, SqT K H T1 [.ref fMW, .str (Str.ofString "word")] := fun H => .inr ⟨_, _, _, lT1, rfl, rfl, by simp [sizeLine_eq], .cons rfl (.cons ⟨_, rfl⟩ .nil)⟩
  have hT4 : ∀ H : Hp, SqT K H T4 [.ref fMY, .str (Str.ofString "yes")] := fun H => .inr ⟨_, _, _, lT4, rfl, rfl, by simp [sizeLine_eq], .cons rfl (.cons ⟨_, rfl⟩ .nil)⟩
  have hT5 : ∀ H : Hp, SqT K H T5 [.ref fMP, .str (Str.ofString "key:value")] := fun H => .inr ⟨_, _, _, lT5, rfl, rfl, by simp [sizeLine_eq], .cons rfl (.cons ⟨_, rfl⟩ .nil)⟩
  have hT6 : ∀ H : Hp, SqT K H T6 [.ref fML, .str (Str.ofString "one,two")] := fun H => .inr ⟨_, _, _, lT6, rfl, rfl, by simp [sizeLine_eq], .cons rfl (.cons ⟨_, rfl⟩ .nil)⟩
  refine ⟨PySem.W.fnOf "law" "law" (defArgs st_law) (defBody st_law) (defScope st_law) .none kVLaw dcLaw pmLaw anLaw cdLaw ctLaw, fun s v => ?_, fun base _ _ => ?_⟩
  · exact .of_eq rfl
  · let fM : MkI → Addr := pick4 fMW fMY fMP fML
    let fdM : MkI → FuncData := pick4 (PySem.W.fnOf "as_word" "as_word" (defArgs st_as_word) (defBody st_as_word) (defScope st_as_word) .none kVMW dcMW pmMW anMW cdMW ctMW) (PySem.W.fnOf "as_yesno" "as_yesno" (defArgs st_as_yesno) (defBody st_as_yesno) (defScope st_as_yesno) .none kVMY dcMY pmMY anMY cdMY ctMY) (PySem.W.fnOf "as_pair" "as_pair" (defArgs st_as_pair) (defBody st_as_pair) (defScope st_as_pair) .none kVMP dcMP pmMP anMP cdMP ctMP) (PySem.W.fnOf "as_list" "as_list" (defArgs st_as_list) (defBody st_as_list) (defScope st_as_list) .none kVML dcML pmML anML cdML ctML)
    have GM : ∀ i, FnOk l.prog w K mg base (L2.CX l.prog w) 3 (fM i) (fdM i) ["word"] (spMk K CU (gOf i)) := fun i => match i with
      | .w => ok_word_m DMW.F
      | .y => ok_yesno_m DMY.F FE TE
      | .p => ok_pair_m DMP.F FE TE
      | .l => ok_list_m DML.F (g0 z_tuple)
    have KM : ∀ i, PySem.W.keepIn K (.ref (fM i)) = true := fun i => match i with
      | .w => DMW.F.kp
      | .y => DMY.F.kp
      | .p => DMP.F.kp
      | .l => DML.F.kp
    have BM : ∀ i, Binds K (fdM i) ["word"] [] := fun i => match i with
      | .w => DMW.b
      | .y => DMY.b
      | .p => DMP.b
      | .l => DML.b
    have GL : FnOk l.prog w K mg base CX0 4 fLMade _ ["_law_maker", "_law_word_here"] (spLMade K fM) := ok_lmade DLMade.F GM KM BM TE CT (PySem.W.mg_of X G aB) (g0 z_isinstance) (g0 z_str) (g0 z_ValueError)
    have GD : FnOk l.prog w K mg base CX0 4 fDue _ ["_law_name", "_law_word_here"] (spDue K) := ok_due DDue.F DCut (g0 z_len) (g0 z_tuple)
    have GO : ∀ j : Nat, FnOk l.prog w K mg base CX0 (j + 1) fOwn _ [] (spOwn (ownKvs T1 T2 T3 T4 T5 T6)) := fun j => ok_own DOwn.F (g0 z_dict) (PySem.W.mg_of X G aO_) hO
    have HT : ∀ (i : MkI) (H : Hp), SqT K H (pick4 T1 T4 T5 T6 i) [.ref (fM i), .str (smp i)] := fun i H => match i with
      | .w => hT1 H
      | .y => hT4 H
      | .p => hT5 H
      | .l => hT6 H
    have HK : ∀ i : MkI, valV (ownKvs T1 T2 T3 T4 T5 T6) (Sum.inr (nmOf i)) = some (.ref (pick4 T1 T4 T5 T6 i)) := fun i => match i with
      | .w => rfl
      | .y => rfl
      | .p => rfl
      | .l => rfl
    exact ok_law (k := 2) FLaw DCell DPot DDraw DSigns DText DWord DRight (ok_right DRight.F DLMade GL DDue GD DOwn (GO 3) HT HK (g0 z_isinstance) (g0 z_str) (g0 z_repr)) DOwn (GO 4) (g0 z_len) (g0 z_max) (g0 z_min) (g0 z_divmod) (g0 z_range) (g0 z_all) (g0 z_sorted)
end WB

open PySem PySem.W PyProof.Rows
set_option maxRecDepth 100000
set_option Elab.async false
set_option maxHeartbeats 0 in
theorem PySem.Challenge.cw_wordbench_k33_truths_pairs_tuples_holds : PySem.Challenge.rw_wordbench_k33_truths_pairs_tuples.Holds := by
  w_on; o_law; k_head; (case hw => w_witness2)
  k_fill
  refine WG.gwalk_of (l := PySem.Challenge.rw_wordbench_k33_truths_pairs_tuples) (n := 63) (k := 6) (x := "_law_script") (CX := fun _ => L2.CX0) (sp := fun w => WB.spLaw _) rfl (by decide) rfl ⟨rfl, by decide, by decide⟩ (fun w h Y => PySem.W.kIn_of Y) ?F (fun _ _ a ns hl _ hS => ⟨a, ns, rfl, hS, hl, fun _ => rfl⟩) (fun _ _ _ _ _ h => h)
  case F =>
    intro w mg fa h KX G hmg
    refine' WB.all_mk KX G hmg ?aCell ?lCell ?cCell ?kCell ?aPot ?lPot ?cPot ?kPot ?aDraw ?lDraw ?cDraw ?kDraw ?aSigns ?lSigns ?cSigns ?kSigns ?aText ?lText ?cText ?kText ?aWord ?lWord ?cWord ?kWord ?aCut ?lCut ?cCut ?kCut ?aDue ?lDue ?cDue ?kDue ?aLMade ?lLMade ?cLMade ?kLMade ?aRight ?lRight ?cRight ?kRight ?aOwn ?lOwn ?cOwn ?kOwn ?aMW ?lMW ?cMW ?kMW ?aMY ?lMY ?cMY ?kMY ?aMP ?lMP ?cMP ?kMP ?aML ?lML ?cML ?kML ?aB ?aN ?xN ?aE ?lE ?cE ?kE ?lTD ?tE ?saN ?gaN ?ggN ?nfN ?hcN ?kN ?eN ?tN ?hdN ?sN ?spN ?tkN ?moN ?tB ?hdB ?sB ?sV ?aO_ ?lO ?hh1 ?hh2 ?hh3 ?hh4 ?hh5 ?hh6 ?lowO ?lT1 ?lT4 ?lT5 ?lT6 ?z_len ?z_max ?z_min ?z_divmod ?z_range ?z_str ?z_isinstance ?z_all ?z_dict ?z_ValueError ?z_tuple ?z_repr ?z_sorted ?aLaw ?lLaw ?cLaw ?kLaw
    (case aCell => k_is)
    (case lCell => k_is)
    (case cCell => k_is)
    (case kCell => k_is)
    (case aPot => k_is)
    (case lPot => k_is)
    (case cPot => k_is)
    (case kPot => k_is)
    (case aDraw => k_is)
    (case lDraw => k_is)
    (case cDraw => k_is)
    (case kDraw => k_is)
    (case aSigns => k_is)
    (case lSigns => k_is)
    (case cSigns => k_is)
    (case kSigns => k_is)
    (case aText => k_is)
    (case lText => k_is)
    (case cText => k_is)
    (case kText => k_is)
    (case aWord => k_is)
    (case lWord => k_is)
    (case cWord => k_is)
    (case kWord => k_is)
    (case aCut => k_is)
    (case lCut => k_is)
    (case cCut => k_is)
    (case kCut => k_is)
    (case aDue => k_is)
    (case lDue => k_is)
    (case cDue => k_is)
    (case kDue => k_is)
    (case aLMade => k_is)
    (case lLMade => k_is)
    (case cLMade => k_is)
    (case kLMade => k_is)
    (case aRight => k_is)
    (case lRight => k_is)
    (case cRight => k_is)
    (case kRight => k_is)
    (case aOwn => k_is)
    (case lOwn => k_is)
    (case cOwn => k_is)
    (case kOwn => k_is)
    (case aMW => k_is)
    (case lMW => k_is)
    (case cMW => k_is)
    (case kMW => k_is)
    (case aMY => k_is)
    (case lMY => k_is)
    (case cMY => k_is)
    (case kMY => k_is)
    (case aMP => k_is)
    (case lMP => k_is)
    (case cMP => k_is)
    (case kMP => k_is)
    (case aML => k_is)
    (case lML => k_is)
    (case cML => k_is)
    (case kML => k_is)
    (case aB => k_is)
    (case aN => k_is)
    (case xN => k_is)
    (case aE => k_is)
    (case lE => k_is)
    (case cE => k_is)
    (case kE => k_is)
    (case lTD => k_is)
    (case tE => k_is)
    (case saN => k_is)
    (case gaN => k_is)
    (case ggN => k_is)
    (case nfN => k_is)
    (case hcN => k_is)
    (case kN => k_is)
    (case eN => k_is)
    (case tN => k_is)
    (case hdN => k_is)
    (case sN => k_is)
    (case spN => k_is)
    (case tkN => k_is)
    (case moN => k_is)
    (case tB => k_is)
    (case hdB => k_is)
    (case sB => k_is)
    (case sV => k_is)
    (case aO_ => k_is)
    (case lO => k_is)
    (case hh1 => exact rfl)
    (case hh2 => exact rfl)
    (case hh3 => exact rfl)
    (case hh4 => exact rfl)
    (case hh5 => exact rfl)
    (case hh6 => exact rfl)
    (case lowO => first | exact rfl | decide +kernel)
    (case lT1 => k_is)
    (case lT4 => k_is)
    (case lT5 => k_is)
    (case lT6 => k_is)
    (case z_len => k_is)
    (case z_max => k_is)
    (case z_min => k_is)
    (case z_divmod => k_is)
    (case z_range => k_is)
    (case z_str => k_is)
    (case z_isinstance => k_is)
    (case z_all => k_is)
    (case z_dict => k_is)
    (case z_ValueError => k_is)
    (case z_tuple => k_is)
    (case z_repr => k_is)
    (case z_sorted => k_is)
    (case aLaw => k_is)
    (case lLaw => k_is)
    (case cLaw => k_is)
    (case kLaw => k_is)
