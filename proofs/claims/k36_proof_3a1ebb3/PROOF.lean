import PyProof.Rows.All
import Wide.All
import OpenK.AllK
import Wide.FinOn
import PySem.Challenge.RW_wordbench_k36_tables_refused
import HandS.ForMost
import HandS.IsInst
import KE.KIsAll
import PyProof.ReprRoads
import PyProof.StrBlock2
import HandS.Exc
import HandS.ExcInit
import HandS.ExcField
import HandS.ExcIs
import HandS.TryOnly
import HandS.WordsExc
import HandS.Defaults
import HandS.MakeKw
import HandS.MakeKwOnly
import HandS.EndTab
import HandS.HeadWalk
import HandS.Nested
import HandS.ExcValue
import KE.KNestM
import HandS.ExcOwn
import HandS.CallLocal
import HandS.StrMore
import HandS.More
import HandS.SetKeys
import HandS.Walk
import HandS.Iter
import HandS.HotCalls
import HandS.ReplaceLit
import HandS.ReplaceDef
import PyProof.Rows.StrStrike
import HandS.ListItems
import HandS.Small
import HandS.ListEq
set_option Elab.async false
set_option linter.all false
set_option maxRecDepth 100000
set_option maxHeartbeats 4000000
namespace WB
open PySem PySem.Spec PyProof.Rows L2
open TL (tl)
def topS (i : Nat) : Stmt := PySem.Challenge.pw_wordbench_k36_tables_refused.main.body.getD i (.Pass ⟨0, 0, 0, 0⟩)
abbrev st_cell : Stmt := topS 26
theorem sc_cell : FnScope ["_law_script", "_law_k"] ["_law_script", "_law_k"] (defScope st_cell) := ⟨rfl, rfl, rfl, by decide +kernel, rfl, by decide +kernel, by decide +kernel⟩
abbrev st_pot : Stmt := topS 27
theorem sc_pot : FnScope ["_law_script", "_law_k", "_law_cell_here"] ["_law_script", "_law_k"] (defScope st_pot) := ⟨rfl, rfl, rfl, by decide +kernel, rfl, by decide +kernel, by decide +kernel⟩
abbrev st_draw : Stmt := topS 28
theorem sc_draw : FnScope ["_law_pot_here", "_law_many", "_law_digit"] ["_law_pot_here", "_law_many"] (defScope st_draw) := ⟨rfl, rfl, rfl, by decide +kernel, rfl, by decide +kernel, by decide +kernel⟩
abbrev sCell := st_cell
abbrev sPot := st_pot
abbrev sDraw := st_draw
abbrev scCell := sc_cell
abbrev scPot := sc_pot
abbrev scDraw := sc_draw
/-- a def of the top: its object, how it binds, its name -/
structure Df (K : PySem.W.Frag) (mg : Str → Option Value) (x : Str) (st : Stmt) (ps : List Str) (f : Addr) (fd : FuncData) : Prop where
  F : Fun K x x st f fd
  b : Binds K fd ps []
  g : mg x = some (.ref f)
/-! ### heaps -/
theorem same_upd {H : Hp} {p : Addr} {o : HO} (h : H p = none) : Same H (upd H p o) := fun b x e => by
  rw [upd_ne (ne_of_none e h)]
  exact e
/-- all that was tracked but at p is as it was -/
def But (p : Addr) (H H' : Hp) : Prop := ∀ b o, b ≠ p → H b = some o → H' b = some o
theorem But.refl (p : Addr) (H : Hp) : But p H H := fun _ _ _ h => h
theorem But.trans {p : Addr} {H H1 H2 : Hp} (a : But p H H1) (b : But p H1 H2) : But p H H2 := fun c o n h => b c o n (a c o n h)
theorem But.of_same {p : Addr} {H H' : Hp} (a : Same H H') : But p H H' := fun c o _ h => a c o h
theorem But.upd (p : Addr) (H : Hp) (o : HO) : But p H (upd H p o) := fun c u n h => by
  rw [upd_ne n]
  exact h
theorem But.new {p : Addr} {H : Hp} {q : Addr} {o : HO} (h : H q = none) : But p H (L2.upd H q o) := But.of_same (same_upd h)
/-- at p a pot stands -/
def Pot (H : Hp) (p : Addr) : Prop := ∃ a b : Int, H p = some (.lst [.int a, .int b]) ∧ 0 ≤ b ∧ b < 2147483648
theorem Pot.some {H : Hp} {p : Addr} (h : Pot H p) : ∃ o, H p = some o := by
  obtain ⟨a, b, e, _⟩ := h
  exact ⟨_, e⟩
theorem Pot.ne {H : Hp} {p q : Addr} (h : Pot H p) (n : H q = none) : p ≠ q := by
  obtain ⟨a, b, e, _⟩ := h
  exact ne_of_none e n
theorem Pot.new {H : Hp} {p q : Addr} {o : HO} (h : Pot H p) (n : H q = none) : Pot (L2.upd H q o) p := by
  have ne := h.ne n
  obtain ⟨a, b, e, h1, h2⟩ := h
  refine ⟨a, b, ?_, h1, h2⟩
  rw [upd_ne ne]
  exact e
/-! ### texts of some signs -/
structure Tq (p : Nat → Prop) (n : Nat) (y : Str) : Prop where
  le : y.length ≤ n
  pl : ∀ c ∈ tl y, p c
theorem Tq.mono {p q : Nat → Prop} {n m : Nat} {y : Str} (h : Tq p n y) (e : n ≤ m) (f : ∀ c, p c → q c) : Tq q m y := ⟨Nat.le_trans h.le e, fun c hc => f c (h.pl c hc)⟩
theorem Tq.app {p : Nat → Prop} {n m : Nat} {x y : Str} (h : Tq p n x) (k : Tq p m y) : Tq p (n + m) (x ++ y) := by
  refine ⟨?_, fun c hc => ?_⟩
  · rw [Str.length_append]
    exact Nat.add_le_add h.le k.le
  · rw [TL.tl_append] at hc
    exact (List.mem_append.mp hc).elim (h.pl c) (k.pl c)
theorem Tq.cut {p : Nat → Prop} {n : Nat} {x : Str} (h : Tq p n x) (lo hi : Option Int) : Tq p n (cutS x lo hi) := by
  refine ⟨Nat.le_trans (cutS_length x lo hi) h.le, fun c hc => h.pl c ?_⟩
  have e : c ∈ (x.cps.toList.drop _).take _ := hc
  exact List.mem_of_mem_drop (List.mem_of_mem_take e)
theorem Tq.sign {p : Nat → Prop} {c : Nat} (h : p c) : Tq p 1 ⟨#[c]⟩ := by
  refine ⟨Nat.le_refl 1, fun d hd => ?_⟩
  have e : d ∈ [c] := hd
  rw [List.mem_singleton.mp e]
  exact h
theorem mem_joinL (S : List Nat) : ∀ (ps : List (List Nat)) (c : Nat), c ∈ TL.joinL S ps → c ∈ S ∨ ∃ p ∈ ps, c ∈ p
  | [], c, h => by cases h
  | [p], c, h => .inr ⟨p, List.mem_singleton.mpr rfl, h⟩
  | p :: q :: r, c, h => by
    rcases List.mem_append.mp (show c ∈ p ++ (S ++ TL.joinL S (q :: r)) from h) with h | h
    · exact .inr ⟨p, List.mem_cons_self, h⟩
    · rcases List.mem_append.mp h with h | h
      · exact .inl h
      · rcases mem_joinL S (q :: r) c h with h | ⟨p', hp, hc⟩
        · exact .inl h
        · exact .inr ⟨p', List.mem_cons_of_mem _ hp, hc⟩
theorem sum_most {p : Nat → Prop} (m : Nat) : ∀ ys : List Str, (∀ y ∈ ys, Tq p m y) → (ys.map (·.length)).sum ≤ ys.length * m
  | [], _ => Nat.zero_le _
  | y :: r, h => by
    have h1 := sum_most m r fun z hz => h z (List.mem_cons_of_mem _ hz)
    have h2 := (h y List.mem_cons_self).le
    rw [List.map_cons, List.sum_cons, List.length_cons, Nat.succ_mul]
    omega
theorem Tq.join {p : Nat → Prop} {sep : Str} {k m n : Nat} {ys : List Str} (hs : Tq p k sep) (h : ∀ y ∈ ys, Tq p m y) (hn : ys.length * m + ys.length * k ≤ n) : Tq p n (Txt.join sep ys) := by
  refine ⟨?_, fun c hc => ?_⟩
  · rw [TL.join_eq]
    have e := StrLaws.join_length_le sep ys
    have e2 := sum_most m ys h
    have e3 : ys.length * sep.length ≤ ys.length * k := Nat.mul_le_mul_left _ hs.le
    omega
  · rw [TL.join_eq, TL.tl_join] at hc
    rcases mem_joinL _ _ c hc with h1 | ⟨p, hp, h1⟩
    · exact hs.pl c h1
    · obtain ⟨y, hy, rfl⟩ := List.mem_map.mp hp
      exact (h y hy).pl c h1
section
variable {P : Program} {w : World} {K : PySem.W.Frag} {mg : Str → Option Value} {base : Heap}
/-! ### _law_cell -/
def spCell (K : PySem.W.Frag) : Sp := fun vs H Q _ => ∃ (a : Addr) (ns : List Int) (k : Int), vs = [.ref a, .int k] ∧ SqL K H a (ns.map V.int) ∧ 0 ≤ k ∧ ∀ z : Int, Q (.int z) H
theorem ok_cell {f : Addr} {fd : FuncData} {k : Nat} (F : Fun K "_law_cell" "_law_cell" sCell f fd) (mL : mg "len" = none) : FnOk P w K mg base CX0 (k + 1) f fd ["_law_script", "_law_k"] (spCell K) := by
  refine F.ok scCell (fun vs H Q E h => ?_) (fun cdv A outer s H vs Q E hr h => ?_)
  · obtain ⟨a, ns, k, rfl, _⟩ := h
    rfl
  · obtain ⟨a, ns, k, rfl, hS, hk, q⟩ := h
    refine ⟨_, pss_one (ps_ret (pe_ifExp (pt_cmpR op_lt (pv 1) (pe_callB call_len_seq (by rfl) mL PySem.boot_len (pa_cons (pv 0) pa_nil)) (nomark _)) (pe_ix ix_list (pv 0) (pv 1) (fun _ _ => rfl)) pe_int)), ?_⟩
    refine ⟨.int k, rfl, .ref a, rfl, a, _, rfl, .inl hS, k, _, rfl, rfl, _, rfl, ite2 (fun e => ?_) (fun e => q 0)⟩
    have e1 := of_decide_eq_true e
    obtain ⟨n, rfl⟩ := Int.eq_ofNat_of_zero_le hk
    rw [List.length_map] at e1
    have hn : n < ns.length := by omega
    exact ⟨.ref a, rfl, .int n, rfl, a, _, _, .int ns[n], rfl, rfl, hS, atI_nat (j := n) (by rw [List.getElem?_map, List.getElem?_eq_getElem hn]; rfl), q _⟩
/-! ### _law_pot -/
def spPot (K : PySem.W.Frag) : Sp := fun vs H Q _ => ∃ (a : Addr) (ns : List Int) (k : Int), vs = [.ref a, .int k] ∧ SqL K H a (ns.map V.int) ∧ 0 ≤ k ∧
  ∀ H' p, Same H H' → H p = none → Pot H' p → Q (.ref p) H'
theorem ok_pot {f fC : Addr} {fd fdC : FuncData} {k : Nat} (F : Fun K "_law_pot" "_law_pot" sPot f fd) (C : Df K mg "_law_cell" sCell ["_law_script", "_law_k"] fC fdC) (mL : mg "len" = none) (mM : mg "max" = none) :
    FnOk P w K mg base CX0 (k + 2) f fd ["_law_script", "_law_k"] (spPot K) := by
  have GC : FnOk P w K mg base CX0 (k + 1) fC fdC ["_law_script", "_law_k"] (spCell K) := ok_cell C.F mL
  refine F.ok scPot (fun vs H Q E h => ?_) (fun cdv A outer s H vs Q E hr h => ?_)
  · obtain ⟨a, ns, k, rfl, _⟩ := h
    rfl
  · obtain ⟨a, ns, k, rfl, hS, hk, q⟩ := h
    refine ⟨_, pss_cons (ps_set (i := 2) scPot.nd rfl (.inl rfl) (pe_call GC hr (by rfl) C.g C.F.kp C.b .nil pass0 (pa_cons (pv 0) (pa_cons (pv 1) pa_nil))))
      (pss_one (ps_ret (pe_lst (pa_cons (pe_callB (call_max2 rfl) (by rfl) mM (by decide +kernel) (pa_cons pe_int (pa_cons (pe_op op_sub (pv 2) (pe_op op_pow pe_int pe_int)) pa_nil)))
        (pa_cons (pe_op op_mod (pe_op op_add (pe_op op_add (pe_op op_mul (pe_op op_mod (pv 2) pe_int) pe_int) (pe_op op_mul pe_int (pv 1))) pe_int) pe_int) pa_nil))))), ?_⟩
    refine ⟨.ref a, rfl, .int k, rfl, a, ns, k, rfl, hS, hk, fun z => ?_⟩
    refine ⟨.int z, rfl, 10, 18, rfl, rfl, ⟨by decide, by decide, by decide⟩, z, _, rfl, rfl, 0, _, rfl, ?_⟩
    refine ⟨.int z, rfl, z, 2147483629, rfl, rfl, (by show (0 : Int) < 2147483629; decide), _, 48271, rfl, rfl, .inr ⟨by decide, by decide⟩, .int k, rfl, 7919, k, rfl, rfl, .inl ⟨by decide, by decide⟩, _, _, rfl, rfl, _, 31, rfl, rfl, _, 2147483629, rfl, rfl, (by show (0 : Int) < 2147483629; decide), ?_⟩
    refine ⟨by show 2 ≤ sizeLine; decide, fun p hp => q _ p (same_upd hp) hp ⟨_, _, upd_same, Int.emod_nonneg _ (by decide), ?_⟩⟩
    exact Int.lt_trans (Int.emod_lt_of_pos _ (by decide)) (by decide)
/-! ### _law_draw -/
def spDraw : Sp := fun vs H Q _ => ∃ (p : Addr) (m : Int), vs = [.ref p, .int m] ∧ Pot H p ∧ 0 < m ∧ m ≤ 1000 ∧ ∀ H' (d : Int), But p H H' → Pot H' p → 0 ≤ d → d < m → Q (.int d) H'
theorem ok_draw {f : Addr} {fd : FuncData} {k : Nat} (F : Fun K "_law_draw" "_law_draw" sDraw f fd) (mD : mg "divmod" = none) : FnOk P w K mg base CX0 (k + 1) f fd ["_law_pot_here", "_law_many"] spDraw := by
  refine F.ok scDraw (fun vs H Q E h => ?_) (fun cdv A outer s H vs Q E hr h => ?_)
  · obtain ⟨p, m, rfl, _⟩ := h
    rfl
  · obtain ⟨p, m, rfl, ⟨a, b, hp, hb0, hb1⟩, hm0, hm1, q⟩ := h
    refine ⟨_, pss_cons (ps_if (pt_cmpR op_gt (pe_ix ix_list (pv 0) pe_int (fun _ _ => rfl)) pe_int (nomark _))
        (pss_cons (ps_asg (pe_callB call_divmod (by rfl) mD (by decide +kernel) (pa_cons (pe_ix ix_list (pv 0) pe_int (fun _ _ => rfl)) (pa_cons (pv 1) pa_nil)))
            (pg_tup rfl (pgs_cons (pg_sub (pv 0) pe_int set_list) (pgs_cons (pg_name (i := 2) scDraw.nd rfl (.inl rfl)) pgs_nil))))
          (pss_one (ps_ret (pv 2)))) pss_nil)
      (pss_cons (ps_asg (pe_op op_mod (pe_op op_add (pe_op op_mul (pe_ix ix_list (pv 0) pe_int (fun _ _ => rfl)) pe_int) pe_int) pe_int) (pg_sub (pv 0) pe_int set_list))
      (pss_one (ps_ret (pe_op op_mod (pe_op op_fdiv (pe_op op_mod (pe_op op_pow (pe_ix ix_list (pv 0) pe_int (fun _ _ => rfl)) pe_int) pe_int) pe_int) (pv 1))))), ?_⟩
    refine ⟨.ref p, rfl, p, _, 0, .int a, rfl, rfl, SqL.of hp, atI_nat (j := 0) rfl, a, 0, rfl, rfl, _, rfl, ite2 (fun e => ?_) (fun e => ?_)⟩
    · refine ⟨.ref p, rfl, p, _, 0, .int a, rfl, rfl, SqL.of hp, atI_nat (j := 0) rfl, .int m, rfl, a, m, rfl, ⟨hm0, by omega⟩, fun t nt => ?_⟩
      have npt : p ≠ t := ne_of_none hp nt
      have hp1 : (upd H t (.tup [.int (a / m), .int (a % m)])) p = some (.lst [.int a, .int b]) := by
        rw [upd_ne npt]
        exact hp
      refine ⟨t, _, rfl, SqT.of upd_same, rfl, _, _, rfl, .ref p, rfl, p, _, 0, 0, rfl, rfl, hp1, rfl, _, _, rfl, rfl, ?_⟩
      refine ⟨.int (a % m), rfl, q _ _ ((But.new nt).trans (But.upd _ _ _)) ⟨a / m, b, upd_same, hb0, hb1⟩ (Int.emod_nonneg _ (by omega)) (Int.emod_lt_of_pos _ hm0)⟩
    · refine ⟨.ref p, rfl, p, _, 1, .int b, rfl, rfl, SqL.of hp, atI_nat (j := 1) rfl, b, 39373, rfl, rfl, .inr ⟨by decide, by decide⟩, _, 8191, rfl, rfl, _, 2147483587, rfl, rfl, (by show (0 : Int) < 2147483587; decide), ?_⟩
      refine ⟨.ref p, rfl, p, _, 1, 1, rfl, rfl, hp, rfl, ?_⟩
      have c0 : 0 ≤ (b * 39373 + 8191) % 2147483587 := Int.emod_nonneg _ (by decide)
      have c1 : (b * 39373 + 8191) % 2147483587 < 2147483587 := Int.emod_lt_of_pos _ (by decide)
      refine ⟨.ref p, rfl, p, _, 1, .int ((b * 39373 + 8191) % 2147483587), rfl, rfl, SqL.of upd_same, atI_nat (j := 1) rfl, (b * 39373 + 8191) % 2147483587, 2, rfl, rfl, ⟨by decide, by decide, by omega⟩, _, 2147483543, rfl, rfl, (by show (0 : Int) < 2147483543; decide), _, 13, rfl, rfl, ⟨by decide, by decide⟩, .int m, rfl, _, m, rfl, rfl, hm0, ?_⟩
      exact q _ _ (But.upd _ _ _) ⟨a, _, upd_same, c0, by omega⟩ (Int.emod_nonneg _ (by omega)) (Int.emod_lt_of_pos _ hm0)
end
theorem at_strs (ys : List Str) (d : Int) (h0 : 0 ≤ d) (h1 : d < (ys.length : Int)) : ∃ y ∈ ys, atI (ys.map V.str) d = some (.str y) := by
  obtain ⟨n, rfl⟩ := Int.eq_ofNat_of_zero_le h0
  have hn : n < ys.length := by omega
  exact ⟨ys[n], List.getElem_mem hn, atI_nat (by rw [List.getElem?_map, List.getElem?_eq_getElem hn]; rfl)⟩
theorem at_ints (ys : List Int) (d : Int) (h0 : 0 ≤ d) (h1 : d < (ys.length : Int)) : ∃ y ∈ ys, atI (ys.map V.int) d = some (.int y) := by
  obtain ⟨n, rfl⟩ := Int.eq_ofNat_of_zero_le h0
  have hn : n < ys.length := by omega
  exact ⟨ys[n], List.getElem_mem hn, atI_nat (by rw [List.getElem?_map, List.getElem?_eq_getElem hn]; rfl)⟩
theorem at_any (ys : List V) (d : Int) (h0 : 0 ≤ d) (h1 : d < (ys.length : Int)) : ∃ y ∈ ys, atI ys d = some y := by
  obtain ⟨n, rfl⟩ := Int.eq_ofNat_of_zero_le h0
  have hn : n < ys.length := by omega
  exact ⟨ys[n], List.getElem_mem hn, atI_nat (List.getElem?_eq_getElem hn)⟩
theorem go {R : Hp → Prop} {H : Hp} {a : Addr} {o : HO} (n : H a = none) (h : ∀ H', Same H H' → H' a = some o → R H') : R (upd H a o) := h _ (same_upd n) upd_same
theorem goT {α : Type} {R : Hp → α → Prop} {Q : α} {H : Hp} {a : Addr} {o : HO} (n : H a = none) (h : ∀ H', Same H H' → H' a = some o → R H' Q) : R (upd H a o) Q := h _ (same_upd n) upd_same
theorem goU {R : Hp → Prop} {H : Hp} {a : Addr} {o : HO} (h : ∀ H', But a H H' → H' a = some o → R H') : R (upd H a o) := h _ (But.upd _ _ _) upd_same
theorem ev_use {t : TE} {σ : L2.St} {H : Hp} {v : V} {R : VK} (e : ∀ R : VK, R v H → t σ H R) (c : R v H) : t σ H R := e R c
theorem ev_gen {t : TE} {σ : L2.St} {H : Hp} (D : V → Hp → Prop) {R : VK} (e : ∀ R : VK, (∀ v H', D v H' → R v H') → t σ H R) (c : ∀ v H', D v H' → R v H') : t σ H R := e R c
theorem ts_gen {t : TS} {κ : L2.Ends} {σ : L2.St} {H : Hp} (D : L2.St → Hp → Prop) (e : ∀ κ : L2.Ends, (∀ σ' H', D σ' H' → κ.nx σ' H') → t κ σ H) (c : ∀ σ' H', D σ' H' → κ.nx σ' H') : t κ σ H := e κ c
theorem dp_strs {K : PySem.W.Frag} {H : Hp} : ∀ ys : List Str, DpAll K H (ys.map V.str) (ys.map PyData.str)
  | [] => .nil
  | y :: r => .cons (.str y) (dp_strs r)
theorem strOk_of {z : Str} (h : ∀ c ∈ tl z, c < 256) : PyData.strOk z = true := by
  unfold PyData.strOk
  rw [← Array.all_toList]
  exact List.all_eq_true.mpr fun c hc => decide_eq_true (Nat.lt_trans (h c hc) (by decide))
theorem lay_strs : ∀ ys : List Str, (∀ y ∈ ys, PyData.strOk y = true) → PyData.canLayAll0 (ys.map PyData.str) = true ∧ PyData.depthAll (ys.map PyData.str) = 0
  | [], _ => ⟨by simp [PyData.canLayAll0], by simp [PyData.depthAll]⟩
  | y :: r, h => by
    obtain ⟨h1, h2⟩ := lay_strs r fun z hz => h z (List.mem_cons_of_mem _ hz)
    rw [List.map_cons]
    exact ⟨by simp [PyData.canLayAll0, PyData.canLay0, h1, h y List.mem_cons_self], by simp [PyData.depthAll, PyData.depth, h2]⟩
theorem shaped_strs (ys : List Str) (h : ∀ y ∈ ys, PyData.strOk y = true) : SeqAt.shaped (.list (ys.map PyData.str)) = true := by
  obtain ⟨h1, h2⟩ := lay_strs ys h
  unfold SeqAt.shaped
  simp [PyData.canLay0, PyData.depth, h1, h2]
theorem eqv_nil (ds : List PyData) : PyData.eqv (.list ds) (.list []) = ds.isEmpty := by
  cases ds with
  | nil => simp [PyData.eqv, PyData.eqvAll]
  | cons d r => simp [PyData.eqv, PyData.eqvAll]
theorem strs_flat (ys : List Str) : (ys.map V.str).all flatV = true := by
  rw [List.all_map]
  exact List.all_eq_true.mpr fun _ _ => rfl
theorem eqvAll_strs : ∀ xs ys : List Str, PyData.eqvAll (xs.map PyData.str) (ys.map PyData.str) = decide (xs = ys)
  | [], [] => by simp [PyData.eqvAll]
  | [], y :: r => by simp [PyData.eqvAll]
  | x :: r, [] => by simp [PyData.eqvAll]
  | x :: r, y :: t => by
    rw [List.map_cons, List.map_cons]
    simp only [PyData.eqvAll, PyData.eqv]
    rw [eqvAll_strs r t]
    by_cases h : x = y
    · subst h
      by_cases h2 : r = t
      · subst h2
        simp
      · simp [h2]
    · simp [h]
theorem eqv_strs (xs ys : List Str) : PyData.eqv (.list (xs.map PyData.str)) (.list (ys.map PyData.str)) = decide (xs = ys) := by
  simp only [PyData.eqv]
  exact eqvAll_strs xs ys
theorem inV_strs (z : Str) (ys : List Str) : inV (.str z) (ys.map V.str) = decide (z ∈ ys) := by
  unfold inV
  rw [List.any_map]
  induction ys with
  | nil => rfl
  | cons y r ih =>
    rw [List.any_cons, ih]
    show (decide (y = z) || decide (z ∈ r)) = _
    by_cases h : y = z
    · subst h
      simp
    · have h2 : ¬ z = y := fun e => h e.symm
      simp [h, h2]
theorem tl_cut_to (x : Str) (k : Nat) : tl (cutS x none (some (k : Int))) = (tl x).take k := by
  show ((((tl x).drop (HT.sIx x.length 0 none)).take (HT.sIx x.length x.length (some (k : Int)) - HT.sIx x.length 0 none)).toArray).toList = _
  rw [HT.sIx_none, HT.sIx_nat, List.drop_zero, Nat.sub_zero]
  show (tl x).take (min k x.length) = _
  rw [TL.len_tl, ← List.take_take, List.take_length]
theorem tl_cut_from (x : Str) (k : Nat) : tl (cutS x (some (k : Int)) none) = (tl x).drop k := by
  show ((((tl x).drop (HT.sIx x.length 0 (some (k : Int)))).take (HT.sIx x.length x.length none - HT.sIx x.length 0 (some (k : Int)))).toArray).toList = _
  rw [HT.sIx_none, HT.sIx_nat]
  show ((tl x).drop (min k x.length)).take (x.length - min k x.length) = _
  have hl := TL.len_tl x
  by_cases h : k ≤ x.length
  · rw [Nat.min_eq_left h, List.take_of_length_le (by rw [List.length_drop]; omega)]
  · rw [Nat.min_eq_right (by omega), List.drop_of_length_le (by omega), List.drop_of_length_le (by omega), List.take_nil]
theorem fold_toList : ∀ (l : List (Array Nat)) (acc : Array Nat), (l.foldl (· ++ ·) acc).toList = acc.toList ++ (l.map Array.toList).flatten
  | [], acc => by simp
  | x :: l, acc => by
    rw [List.foldl_cons, fold_toList l]
    simp
theorem mul_tl (z : Str) (n : Nat) : (Txt.mul z (n : Int)).cps.toList = (List.replicate n z.cps.toList).flatten := by
  unfold Txt.mul
  by_cases h1 : (n : Int) < 1
  · have e : n = 0 := by omega
    subst e
    rw [if_pos h1]
    rfl
  · rw [if_neg h1]
    by_cases h2 : ((n : Int) == 1 || z.length == 0) = true
    · rw [if_pos h2]
      rcases Bool.or_eq_true_iff.mp h2 with e | e
      · have e1 : n = 1 := by
          have := eq_of_beq e
          omega
        subst e1
        simp
      · have e1 : z.cps.toList = [] := List.length_eq_zero_iff.mp (by
          have := eq_of_beq e
          simpa [Str.length] using this)
        rw [e1]
        simp
    · rw [if_neg h2]
      show ((List.replicate (n : Int).toNat z.cps).foldl (· ++ ·) #[]).toList = _
      rw [fold_toList, Int.toNat_natCast, List.map_replicate]
      rfl
theorem op_mul_str {X : Cx} : OpR X (binaryOp .Mult) (fun x y H Q => ∃ (z : Str) (n : Nat), x = .str z ∧ y = .int (n : Int) ∧ n ≤ 1000 ∧ z.length ≤ 1000 ∧ ∀ y : Str, tl y = (List.replicate n (tl z)).flatten → Q (.str y) H) := by
  intro pins s σ H x y v u Q I rx ry h
  obtain ⟨z, n, rfl, rfl, hn, hz, q⟩ := h
  obtain ⟨tx, rfl⟩ := rx
  obtain ⟨ty, rfl⟩ := ry
  have pw : z.length * n ≤ 1000000 := Nat.le_trans (Nat.mul_le_mul hz hn) (by decide)
  refine PySem.SB.mul ⟨?_, fun h1 h2 => ?_, fun h1 h2 => ?_⟩ fun t' k => ⟨.str _, H, I.tok k, ⟨t', rfl⟩, q _ ?_⟩
  · rw [decide_eq_false (by omega), decide_eq_false (by omega)]
    rfl
  · have e : (1000 : Int) ≤ (2 ^ 63 - 1) / (n : Int) := by
      have h3 : (0 : Int) < n := by omega
      exact (Int.le_ediv_iff_mul_le h3).mpr (by omega)
    omega
  · rw [Int.toNat_natCast]
    exact decide_eq_false (by show ¬ sizeLine < _; have : sizeLine = 16777216 := sizeLine_eq; omega)
  · exact mul_tl z n
theorem tt_use {t : TT} {σ : L2.St} {H : Hp} {b : Bool} {R : Bool → Hp → Prop} (e : ∀ R : Bool → Hp → Prop, R b H → t σ H R) (c : R b H) : t σ H R := e R c
theorem str_ext {a b : Str} (h : tl a = tl b) : a = b := by
  cases a; cases b
  exact congrArg Str.mk (Array.toList_inj.mp h)
abbrev B8 : Nat → Prop := fun c => c < 256
theorem Pot.same {H H' : Hp} {p : Addr} (h : Pot H p) (s : Same H H') : Pot H' p := by
  obtain ⟨x, y, e, h1, h2⟩ := h
  exact ⟨x, y, s _ _ e, h1, h2⟩
end WB

set_option Elab.async false
set_option linter.all false
set_option maxRecDepth 100000
set_option maxHeartbeats 4000000
namespace WG
open PySem PySem.Spec PyProof.Rows L2
/-! ### a def's promise where no repr is under way -/
structure GOk (P : Program) (w : World) (K : PySem.W.Frag) (mg : Str → Option Value) (base : Heap) (CX : CXT) (k : Nat) (f : Addr) (fd : FuncData) (ps : List Str) (sp : Sp) : Prop where
  len : ∀ vs H Q E, sp vs H Q E → vs.length = ps.length
  run : ∀ (A : Around) (outer : List Env) (s : Shared) (H : Hp) (args : Args) (us : List Value) (vs : List V) (Q : VK) (E : XK), A.guards = some [] → Room k A → Env0 P w K mg base A outer s H →
    BindsTo s fd args (ps.zip us) → Vals vs us → sp vs H Q E → codeAny (model P w) A (.call (.ref f) args) (CR CX outer P w H s Q E) s
theorem GOk.of {P : Program} {w : World} {K : PySem.W.Frag} {mg : Str → Option Value} {base : Heap} {CX : CXT} {k : Nat} {f : Addr} {fd : FuncData} {ps : List Str} {sp : Sp} (F : FnOk P w K mg base CX k f fd ps sp) : GOk P w K mg base CX k f fd ps sp :=
  ⟨F.len, fun A o s H args us vs Q E _ => F.run A o s H args us vs Q E⟩
section
variable {CX : CXT} {P : Program} {w : World} {K : PySem.W.Frag} {mg : Str → Option Value} {base : Heap} {k : Nat} {f : Addr} {N ps : List Str} {sp : Sp}
theorem gfn_of {name qual : Str} {params : Arguments} {body : List Stmt} {scope : Scope} {dV kV doc pm cdv ct oc : Value} {an od : Option Addr} {osl : Array (Option Value)}
    (lk : K.lookup f = some ⟨oc, od, .func (PySem.W.fnOf name qual params body scope dV kV doc pm an cdv ct), osl⟩) (hcd : PySem.W.codeIn K cdv qual = true) (S : FnScope N ps scope) (len : ∀ vs H Q E, sp vs H Q E → vs.length = ps.length)
    (hbody : ∀ (A : Around) (outer : List Env) (s : Shared) (H : Hp) (vs : List V) (Q : VK) (E : XK), A.guards = some [] → Room k (A.deeper (envOfC qual scope s.heap.objs.size f cdv)) → sp vs H Q E →
      ∃ t, PSs (cxOf CX P w K mg base N qual scope f cdv A outer s H E) body t ∧ t { nx := fun _ H' => Q .non H', rt := Q } (L2.start N vs) H) :
    GOk P w K mg base CX (k + 1) f (PySem.W.fnOf name qual params body scope dV kV doc pm an cdv ct) ps sp := by
  refine ⟨len, fun A outer s H args us vs Q E hgd room env bnd rel want => ?_⟩
  have hlen := len _ _ _ _ want
  have kin : K.In s.heap := env.mod.kin.keeps fun b o q => (env.bs b o q).1
  have nolim : s.heap.NoLimit := env.mod.nolimit.keeps fun b o q => (env.bs b o q).1
  have kinds : ∀ y ∈ ps.zip us, scope.names.lookup y.1 = some .local ∨ (scope.names.lookup y.1 = some .cell ∧ ((cellsFrom (s.heap.objs.size + 1) scope.names []).lookup y.1).isSome = true) := by
    intro y hy
    obtain ⟨n, v⟩ := y
    cases S.par n (List.of_mem_zip hy).1 with
    | inl z => exact .inl z
    | inr z => exact .inr ⟨z, PySem.W.cellsFrom_some _ _ _ (.inl z)⟩
  refine codeAny_call_function room.depth (kin _ _ lk) rfl S.co S.gen rfl (PySem.W.codeRec_of kin hcd) (bnd _ _ _ _ ?_)
  refine wpAny_newFunctionEnv_cells S.kind kinds fun e2 he2 s1 hx => ?_
  subst he2
  refine ⟨nolim.keeps hx.toInCall.keep, codeAny_func ?_⟩
  obtain ⟨t, tb, tq⟩ := hbody A outer s H vs Q E hgd (room.deeper _) want
  have I : Inv (cxOf CX P w K mg base N qual scope f cdv A outer s H E) [] (L2.start N vs) H s1 := inv_start S room.hd env hlen rel hx
  refine wpAny_mono (tb.run [] s1 (L2.start N vs) H _ I tq) (fun fl s' hs => ?_) fun e s' hs => hs
  cases fl with
  | ret u =>
    obtain ⟨v, _, H', J, rv, q⟩ := hs
    exact ⟨v, H', J.os, J.bare, J.base, J.hok, rv, q⟩
  | next =>
    obtain ⟨_, H', J, q⟩ := hs
    exact ⟨V.non, H', J.os, J.bare, J.base, J.hok, rfl, q⟩
  | brk =>
    obtain ⟨_, _, _, q⟩ := hs
    exact False.elim q
  | cont =>
    obtain ⟨_, _, _, q⟩ := hs
    exact False.elim q
theorem gfun_ok {x qual : Str} {st : Stmt} {fd : FuncData} (F : Fun K x qual st f fd) (S : FnScope N ps (defScope st)) (len : ∀ vs H Q E, sp vs H Q E → vs.length = ps.length)
    (hbody : ∀ (cdv : Value) (A : Around) (outer : List Env) (s : Shared) (H : Hp) (vs : List V) (Q : VK) (E : XK), A.guards = some [] → Room k (A.deeper (envOfC qual (defScope st) s.heap.objs.size f cdv)) → sp vs H Q E →
      ∃ t, PSs (cxOf CX P w K mg base N qual (defScope st) f cdv A outer s H E) (defBody st) t ∧ t { nx := fun _ H' => Q .non H', rt := Q } (L2.start N vs) H) : GOk P w K mg base CX (k + 1) f fd ps sp := by
  obtain ⟨oc, od, kV, doc, pm, an, cdv, ct, osl, rfl, lk, hcd⟩ := F.ex
  exact gfn_of lk hcd S len fun A outer s H vs Q E hg hr hsp => hbody cdv A outer s H vs Q E hg hr hsp
end
section
variable {X : Cx} {CX : CXT} {k : Nat} {f : Addr} {fd : FuncData} {ps : List Str} {sp : Sp} {E : XK} {x : Str} {p pos : Pos} {e : Expr} {es : List Expr} {t : TA}
theorem pe_callG (F : GOk X.prog X.w X.K X.mg X.base CX k f fd ps sp) (hgd : X.A.guards = some []) (hr : Room k X.A) (hg : Gl X x) (hm : X.mg x = some (.ref f)) (hk : PySem.W.keepIn X.K (.ref f) = true) (hb : Binds X.K fd ps []) (hx : Passes CX X E)
    (ha : PA X (e :: es) t) (hdb : (x == ("__debug__" : Str)) = false := by decide) (he : starEach (e :: es) X.env = (false, eval e X.env) :: starEach es X.env := by rfl) (hpl : (backTo pos (starEach es X.env)).any (·.1) = false := by rfl) :
    PE X (.Call (.Name x p) (e :: es) [] pos) (tCall sp [] E t) := by
  constructor
  intro pins s σ H Q I h
  refine wpAny_Call_Name_kw (ld_glob I hg hm ?_ hdb)
  refine PySem.W.callWith_K (h₀ := X.base) I.ok.mod.kin hk (thn (ha.run pos pins s σ H _ I h) fun us s1 ⟨vs, H1, I1, r, q⟩ => ⟨I1.kIn, ?_⟩) he hpl
  have q : sp vs H1 Q E := by
    have z : sp (vs ++ []) H1 Q E := q
    rw [List.append_nil] at z
    exact z
  have hl : (us ++ []).length = ps.length := by
    rw [List.append_nil, ← r.length]
    exact F.len _ _ _ _ q
  have b := hb s1 us I1.kIn hl
  rw [List.append_nil] at b
  refine wpAny_call (codeAny_mono (F.run X.A X.stack s1 H1 ⟨us, []⟩ us vs Q E hgd hr I1.env0 b r q) fun rr s' hq => ?_)
  cases rr with
  | error er => exact hx pins σ H1 s1 er s' I1 hq
  | ok fl =>
    cases fl with
    | ret u => exact I1.after hq
    | next => exact hq.elim
    | brk => exact hq.elim
    | cont => exact hq.elim
end
/-! ### the law's end over such a promise -/
theorem glaw_call {P : Program} {w : World} {K : PySem.W.Frag} {mg mb : Str → Option Value} {CX : CXT} {k : Nat} {fa a : Addr} {fd : FuncData} {x : Str} {sp : Sp} {t : Shared} {vs : List Value} {ns : List Int}
    (kin : K.In t.heap) (nsm : t.heap.Ns mainGlobals mg) (nsb : t.heap.Ns builtinsNs mb) (hbb : ∀ x : Str, x ≠ "__name__" → mb x = bootBuiltins x) (nolim : t.heap.NoLimit) (nogen : t.gens = #[])
    (obj : t.heap.get? a = some { cls := .type "list", data := .seq vs.toArray }) (hints : IntsAre vs ns) (hl : ns.length ≤ sizeLine) (room : Room k callerA)
    (F : ∀ base : Heap, K.In base → base.Ns mainGlobals mg → GOk P w K mg base CX k fa fd [x] sp) (bnd : ∀ (s : Shared) (u : Value), BindsTo s fd ⟨[u], []⟩ [(x, u)])
    (want : ∀ H : Hp, Only H → SqL K H a (ns.map V.int) → sp [.ref a] H (fun v _ => v = .bl true) fun _ _ _ => False)
    (noX : ∀ H e s', CX [] H t (fun _ _ _ => False) e s' → False) :
    codeAny (model P w) callerA (.call (.ref fa) ⟨[.ref a], []⟩) (fun r s' => r = .ok (.ret (.bool true)) ∧ OldK t.heap s'.heap ∧ s'.os = t.os ∧ AllBare s'.gens) t := by
  have rv := vals_ints hints
  have hlv := hints.length
  have main : ∀ H : Hp, Only H → SqL K H a (ns.map V.int) → HOk P w H t.heap → (∀ b, H b ≠ none → b = a) → (H a ≠ none → K.lookup a = none) →
      codeAny (model P w) callerA (.call (.ref fa) ⟨[.ref a], []⟩) (fun r s' => r = .ok (.ret (.bool true)) ∧ OldK t.heap s'.heap ∧ s'.os = t.os ∧ AllBare s'.gens) t := by
    intro H only hS ok onlyA hK
    have noD : ∀ {b : Addr} {o : Obj} {es : Array DictEntry} {ep : Nat}, t.heap.get? b = some o → o.data = .dict es ep → H b = none := by
      intro b o es ep e d
      cases q : H b with
      | none => rfl
      | some u =>
        have z := onlyA b (by rw [q]; exact Option.some_ne_none u)
        subst z
        rw [obj] at e
        cases e
        cases d
    have nsH : ∀ {b : Addr} {m : Str → Option Value}, t.heap.Ns b m → (hidT t.heap H).Ns b m := by
      rintro b m ⟨o, es, ep, e, d, r⟩
      exact ⟨o, es, ep, hidT_get e (noD e d), d, r⟩
    have kinH : K.In (hidT t.heap H) := by
      intro b o e
      refine hidT_get (kin b o e) ?_
      cases q : H b with
      | none => rfl
      | some u =>
        have z := onlyA b (by rw [q]; exact Option.some_ne_none u)
        subst z
        rw [hK (by rw [q]; exact Option.some_ne_none u)] at e
        cases e
    have md : Mod K mg (hidT t.heap H) := by
      refine ⟨kinH, nsH nsm, ⟨mb, nsH nsb, hbb⟩, ?_⟩
      obtain ⟨mc, h1, h2⟩ := nolim
      exact ⟨mc, nsH h1, h2⟩
    have env : Env0 P w K mg (hidT t.heap H) callerA [] t H :=
      ⟨rfl, md, fun b o e => of_hidT e, Nat.le_of_eq (hidT_size _ _), trivial, fun b hb => (List.not_mem_nil (show b ∈ ([] : List Addr) from hb)).elim, ok, .of_eq nogen⟩
    refine codeAny_mono ((F _ kinH (nsH nsm)).run callerA [] t H ⟨[.ref a], []⟩ [.ref a] [.ref a] _ _ rfl room env (bnd t (.ref a)) (.cons rfl .nil) (want H only hS)) fun r s' h => ?_
    cases r with
    | error e => exact (noX H e s' h).elim
    | ok fl =>
      cases fl with
      | next => exact h.elim
      | brk => exact h.elim
      | cont => exact h.elim
      | ret u =>
        obtain ⟨v, H', os, bare, un, ok', r', q⟩ := h
        have q' : v = .bl true := q
        subst q'
        cases r'
        refine ⟨rfl, OldK.of_keep fun b o e => ?_, os, bare⟩
        cases q : H b with
        | none => exact un.keep b o e q (fun z => (List.not_mem_nil (show b ∈ ([] : List Addr) from z)).elim) List.not_mem_nil
        | some u =>
          rcases only b with z | ⟨ob, xs, z⟩
          · rw [q] at z
            cases z
          · obtain ⟨e1, _⟩ := ok b _ z
            obtain ⟨e2, _⟩ := ok' b _ (un.frzs b ob _ z)
            rw [e] at e1
            cases e1
            exact e2
  cases hk : K.lookup a with
  | some o =>
    have e := kin a o hk
    rw [obj] at e
    cases e
    refine main (fun _ => none) (fun _ => .inl rfl) (.inr ⟨_, vs.toArray, _, hk, rfl, rfl, rfl, ?_, by simpa using rv⟩) (fun b u z => by cases (show (none : Option HO) = some u from z)) (fun b z => absurd rfl z) fun z => absurd rfl z
    rw [List.size_toArray, hlv]
    exact hl
  | none =>
    refine main (fun b => if b = a then some (.frz { cls := .type "list", data := .seq vs.toArray } (.lst (ns.map V.int))) else none) (fun b => ?_) (.inl (.inr ⟨_, if_pos rfl⟩)) (fun b u z => ?_) (fun b z => ?_) fun _ => hk
    · by_cases hb : b = a
      · exact .inr ⟨_, _, if_pos hb⟩
      · exact .inl (if_neg hb)
    · by_cases hb : b = a
      · have z' := (if_pos hb).symm.trans z
        cases z'
        subst hb
        exact ⟨obj, by rw [List.length_map]; exact hl, vs, _, rv, obj⟩
      · have z' := (if_neg hb).symm.trans z
        cases z'
    · by_cases hb : b = a
      · exact hb
      · exact absurd (if_neg hb) z
theorem gwalk_of {l : PySem.W.OpenLaw} {n k : Nat} {q : Program} {loose : List Str} {XP : (Str → Option Value) → Heap → Prop} {YP : World → Heap → Prop} {d : DefRec} {K : Params → PySem.W.Frag} {CX : World → CXT} {sp : World → Sp} {x : Str}
    (hn : l.most = some n) (hn2 : n ≤ sizeLine) (hdf : d.params.defaults = []) (hr : Room k callerA) (hY : ∀ (w : World) (h : Heap), YP w h → (K w.params).In h)
    (F : ∀ (w : World) (mg : Str → Option Value) (fa : Addr) (h : Heap), (K w.params).In h → h.Ns mainGlobals mg → mg d.name = some (.ref fa) →
      ∃ fd : FuncData, (∀ (s : Shared) (u : Value), BindsTo s fd ⟨[u], []⟩ [(x, u)]) ∧ ∀ base : Heap, (K w.params).In base → base.Ns mainGlobals mg → GOk l.prog w (K w.params) mg base (CX w) k fa fd [x] (sp w))
    (hsp : ∀ (w : World) (H : Hp) (a : Addr) (ns : List Int), ns.length ≤ n → Only H → SqL (K w.params) H a (ns.map V.int) → sp w [.ref a] H (fun v _ => v = .bl true) fun _ _ _ => False)
    (hCX : ∀ (w : World) (H : Hp) (s : Shared) (e : Value) (s' : Shared), CX w [] H s (fun _ _ _ => False) e s' → False) : PySem.W.WalkO q loose XP YP l.row.toRowW d [] (fun f vs => PySem.call f vs) := by
  refine Att.attach_call hn hdf fun w s0 s1 mg mb fa o pm cd doc a vs ns G Y ho hd hcd hmg hobj hints hlen hg => ?_
  obtain ⟨fd, hb, hF⟩ := F w mg fa _ (hY w _ Y) G.T.g hmg
  exact glaw_call (hY w _ Y) G.T.g G.T.b G.T.builtins G.T.nolimit hg hobj hints (Nat.le_trans hlen hn2) hr hF hb (fun H hO hS => hsp w H a ns hlen hO hS) fun H e s' => hCX w H s1 e s'
/-! ### text * int -/
theorem fold_toList : ∀ (l : List (Array Nat)) (acc : Array Nat), (l.foldl (· ++ ·) acc).toList = acc.toList ++ (l.map Array.toList).flatten
  | [], acc => by simp
  | x :: l, acc => by
    rw [List.foldl_cons, fold_toList l]
    simp
theorem mul_tl (z : Str) (n : Nat) : (Txt.mul z (n : Int)).cps.toList = (List.replicate n z.cps.toList).flatten := by
  unfold Txt.mul
  by_cases h1 : (n : Int) < 1
  · have e : n = 0 := by omega
    subst e
    rw [if_pos h1]
    rfl
  · rw [if_neg h1]
    by_cases h2 : ((n : Int) == 1 || z.length == 0) = true
    · rw [if_pos h2]
      rcases Bool.or_eq_true_iff.mp h2 with e | e
      · have e1 : n = 1 := by
          have := eq_of_beq e
          omega
        subst e1
        simp
      · have e1 : z.cps.toList = [] := List.length_eq_zero_iff.mp (by
          have := eq_of_beq e
          simpa [Str.length] using this)
        rw [e1]
        simp
    · rw [if_neg h2]
      show ((List.replicate (n : Int).toNat z.cps).foldl (· ++ ·) #[]).toList = _
      rw [fold_toList, Int.toNat_natCast, List.map_replicate]
      rfl
theorem op_mul_str {X : Cx} : OpR X (binaryOp .Mult) (fun x y H Q => ∃ (z : Str) (n : Nat), x = .str z ∧ y = .int (n : Int) ∧ n ≤ 1000 ∧ z.length ≤ 1000 ∧ ∀ y : Str, y.length = z.length * n → (∀ c ∈ y.cps.toList, c ∈ z.cps.toList) → Q (.str y) H) := by
  intro pins s σ H x y v u Q I rx ry h
  obtain ⟨z, n, rfl, rfl, hn, hz, q⟩ := h
  obtain ⟨tx, rfl⟩ := rx
  obtain ⟨ty, rfl⟩ := ry
  have pw : z.length * n ≤ 1000000 := Nat.le_trans (Nat.mul_le_mul hz hn) (by decide)
  refine PySem.SB.mul ⟨?_, fun h1 h2 => ?_, fun h1 h2 => ?_⟩ fun t' k => ⟨.str _, H, I.tok k, ⟨t', rfl⟩, q _ ?_ ?_⟩
  · rw [decide_eq_false (by omega), decide_eq_false (by omega)]
    rfl
  · have e : (1000 : Int) ≤ (2 ^ 63 - 1) / (n : Int) := by
      have h3 : (0 : Int) < n := by omega
      exact (Int.le_ediv_iff_mul_le h3).mpr (by omega)
    omega
  · rw [Int.toNat_natCast]
    exact decide_eq_false (by show ¬ sizeLine < _; have : sizeLine = 16777216 := sizeLine_eq; omega)
  · rw [TL.len_tl, TL.len_tl z]
    show (Txt.mul z (n : Int)).cps.toList.length = _
    rw [mul_tl]
    simp [Nat.mul_comm]
  · intro c hc
    rw [mul_tl] at hc
    obtain ⟨l, hl, hcl⟩ := List.mem_flatten.mp hc
    rw [(List.mem_replicate.mp hl).2] at hcl
    exact hcl
/-! ### repr of a list -/
/-- a value and the data that it is: as in Dp, and dicts of none or one text with an int -/
inductive Itm (K : PySem.W.Frag) (H : Hp) : V → PyData → Prop
  | dp {v : V} {d : PyData} (h : Dp K H v d) (nd : d.hasDict = false) : Itm K H v d
  | d0 {a : Addr} (h : H a = some (.dK [])) : Itm K H (.ref a) (.dict [])
  | d1 {a : Addr} {x : Str} {i : Int} (h : H a = some (.dK [(Sum.inr x, .int i)])) : Itm K H (.ref a) (.dict [(.str x, .int i)])
inductive ItmAll (K : PySem.W.Frag) (H : Hp) : List V → List PyData → Prop
  | nil : ItmAll K H [] []
  | cons {v : V} {vs : List V} {d : PyData} {ds : List PyData} : Itm K H v d → ItmAll K H vs ds → ItmAll K H (v :: vs) (d :: ds)
section
variable {X : Cx} {pins : List (Addr × Obj)} {σ : L2.St} {H : Hp} {s : Shared}
theorem Itm.reads (I : Inv X pins σ H s) {v : V} {u : Value} {d : PyData} (h : Itm X.K H v d) (r : RelV v u) : ∃ as, Reads s.heap u d as ∧ (d.hasDict = true → sysModules ∉ as) := by
  cases h with
  | dp h nd =>
    obtain ⟨as, q⟩ := Dp.reads I d v u h r
    exact ⟨as, q, fun z => by rw [nd] at z; cases z⟩
  | @d0 a h =>
    cases r
    obtain ⟨_, ns, vs, kv, o, es, ep, ho, hx, hd, hk, hp, _⟩ := I.hok _ _ h
    cases kv
    generalize hl : es.toList = l at hp
    cases hp
    refine ⟨_, Reads.dict (kvs := []) (as := []) (bs := []) ho hx.1 hd (by rw [hl]; exact .nil) (by rw [hl]; exact .nil), fun _ => ?_⟩
    intro hm
    rcases List.mem_cons.mp hm with e | e
    · rw [← e] at ns
      exact absurd ns (by decide)
    · cases e
  | @d1 a x i h =>
    cases r
    obtain ⟨_, ns, vs, kv, o, es, ep, ho, hx, hd, hk, hp, _⟩ := I.hok _ _ h
    cases kv with
    | cons h1 h2 =>
      cases h2
      obtain ⟨e1, t, e2⟩ := h1
      rename_i b nd2
      obtain ⟨b1, b2⟩ := b
      dsimp only at e1 e2
      subst e1 e2
      generalize hl : es.toList = l at hp
      cases hp with
      | cons k1 k2 k3 =>
        cases k3
        rename_i en
        obtain ⟨hh, ky, vl⟩ := en
        dsimp only at k1 k2
        subst k2
        have k1' : keyIs (Sum.inr x) ky = true := k1
        rcases keyIs_shape k1' with ⟨j, t', z, _⟩ | ⟨y, t', z, rfl⟩
        · cases z
        · cases z
          refine ⟨_, Reads.dict (kvs := [(.str x, .int i)]) ho hx.1 hd (by rw [hl]; exact .cons (.str x t') .nil) (by rw [hl]; exact .cons (.int i t) .nil), fun _ => ?_⟩
          intro hm
          rcases List.mem_cons.mp hm with e | e
          · rw [← e] at ns
            exact absurd ns (by decide)
          · cases e
theorem ItmAll.all (I : Inv X pins σ H s) : ∀ {vs : List V} {ds : List PyData} {us : List Value}, ItmAll X.K H vs ds → Vals vs us → PyData.showableAll ds = true → (∀ t ∈ PyData.shownAll ds, t.length ≤ sizeLine) →
    (∃ as, ReadsAll s.heap us ds as) ∧ ∃ bs, ReadAtMost s.heap (PyData.depthAll ds) bs ∧ ReprAllK X.prog X.w bs s.heap (PyData.depthAll ds) us (PyData.shownAll ds)
  | _, _, _, .nil, .nil, _, _ => ⟨⟨_, .nil⟩, [], (fun _ h => nomatch h), by simp only [PyData.shownAll]; exact .nil⟩
  | _, _, _, .cons (d := d) (ds := ds) h1 h2, .cons r1 r2, hs, hz => by
    have hs' : d.showable = true ∧ PyData.showableAll ds = true := by simpa [PyData.showableAll] using hs
    obtain ⟨as, q, nq⟩ := h1.reads I r1
    obtain ⟨⟨as2, q2⟩, bs2, b2, k2⟩ := ItmAll.all I h2 r2 hs'.2 (fun t ht => hz t (by simp only [PyData.shownAll]; exact List.mem_cons_of_mem _ ht))
    obtain ⟨bs1, b1, k1⟩ := ReprK.of_reads (prog := X.prog) (w := X.w) q hs'.1 nq (hz _ (by simp only [PyData.shownAll]; exact List.mem_cons_self ..))
    refine ⟨⟨_, .cons q q2⟩, bs1 ++ bs2, ?_, ?_⟩
    · have e1 : d.depth ≤ PyData.depthAll (d :: ds) := by simp only [PyData.depthAll]; omega
      have e2 : PyData.depthAll ds ≤ PyData.depthAll (d :: ds) := by simp only [PyData.depthAll]; omega
      exact (b1.mono e1).append (b2.mono e2)
    · have e1 : d.depth ≤ PyData.depthAll (d :: ds) := by simp only [PyData.depthAll]; omega
      have e2 : PyData.depthAll ds ≤ PyData.depthAll (d :: ds) := by simp only [PyData.depthAll]; omega
      simp only [PyData.shownAll]
      exact .cons ((k1.more fun b hb => List.mem_append_left _ hb).level_le e1) (k2.more_le (fun b hb => List.mem_append_right _ hb) e2)
/-- repr(l) -/
def rRepr (K : PySem.W.Frag) : List V → Hp → VK → Prop := fun xs H Q => ∃ (a : Addr) (vs : List V) (ds : List PyData), xs = [.ref a] ∧ SqL K H a vs ∧ vs ≠ [] ∧ ItmAll K H vs ds ∧ PyData.showableAll ds = true ∧ PyData.depthAll ds ≤ 8 ∧
  (listText (PyData.shownAll ds)).length ≤ sizeLine ∧ Q (.str (listText (PyData.shownAll ds))) H
end
theorem call_repr_l {X : Cx} (hg : X.A.guards = some []) (hu : X.A.units + 16 < cLine) : CallR X (.builtin "repr") (rRepr X.K) := by
  intro pins s σ H xs us Q I r h
  obtain ⟨a, vs, ds, rfl, hS, hne, hI, hs, hdp, hz, q⟩ := h
  cases r with
  | cons ra rr =>
    cases rr
    cases ra
    obtain ⟨its, rv, ⟨o, n, ho, hc, hdx, hd⟩, _⟩ := I.list hS
    obtain ⟨⟨as, hr⟩, bs, hb, hk⟩ := ItmAll.all I hI rv hs (fun t ht => Nat.le_trans (listText_mem_le ht) hz)
    cases its with
    | nil =>
      cases rv
      exact absurd rfl hne
    | cons x l =>
      have rd : Reads s.heap (.ref a) (.list ds) _ := Reads.list ho hc hd hr
      have hna : a ∉ bs := not_mem_of_deeper rd (by simp only [PyData.depth]; omega) hb
      refine call_repr_slot (T := "list") (idr := "list.__repr__") (by omega) ⟨o, ho, hc⟩ F.slot_list_repr.toG ?_
      exact call_list_reprK (h₀ := s.heap) (as := bs) ho hc hd hna (by simpa using hk.length_eq) (fun i y e => hk.item i y (by simpa using e)) (g := []) hg (fun b _ => Clear.nil b) (by show X.A.units + 1 + (_ + 1) < cLine; omega) (fun _ _ e => e)
        (fun h' u tk hkp => ⟨_, _, rfl, .str _, H, I.kept (t' := tk) hkp, ⟨u, rfl⟩, q⟩) hz
end WG

set_option Elab.async false
set_option linter.all false
set_option maxRecDepth 100000
set_option maxHeartbeats 4000000
namespace WG
open PySem PySem.Spec PySem.Calls PyProof.Rows PySem.W
section
variable {prog : Program} {w : World} {A : Around} {E : Value → Shared → Prop} {s : Shared} {K : Frag} {x D : Addr} {ox : Obj} {od : Option Obj}
theorem find_dat {C : Addr} {name : Str} {a g : Value} (hc : (clsIn K C).isSome = true) (ha : findIn K (.ref C) name = some (some a)) (hg : specialIn K a "__get__" = some (some g)) (ht : takesIn K a = some true) :
    findObj K C od name = some (.bind g a) := by
  obtain ⟨cd, hcd⟩ := Option.isSome_iff_exists.mp hc
  unfold findObj
  rw [hcd, Option.bind_some, ha, Option.bind_some]
  simp [hg, ht]
theorem exc_class {Q : Option Value → Shared → Prop} (c : L2.ExcC K D) (kin : K.In s.heap) (at0 : InstAt s.heap x ox D od) (h : Q (some (.ref D)) { s with toks := s.toks + 1 }) : wpAny (model prog w) A (getAttr? (.ref x) "__class__") Q E s := by
  have hf : findObj K D od "__class__" = some (.bind (.builtin "getset_descriptor.__get__") (.builtin "object.__class__")) := by
    refine find_dat ?_ c.ha c.hn c.ht
    obtain ⟨cd, hcd, _⟩ := any_some c.hd
    rw [hcd] <;> rfl
  obtain ⟨hh, gs, dr, tk, os⟩ := s
  have t0 := at0.type (M := model prog w)
  have t1 := looks_findIn (M := model prog w) kin c.hg
  have t2 := looks_findIn (M := model prog w) kin c.hk
  have t3 := looks_find (M := model prog w) kin at0 hf
  have isb : Looks (model prog w) hh (isInstance (.ref x) (.type "BaseException")) true := t0.andThen (looks_subIn kin c.hs)
  have z0 : (false && onTheHeap (Value.builtin "BaseException.__getattribute__")) = false := rfl
  have z2 : (Value.builtin "BaseException.__getattribute__" == Value.builtin "object.__getattribute__") = false := by decide +kernel
  have z1 : (onTheHeap (Value.ref D) && Value.builtin "BaseException.__getattribute__" == Value.builtin "object.__getattribute__") = false := by
    rw [z2]
    rfl
  unfold getAttr? getAttrBy? getAttrBy
  refine wpAny_bind (wpAny_mkText (wpAny_bind (wpAny_attempt (wpAny_holding (wpAny_bind (t0.at (wpAny_bind (t1.at ?_))))))))
  show wpAny _ _ (if (onTheHeap (Value.ref D) && Value.builtin "BaseException.__getattribute__" == Value.builtin "object.__getattribute__") = true then _ else _) _ _ _
  rw [z1, if_neg Bool.false_ne_true]
  unfold getAttrByItsOwn hookBefore
  refine wpAny_bind ?_
  rw [if_pos (show onTheHeap (Value.ref D) = true from rfl)]
  refine t2.at (wpAny_bind (wpAny_attempt (wpAny_holding ?_)))
  unfold callGetattribute
  rw [z0, if_neg Bool.false_ne_true]
  unfold boundAndCalled
  rw [PySem.F.excAttr_ValueError.ga.bind (.ref x)]
  refine wpAny_bind (wpAny_pure ?_)
  show wpAny _ _ (call (.builtin "BaseException.__getattribute__") [.ref x, .str "__class__" tk]) _ _ _
  refine wpAny_call (codeAny_call_builtin PySem.F.excAttr_ValueError.ga.plain PySem.F.entry_bexc_ga ?_)
  refine @check_slot (model prog w) _ _ ⟨hh, gs, dr, tk + 1, os⟩ "BaseException.__getattribute__" "BaseException" "__getattribute__" (.ref x) [.str "__class__" tk] [] _ (by decide +kernel) (by decide +kernel) isb (PySem.F.args_bexc_ga (.ref x) (.str "__class__" tk)) ?_
  unfold Builtin.«object.__getattribute__»
  refine wpAny_bind (wpAny_of_eq (a := ((Value.ref x : Value), [Value.str "__class__" tk])) (by first | rfl | (simp only [slotArgs]; rfl)) ?_)
  refine wpAny_bind (wpAny_pure (wpAny_bind (t0.at (wpAny_bind (t3.at ?_)))))
  show wpAny _ _ (holding [Value.builtin "object.__class__"] (call (.builtin "getset_descriptor.__get__") [.builtin "object.__class__", .ref x, .ref D]) >>= ret) _ _ _
  refine wpAny_bind (wpAny_holding (wpAny_call (class_get (s := ⟨hh, gs, dr, tk + 1, os⟩) (ox := ox) (od := od) kin at0 c.hm ?_)))
  refine wpAny_pure ?_
  show wpAny _ _ (handedOut (.ref D)) _ _ _
  rw [handedOut_of (v := .ref D) rfl]
  first
    | exact wpAny_pure (wpAny_pure h)
    | exact wpAny_pure h
    | exact wpAny_pure (wpAny_bind (wpAny_pure (wpAny_pure h)))
theorem kit_exc (c : L2.ExcC K D) : KitX K (.ref x) (.ref D) (fun h => InstAt h x ox D od) := by
  obtain ⟨cd, hcd, _⟩ := any_some c.hd
  obtain ⟨o, ho, hdo⟩ : ∃ o, K.lookup D = some o ∧ o.data = .cls cd := by
    unfold clsIn at hcd
    split at hcd
    · rename_i c' d' cd' sl' hk
      cases hcd
      exact ⟨_, hk, rfl⟩
    · cases hcd
  obtain ⟨oc, odd, oda, osl⟩ := o
  dsimp only at hdo
  subst hdo
  refine { ty := fun _ _ _ J => J.type, it := fun _ _ kin _ => ?_, ne := fun h tp dd its n sl kin htp => ?_, ca := fun kin J k => exc_class c kin J k }
  · intro A' Q' E' s' kp q
    unfold isType loadHead
    exact wpAny_bind (wpAny_loadPart (kp _ _ (kin _ _ ho)) (wpAny_pure q))
  · refine Bool.eq_false_iff.mpr fun q => ?_
    have e : D = tp := Value.ref.inj (beq_iff_eq.mp q)
    subst e
    have z := (kin _ _ ho).symm.trans htp
    cases z
end
end WG
namespace WG
open PySem PySem.Spec PyProof.Rows L2
/-- isinstance(e, c), e the caught exception at a with its own dict -/
def rIsD (K : PySem.W.Frag) (a : Addr) (cls : Value) (d : Option Addr) : List V → Hp → VK → Prop := fun xs H Q => ∃ (D dd : Addr) (fs : List (Str × V)) (c : V) (cv : Value) (b : Bool), cls = .ref D ∧ d = some dd ∧ H dd = some (.xd fs) ∧ ExcC K D ∧
  xs = [.ref a, c] ∧ (∀ u, RelV c u → u = cv) ∧ PySem.W.kitOne K (.ref D) cv = some b ∧ Q (.bl b) H
theorem call_isD {X : Cx} {a : Addr} {oe : Obj} {cls : Value} {d : Option Addr} {pn : List (Addr × Obj)} (hz : Zc cls d oe) (hf : ∃ vs, oe.data = .fields vs) : CallR (X.suite a ((a, oe) :: pn)) (.builtin "isinstance") (rIsD X.K a cls d) := by
  intro pins s σ H xs us Q I r h
  obtain ⟨D, dd, fs, cl, cv, b, rfl, rfl, hx, c, rfl, hcv, e, q⟩ := h
  cases r with
  | cons rx rr =>
    cases rr with
    | cons rt rr =>
      cases rr
      cases rx
      have ec := hcv _ rt
      subst ec
      obtain ⟨hget, _⟩ := I.pin (a, oe) (List.mem_append.mpr (.inl List.mem_cons_self))
      obtain ⟨vs, hv⟩ := hf
      obtain ⟨mA, hns, _⟩ := I.hok dd _ hx
      obtain ⟨od, ho, _⟩ := lookIn_ns hns
      have J : PySem.W.InstAt s.heap a oe D (some od) := ⟨hget, hz.1, by unfold PySem.W.notCls; rw [hv] <;> rfl, by rw [hz.2]; exact ho⟩
      exact PySem.W.kia_one (kit_exc c) I.kIn J e (fun z => nomatch z) fun tk => ⟨.bl b, H, I.kept (t' := tk) fun _ _ z => z, rfl, q⟩
end WG

set_option Elab.async false
set_option linter.all false
set_option maxRecDepth 100000
set_option maxHeartbeats 4000000
namespace WG
open PySem PySem.Spec PyProof.Rows L2
/-! ### the law's end where one table of code objects may grow -/
def OnlyT (T : Addr) (H : Hp) : Prop := ∀ b, H b = none ∨ b = T ∨ ∃ o xs, H b = some (.frz o (.lst xs))
theorem glaw_callT {P : Program} {w : World} {K : PySem.W.Frag} {mg mb : Str → Option Value} {CX : CXT} {k : Nat} {fa a c T : Addr} {fd : FuncData} {x : Str} {sp : Sp} {t : Shared} {vs : List Value} {ns : List Int}
    (kin : K.In t.heap) (nsm : t.heap.Ns mainGlobals mg) (nsb : t.heap.Ns builtinsNs mb) (hbb : ∀ x : Str, x ≠ "__name__" → mb x = bootBuiltins x) (nolim : t.heap.NoLimit) (nogen : t.gens = #[])
    (tab : t.heap.get? T = some { cls := .none, data := .fields #[] }) (tabK : K.lookup T = none) (head : PySem.W.CodeHd t.heap c T)
    (blt : ∃ (bm : Addr) (ob : Obj), mg "__builtins__" = some (.ref bm) ∧ bm ≠ builtinsNs ∧ t.heap.get? bm = some ob ∧ ob.cls = .type "module" ∧ ob.dict = some builtinsNs ∧ ob.data = .plain)
    (obj : t.heap.get? a = some { cls := .type "list", data := .seq vs.toArray }) (hints : IntsAre vs ns) (hl : ns.length ≤ sizeLine) (room : Room k callerA)
    (F : ∀ base : Heap, K.In base → base.Ns mainGlobals mg → LamX.TabB base mg c T → GOk P w K mg base CX k fa fd [x] sp) (bnd : ∀ (s : Shared) (u : Value), BindsTo s fd ⟨[u], []⟩ [(x, u)])
    (want : ∀ H : Hp, H T = some (.tbl #[]) → SqL K H a (ns.map V.int) → sp [.ref a] H (fun v _ => v = .bl true) fun _ _ _ => False)
    (noX : ∀ H e s', CX [] H t (fun _ _ _ => False) e s' → False) :
    codeAny (model P w) callerA (.call (.ref fa) ⟨[.ref a], []⟩) (fun r s' => r = .ok (.ret (.bool true)) ∧ OldK t.heap s'.heap ∧ s'.os = t.os ∧ AllBare s'.gens) t := by
  have rv := vals_ints hints
  have hlv := hints.length
  have apart : T ≠ a := fun z => by
    rw [z, obj] at tab
    have q := congrArg Obj.data (Option.some.inj tab)
    have q' : Data.seq vs.toArray _ = Data.fields #[] := q
    cases q'
  have main : ∀ H : Hp, H T = some (.tbl #[]) → OnlyT T H → SqL K H a (ns.map V.int) → HOk P w H t.heap → (∀ b, H b ≠ none → b = a ∨ b = T) → (H a ≠ none → K.lookup a = none) →
      codeAny (model P w) callerA (.call (.ref fa) ⟨[.ref a], []⟩) (fun r s' => r = .ok (.ret (.bool true)) ∧ OldK t.heap s'.heap ∧ s'.os = t.os ∧ AllBare s'.gens) t := by
    intro H hT only hS ok onlyA hK
    have other : ∀ {b : Addr} {o : Obj}, t.heap.get? b = some o → (∀ us n, o.data ≠ .seq us n) → o.data ≠ .fields #[] → H b = none := by
      intro b o e n1 n2
      cases q : H b with
      | none => rfl
      | some u =>
        cases onlyA b (by rw [q]; exact Option.some_ne_none u) with
        | inl z =>
          subst z
          rw [obj] at e
          cases e
          exact absurd rfl (n1 _ _)
        | inr z =>
          subst z
          rw [tab] at e
          cases e
          exact absurd rfl n2
    have noD : ∀ {b : Addr} {o : Obj} {es : Array DictEntry} {ep : Nat}, t.heap.get? b = some o → o.data = .dict es ep → H b = none := by
      intro b o es ep e d
      exact other e (fun us n z => by rw [d] at z; cases z) (fun z => by rw [d] at z; cases z)
    have nsH : ∀ {b : Addr} {m : Str → Option Value}, t.heap.Ns b m → (hidT t.heap H).Ns b m := by
      rintro b m ⟨o, es, ep, e, d, r⟩
      exact ⟨o, es, ep, hidT_get e (noD e d), d, r⟩
    have kinH : K.In (hidT t.heap H) := by
      intro b o e
      refine hidT_get (kin b o e) ?_
      cases q : H b with
      | none => rfl
      | some u =>
        cases onlyA b (by rw [q]; exact Option.some_ne_none u) with
        | inl z =>
          subst z
          rw [hK (by rw [q]; exact Option.some_ne_none u)] at e
          cases e
        | inr z =>
          subst z
          rw [tabK] at e
          cases e
    have md : Mod K mg (hidT t.heap H) := by
      refine ⟨kinH, nsH nsm, ⟨mb, nsH nsb, hbb⟩, ?_⟩
      obtain ⟨mc, h1, h2⟩ := nolim
      exact ⟨mc, nsH h1, h2⟩
    have tabB : LamX.TabB (hidT t.heap H) mg c T := by
      constructor
      · obtain ⟨o, us, file, tf, flags, tg, inF, text, tt, e1, r1, r2, r3, rest⟩ := head
        refine ⟨o, us, file, tf, flags, tg, inF, text, tt, hidT_get e1 (other e1 (fun us n z => ?_) fun z => ?_), r1, r2, r3, rest⟩
        · rw [r2] at z
          cases z
        · rw [r2] at z
          cases z
          simp at r3
      · obtain ⟨bm, ob, b1, b2, b3, b4, b5, b6⟩ := blt
        refine ⟨bm, ob, b1, b2, fun q => ?_, fun q => ?_, hidT_get b3 (other b3 (fun us n z => ?_) fun z => ?_), b4, b5, b6⟩
        · obtain ⟨o, es, ep, e, hd, _⟩ := nsm
          rw [q, e] at b3
          cases b3
          rw [hd] at b6
          cases b6
        · rw [q, tab] at b3
          cases b3
          cases b6
        · rw [b6] at z
          cases z
        · rw [b6] at z
          cases z
      · intro z
        obtain ⟨o, es, ep, e, hd, _⟩ := nsm
        rw [z, tab] at e
        cases e
        cases hd
    have env : Env0 P w K mg (hidT t.heap H) callerA [] t H :=
      ⟨rfl, md, fun b o e => of_hidT e, Nat.le_of_eq (hidT_size _ _), trivial, fun b hb => (List.not_mem_nil (show b ∈ ([] : List Addr) from hb)).elim, ok, .of_eq nogen⟩
    refine codeAny_mono ((F _ kinH (nsH nsm) tabB).run callerA [] t H ⟨[.ref a], []⟩ [.ref a] [.ref a] _ _ rfl room env (bnd t (.ref a)) (.cons rfl .nil) (want H hT hS)) fun r s' h => ?_
    cases r with
    | error e => exact (noX H e s' h).elim
    | ok fl =>
      cases fl with
      | next => exact h.elim
      | brk => exact h.elim
      | cont => exact h.elim
      | ret u =>
        obtain ⟨v, H', os, bare, un, ok', r', q⟩ := h
        have q' : v = .bl true := q
        subst q'
        cases r'
        have rest : ∀ b o, b ≠ T → t.heap.get? b = some o → s'.heap.get? b = some o := by
          intro b o nb e
          cases q : H b with
          | none => exact un.keep b o e q (fun z => (List.not_mem_nil (show b ∈ ([] : List Addr) from z)).elim) List.not_mem_nil
          | some u =>
            rcases only b with z | z | ⟨ob, xs, z⟩
            · rw [q] at z
              cases z
            · exact absurd z nb
            · obtain ⟨e1, _⟩ := ok b _ z
              obtain ⟨e2, _⟩ := ok' b _ (un.frzs b ob _ z)
              rw [e] at e1
              cases e1
              exact e2
        obtain ⟨more, zT⟩ := un.tbls T #[] hT
        have grown : s'.heap.get? T = some { cls := .none, data := .fields (#[] ++ more) } := ok' T _ zT
        refine ⟨rfl, ⟨fun b o e => ?_, fun b o e => ?_⟩, os, bare⟩
        · by_cases hb : b = T
          · subst hb
            rw [tab] at e
            cases e
            exact .inr (.inl ⟨(head.tab tab).isCodeTable, rfl, #[], more, rfl, grown⟩)
          · exact .inl (rest b o hb e)
        · by_cases hb : b = T
          · subst hb
            exact ⟨_, grown⟩
          · exact ⟨o, rest b o hb e⟩
  cases hk : K.lookup a with
  | some o =>
    have e := kin a o hk
    rw [obj] at e
    cases e
    refine main (fun b => if b = T then some (.tbl #[]) else none) (if_pos rfl) (fun b => ?_) (.inr ⟨_, vs.toArray, _, hk, rfl, rfl, rfl, ?_, by simpa using rv⟩) (fun b u z => ?_) (fun b z => ?_) fun z => absurd (if_neg (fun q => apart q.symm)) z
    · by_cases hb : b = T
      · exact .inr (.inl hb)
      · exact .inl (if_neg hb)
    · rw [List.size_toArray, hlv]
      exact hl
    · by_cases hb : b = T
      · have z' := (if_pos hb).symm.trans z
        cases z'
        rw [hb]
        exact tab
      · have z' := (if_neg hb).symm.trans z
        cases z'
    · by_cases hb : b = T
      · exact .inr hb
      · exact absurd (if_neg hb) z
  | none =>
    refine main (fun b => if b = a then some (.frz { cls := .type "list", data := .seq vs.toArray } (.lst (ns.map V.int))) else if b = T then some (.tbl #[]) else none) ((if_neg apart).trans (if_pos rfl)) (fun b => ?_) (.inl (.inr ⟨_, if_pos rfl⟩)) (fun b u z => ?_) (fun b z => ?_) fun _ => hk
    · by_cases hb : b = a
      · exact .inr (.inr ⟨_, _, if_pos hb⟩)
      · by_cases hT : b = T
        · exact .inr (.inl hT)
        · exact .inl ((if_neg hb).trans (if_neg hT))
    · by_cases hb : b = a
      · have z' := (if_pos hb).symm.trans z
        cases z'
        subst hb
        exact ⟨obj, by rw [List.length_map]; exact hl, vs, _, rv, obj⟩
      · have z1 := (if_neg hb).symm.trans z
        by_cases hT : b = T
        · have z' := (if_pos hT).symm.trans z1
          cases z'
          rw [hT]
          exact tab
        · have z' := (if_neg hT).symm.trans z1
          cases z'
    · by_cases hb : b = a
      · exact .inl hb
      · by_cases hT : b = T
        · exact .inr hT
        · exact absurd ((if_neg hb).trans (if_neg hT)) z
theorem gwalk_ofT {l : PySem.W.OpenLaw} {n k : Nat} {q : Program} {loose : List Str} {XP : (Str → Option Value) → Heap → Prop} {YP : World → Heap → Prop} {d : DefRec} {K : Params → PySem.W.Frag} {CX : World → CXT} {sp : World → Addr → Sp} {x : Str} {T : Addr}
    (hn : l.most = some n) (hn2 : n ≤ sizeLine) (hdf : d.params.defaults = []) (hr : Room k callerA) (hY : ∀ (w : World) (h : Heap), YP w h → (K w.params).In h) (hT : ∀ (w : World) (h : Heap), YP w h → h.get? T = some { cls := .none, data := .fields #[] })
    (F : ∀ (w : World) (mg : Str → Option Value) (fa : Addr) (h : Heap), (K w.params).In h → h.Ns mainGlobals mg → mg d.name = some (.ref fa) →
      ∃ (fd : FuncData) (c cd : Addr), (K w.params).lookup T = none ∧ PySem.W.codeHdIn (K w.params) c T = true ∧ (∀ (s : Shared) (u : Value), BindsTo s fd ⟨[u], []⟩ [(x, u)]) ∧ ∀ base : Heap, (K w.params).In base → base.Ns mainGlobals mg → LamX.TabB base mg c T → GOk l.prog w (K w.params) mg base (CX w) k fa fd [x] (sp w T))
    (hsp : ∀ (w : World) (H : Hp) (a : Addr) (ns : List Int), ns.length ≤ n → H T = some (.tbl #[]) → SqL (K w.params) H a (ns.map V.int) → sp w T [.ref a] H (fun v _ => v = .bl true) fun _ _ _ => False)
    (hCX : ∀ (w : World) (H : Hp) (s : Shared) (e : Value) (s' : Shared), CX w [] H s (fun _ _ _ => False) e s' → False) : PySem.W.WalkO q loose XP YP l.row.toRowW d [] (fun f vs => PySem.call f vs) := by
  refine Att.attach_call hn hdf fun w s0 s1 mg mb fa o pm cd doc a vs ns G Y ho hd hcd hmg hobj hints hlen hg => ?_
  obtain ⟨fd, c, _, tK, ch, hb, hF⟩ := F w mg fa _ (hY w _ Y) G.T.g hmg
  exact glaw_callT (hY w _ Y) G.T.g G.T.b G.T.builtins G.T.nolimit hg (hT w _ Y) tK (PySem.W.codeHd_of_K (hY w _ Y) ch) G.T.bmain hobj hints (Nat.le_trans hlen hn2) hr hF hb (fun H hO hS => hsp w H a ns hlen hO hS) fun H e s' => hCX w H s1 e s'
end WG

set_option Elab.async false
set_option linter.all false
set_option maxRecDepth 100000
set_option maxHeartbeats 4000000
namespace WB
open PySem PySem.Spec PyProof.Rows L2 WG
open NdefX (NF FnO fnO_at codeO_at CellsAt NOk fnAt_of)
open LamX (CodeO)
open TL (tl)
/-! ### a def that outlives the def that made it, with two captured names -/
/-- the cell at c holds the value v -/
def CellV (c : Addr) (v : V) : HO := .ext fun h => ∃ u, RelV v u ∧ h.IsCell c (some u)
theorem cellV_ok {P : Program} {w : World} {H : Hp} {h : Heap} {c : Addr} {v : V} {u : Value} (r : RelV v u) (e : h.IsCell c (some u)) : ObjOk P w H h c (CellV c v) := by
  obtain ⟨o, ho, hd⟩ := e
  exact ⟨⟨u, r, o, ho, hd⟩, ⟨o, ho⟩, fun h1 h2 ⟨u1, r1, o1, e1, d1⟩ st => ⟨u1, r1, o1, st o1 e1, d1⟩⟩
theorem cellV_at {P : Program} {w : World} {H : Hp} {h : Heap} {c : Addr} {v : V} (x : HOk P w H h) (e : H c = some (CellV c v)) : ∃ u, RelV v u ∧ h.IsCell c (some u) := (x c _ e).1
theorem hok_del {P : Program} {w : World} {H : Hp} {h : Heap} {c : Addr} {φ : Heap → Prop} (x : HOk P w H h) (e : H c = some (.ext φ)) : HOk P w (del H c) h := by
  intro b o z
  have nb : b ≠ c := fun q => by
    rw [q, del_same] at z
    cases z
  rw [del_ne nb] at z
  refine (x b o z).stay (fun _ _ _ q => q) (fun d q => ?_) (fun d xs q => ?_)
  · rw [del_ne (fun r => by rw [r, e] at q; cases q)]
    exact q
  · rw [del_ne (fun r => by rw [r, e] at q; cases q)]
    exact q
/-- both cells let go, both taken up again -/
def off2 (H : Hp) (c1 c2 : Addr) : Hp := del (del H c1) c2
def on2 (H : Hp) (c1 c2 : Addr) (v1 v2 : V) : Hp := upd (upd H c1 (CellV c1 v1)) c2 (CellV c2 v2)
theorem off2_ne {H : Hp} {c1 c2 b : Addr} (h1 : b ≠ c1) (h2 : b ≠ c2) : off2 H c1 c2 b = H b := by
  unfold off2
  rw [del_ne h2, del_ne h1]
theorem off2_1 {H : Hp} {c1 c2 : Addr} (n : c1 ≠ c2) : off2 H c1 c2 c1 = none := by
  unfold off2
  rw [del_ne n, del_same]
theorem off2_2 {H : Hp} {c1 c2 : Addr} : off2 H c1 c2 c2 = none := del_same
theorem on2_ne {H : Hp} {c1 c2 b : Addr} {v1 v2 : V} (h1 : b ≠ c1) (h2 : b ≠ c2) : on2 H c1 c2 v1 v2 b = H b := by
  unfold on2
  rw [upd_ne h2, upd_ne h1]
theorem on2_1 {H : Hp} {c1 c2 : Addr} {v1 v2 : V} (n : c1 ≠ c2) : on2 H c1 c2 v1 v2 c1 = some (CellV c1 v1) := by
  unfold on2
  rw [upd_ne n, upd_same]
theorem on2_2 {H : Hp} {c1 c2 : Addr} {v1 v2 : V} : on2 H c1 c2 v1 v2 c2 = some (CellV c2 v2) := upd_same
section
variable {P : Program} {w : World} {K : PySem.W.Frag} {mg : Str → Option Value} {base : Heap} {k : Nat} {f c1 c2 : Addr} {v1 v2 : V} {F : NF} {ps : List Str} {y1 y2 : Str} {sp : List (Option V) → Sp}
theorem cl_run2 (Fn : NOk P w K mg base (L2.CX P w) k f F ps [y1, y2] sp) {A : Around} {outer : List Env} {s : Shared} {H : Hp} {us : List Value} {vs : List V} {Q : VK} {E : XK} (room : Room k A) (env : Env0 P w K mg base A outer s H) (hf : H f = some (FnO f F)) (hq : H F.c = some (CodeO F.c F.qual))
    (k1 : F.cl.lookup y1 = some c1) (k2 : F.cl.lookup y2 = some c2) (only : ∀ x d, F.cl.lookup x = some d → x = y1 ∨ x = y2) (nc : c1 ≠ c2) (h1 : H c1 = some (CellV c1 v1)) (h2 : H c2 = some (CellV c2 v2)) (rel : Vals vs us)
    (ask : sp [some v1, some v2] vs (off2 H c1 c2) (fun r H1 => H1 c1 = none → H1 c2 = none → Q r (on2 H1 c1 c2 v1 v2)) (fun cls d H1 => H1 c1 = none → H1 c2 = none → E cls d (on2 H1 c1 c2 v1 v2))) :
    codeAny (model P w) A (.call (.ref f) ⟨us, []⟩) (CR (L2.CX P w) outer P w H s Q E) s := by
  obtain ⟨u1, r1, oc1, hoc1, hd1⟩ := cellV_at env.hok h1
  obtain ⟨u2, r2, oc2, hoc2, hd2⟩ := cellV_at env.hok h2
  have nfr1 : c1 ∉ frs outer := fun z => by
    have q := env.frf c1 z
    rw [h1] at q
    cases q
  have nfr2 : c2 ∉ frs outer := fun z => by
    have q := env.frf c2 z
    rw [h2] at q
    cases q
  have nf : ∀ {c : Addr} {oc : Obj} {u : Value}, s.heap.get? c = some oc → oc.data = .cell (some u) → f ≠ c := fun {c oc u} hoc hd z => by
    obtain ⟨_, _, _, _, _, ho⟩ := fnO_at env.hok hf
    rw [z, hoc] at ho
    cases ho
    cases hd
  have nq : ∀ {c : Addr} {oc : Obj} {u : Value}, s.heap.get? c = some oc → oc.data = .cell (some u) → F.c ≠ c := fun {c oc u} hoc hd z => by
    obtain ⟨c2, o2, us2, t2, e0, e1, e2, _⟩ := codeO_at env.hok hq
    cases e0
    rw [z, hoc] at e1
    cases e1
    rw [e2] at hd
    cases hd
  have dn : ∀ {b : Addr}, H b = none → off2 H c1 c2 b = none := fun {b} z => by
    by_cases e2 : b = c2
    · rw [e2]
      exact off2_2
    · by_cases e1 : b = c1
      · rw [e1]
        exact off2_1 nc
      · rw [off2_ne e1 e2]
        exact z
  have hok2 : HOk P w (off2 H c1 c2) s.heap := hok_del (hok_del env.hok h1) (by rw [del_ne nc.symm]; exact h2)
  have env2 : Env0 P w K mg base A outer s (off2 H c1 c2) := ⟨env.frames, env.mod, fun b o e => ⟨(env.bs b o e).1, dn (env.bs b o e).2⟩, env.bsz, env.funs, fun b hb => dn (env.frf b hb), hok2, env.bare⟩
  have cells : CellsAt F.cl [y1, y2] [some v1, some v2] s.heap (off2 H c1 c2) := by
    have same : ∀ x d, F.cl.lookup x = some d → (x = y1 ∧ d = c1) ∨ (x = y2 ∧ d = c2) := fun x d e => by
      rcases only x d e with z | z
      · rw [z, k1] at e
        exact .inl ⟨z, (Option.some.inj e).symm⟩
      · rw [z, k2] at e
        exact .inr ⟨z, (Option.some.inj e).symm⟩
    refine ⟨rfl, fun x d e => ?_, fun x x2 d e1 e2 => ?_, fun i x e => ?_⟩
    · rcases same x d e with ⟨_, z⟩ | ⟨_, z⟩
      · rw [z]
        exact ⟨off2_1 nc, _, oc1, hoc1, hd1⟩
      · rw [z]
        exact ⟨off2_2, _, oc2, hoc2, hd2⟩
    · rcases same x d e1 with ⟨a1, b1⟩ | ⟨a1, b1⟩ <;> rcases same x2 d e2 with ⟨a2, b2⟩ | ⟨a2, b2⟩
      · exact a1.trans a2.symm
      · exact absurd (b1.symm.trans b2) nc
      · exact absurd (b2.symm.trans b1) nc
      · exact a1.trans a2.symm
    · cases i with
      | zero =>
        cases e
        refine ⟨c1, k1, fun v ev => ?_⟩
        cases ev
        exact ⟨u1, r1, oc1, hoc1, hd1⟩
      | succ i =>
        cases i with
        | zero =>
          cases e
          refine ⟨c2, k2, fun v ev => ?_⟩
          cases ev
          exact ⟨u2, r2, oc2, hoc2, hd2⟩
        | succ i => cases e
  have nb1 : ∀ {b : Addr} {o : HO}, H b = some o → (∀ φ, o ≠ .ext φ) → b ≠ c1 := fun {b o} e n z => by
    rw [z, h1] at e
    exact n _ (Option.some.inj e).symm
  have nb2 : ∀ {b : Addr} {o : HO}, H b = some o → (∀ φ, o ≠ .ext φ) → b ≠ c2 := fun {b o} e n z => by
    rw [z, h2] at e
    exact n _ (Option.some.inj e).symm
  have nn1 : ∀ {b : Addr}, H b = none → b ≠ c1 := fun {b} e z => by
    rw [z, h1] at e
    cases e
  have nn2 : ∀ {b : Addr}, H b = none → b ≠ c2 := fun {b} e z => by
    rw [z, h2] at e
    cases e
  have z1 : off2 H c1 c2 c1 = none := off2_1 nc
  have z2 : off2 H c1 c2 c2 = none := off2_2
  have up : ∀ {H1 : Hp} {hp : Heap}, HOk P w H1 hp → H1 c1 = none → H1 c2 = none → hp.get? c1 = some oc1 → hp.get? c2 = some oc2 → HOk P w (on2 H1 c1 c2 v1 v2) hp := fun {H1 hp} ok f1 f2 g1 g2 => by
    have s1 := HOk.laidN ok (fun _ _ q => q) f1 (cellV_ok (v := v1) r1 ⟨oc1, g1, hd1⟩)
    exact HOk.laidN s1 (fun _ _ q => q) (by rw [upd_ne nc.symm]; exact f2) (cellV_ok (v := v2) r2 ⟨oc2, g2, hd2⟩)
  refine codeAny_mono (Fn.run A outer s (off2 H c1 c2) us vs _ _ _ room env2 (by rw [off2_ne (nf hoc1 hd1) (nf hoc2 hd2)]; exact hf) (by rw [off2_ne (nq hoc1 hd1) (nq hoc2 hd2)]; exact hq) cells rel ask) fun r s' got => ?_
  cases r with
  | error e =>
    obtain ⟨x, B, H1, cls, d, rfl, fl, ok, ub, na, os, ag, hE⟩ := got
    have kB1 := ub.keep c1 oc1 hoc1 z1 nfr1
    have kB2 := ub.keep c2 oc2 hoc2 z2 nfr2
    have f1 := ub.free c1 oc1 hoc1 z1
    have f2 := ub.free c2 oc2 hoc2 z2
    have nx1 : x ≠ c1 := fun z => by
      have q := fl.2.1
      rw [z, kB1] at q
      cases q
    have nx2 : x ≠ c2 := fun z => by
      have q := fl.2.1
      rw [z, kB2] at q
      cases q
    refine ⟨x, B, on2 H1 c1 c2 v1 v2, cls, d, rfl, fl, up ok f1 f2 kB1 kB2, ⟨fun b o e n h => ub.keep b o e (dn n) h, ub.slot, fun b o e n => ?_, ub.there, fun b xs e => ?_, fun b o xs e => ?_, fun b q e => ?_⟩, by rw [on2_ne nx1 nx2]; exact na, os, ag, hE f1 f2⟩
    · rw [on2_ne (nn1 n) (nn2 n)]
      exact ub.free b o e (dn n)
    · have a1 := nb1 e (fun _ z => by cases z)
      have a2 := nb2 e (fun _ z => by cases z)
      rw [on2_ne a1 a2]
      exact ub.tups b xs (by rw [off2_ne a1 a2]; exact e)
    · have a1 := nb1 e (fun _ z => by cases z)
      have a2 := nb2 e (fun _ z => by cases z)
      rw [on2_ne a1 a2]
      exact ub.frzs b o xs (by rw [off2_ne a1 a2]; exact e)
    · have a1 := nb1 e (fun _ z => by cases z)
      have a2 := nb2 e (fun _ z => by cases z)
      rw [on2_ne a1 a2]
      exact ub.tbls b q (by rw [off2_ne a1 a2]; exact e)
  | ok fl =>
    cases fl with
    | next => exact got.elim
    | brk => exact got.elim
    | cont => exact got.elim
    | ret u =>
      obtain ⟨v, H1, os, bare, un, ok, rv, q⟩ := got
      have g1 := un.keep c1 oc1 hoc1 z1 nfr1 List.not_mem_nil
      have g2 := un.keep c2 oc2 hoc2 z2 nfr2 List.not_mem_nil
      have f1 := un.free c1 oc1 hoc1 z1 List.not_mem_nil
      have f2 := un.free c2 oc2 hoc2 z2 List.not_mem_nil
      refine ⟨v, on2 H1 c1 c2 v1 v2, os, bare, ⟨fun b o e n => un.keep b o e (dn n), fun b o e n => un.slot b o e (dn n), fun b o e n h => ?_, un.there, fun b xs e => ?_, fun b o xs e => ?_, fun b q e => ?_⟩, up ok f1 f2 g1 g2, rv, q f1 f2⟩
      · rw [on2_ne (nn1 n) (nn2 n)]
        exact un.free b o e (dn n) h
      · have a1 := nb1 e (fun _ z => by cases z)
        have a2 := nb2 e (fun _ z => by cases z)
        rw [on2_ne a1 a2]
        exact un.tups b xs (by rw [off2_ne a1 a2]; exact e)
      · have a1 := nb1 e (fun _ z => by cases z)
        have a2 := nb2 e (fun _ z => by cases z)
        rw [on2_ne a1 a2]
        exact un.frzs b o xs (by rw [off2_ne a1 a2]; exact e)
      · have a1 := nb1 e (fun _ z => by cases z)
        have a2 := nb2 e (fun _ z => by cases z)
        rw [on2_ne a1 a2]
        exact un.tbls b q (by rw [off2_ne a1 a2]; exact e)
end
/-- m(..), the local name at i holds a def of the sort FS that has outlived its maker and keeps two names -/
def tCallC2 (y1 y2 : Str) (FS : NF → Prop) (i : Nat) (sp : List (Option V) → Sp) (E : L2.St → XK) (t : TA) : TE := fun σ H Q => ∃ (f : Addr) (F : NF) (c1 c2 : Addr) (v1 v2 : V), σ[i]? = some (some (.ref f)) ∧ FS F ∧ F.cl.lookup y1 = some c1 ∧ F.cl.lookup y2 = some c2 ∧ (∀ x d, F.cl.lookup x = some d → x = y1 ∨ x = y2) ∧ c1 ≠ c2 ∧ H f = some (FnO f F) ∧
  t σ H fun vs H1 => H1 f = some (FnO f F) ∧ H1 F.c = some (CodeO F.c F.qual) ∧ H1 c1 = some (CellV c1 v1) ∧ H1 c2 = some (CellV c2 v2) ∧ sp [some v1, some v2] vs (off2 H1 c1 c2) (fun r H2 => H2 c1 = none → H2 c2 = none → Q r (on2 H2 c1 c2 v1 v2)) (fun cls d H2 => H2 c1 = none → H2 c2 = none → E σ cls d (on2 H2 c1 c2 v1 v2))
theorem pe_callC2 {X : Cx} {k i : Nat} {FS : NF → Prop} {ps : List Str} {sp : List (Option V) → Sp} {E : L2.St → XK} {nm y1 y2 : Str} {p pos : Pos} {e : Expr} {es : List Expr} {t : TA}
    (Fn : ∀ f F, FS F → NOk X.prog X.w X.K X.mg X.base (L2.CX X.prog X.w) k f F ps [y1, y2] sp) (room : Room k X.A) (at_ : X.N[i]? = some nm) (vis : Vis X.env.scope nm) (out : ∀ σ, PassesAt (L2.CX X.prog X.w) X σ (E σ)) (args : PA X (e :: es) t)
    (n1 : (nm == ("__debug__" : Str)) = false := by decide) (n2 : (nm == ("__classdict__" : Str)) = false := by decide)
    (s1 : starEach (e :: es) X.env = (false, eval e X.env) :: starEach es X.env := by rfl) (s2 : (backTo pos (starEach es X.env)).any (·.1) = false := by rfl) : PE X (.Call (.Name nm p) (e :: es) [] pos) (tCallC2 y1 y2 FS i sp E t) := by
  constructor
  intro pins st σ H want inv ask
  obtain ⟨f, F, c1, c2, v1, v2, hσ, hF, k1, k2, only, nc, hf, ask⟩ := ask
  refine wpAny_Call_Name_kw (thn ((pe_var (pos := p) at_ vis n1 n2).run pins st σ H (fun v H1 => v = .ref f ∧ H1 = H) inv ⟨.ref f, hσ, rfl, rfl⟩) fun u st1 got => ?_)
  obtain ⟨v, H1, inv1, rel, rfl, rfl⟩ := got
  cases rel
  refine PySem.W.callWith_F (first := []) (fnAt_of inv1 hf) (thn (args.run pos pins st1 σ _ _ inv1 ask) fun us st2 ⟨vs, H2, inv2, rels, q1, q2, q3, q4, q⟩ => ⟨fnAt_of inv2 q1, ?_⟩) s1 s2
  refine wpAny_call (codeAny_mono (cl_run2 (Fn f F hF) room inv2.env0 q1 q2 k1 k2 only nc q3 q4 rels q) fun r s' got => ?_)
  cases r with
  | error e => exact out σ pins _ _ e s' inv2 got
  | ok fl =>
    cases fl with
    | ret u => exact inv2.after got
    | next => exact got.elim
    | brk => exact got.elim
    | cont => exact got.elim
/-! ### a def that ends by giving out such a one -/
theorem fn_ofC2 {CX : CXT} {P : Program} {w : World} {K : PySem.W.Frag} {mg : Str → Option Value} {base : Heap} {k : Nat} {f : Addr} {name qual : Str} {params : Arguments} {body : List Stmt} {scope : Scope} {dV kV doc pm cdv ct oc : Value} {an od : Option Addr} {osl : Array (Option Value)}
    {N ps : List Str} {sp : Sp} {st1 : Stmt} {y1 y2 z : Str} {p pos : Pos} {i j1 j2 : Nat} (lk : K.lookup f = some ⟨oc, od, .func (PySem.W.fnOf name qual params body scope dV kV doc pm an cdv ct), osl⟩) (hcd : PySem.W.codeIn K cdv qual = true) (S : FnScope N ps scope)
    (len : ∀ vs H Q E, sp vs H Q E → vs.length = ps.length) (hb : body = [st1, .Return (some (.Name z p)) pos]) (hi : N[i]? = some z) (hz : Vis scope z) (hj1 : N[j1]? = some y1) (hj2 : N[j2]? = some y2) (hy1 : scope.names.lookup y1 = some .cell) (hy2 : scope.names.lookup y2 = some .cell)
    (n1 : (z == ("__debug__" : Str)) = false) (n2 : (z == ("__classdict__" : Str)) = false)
    (hbody : ∀ (A : Around) (outer : List Env) (s : Shared) (H : Hp) (vs : List V) (Q : VK) (E : XK), Room k (A.deeper (envOfC qual scope s.heap.objs.size f cdv)) → sp vs H Q E →
      ∃ t1, PS (cxOf CX P w K mg base N qual scope f cdv A outer s H E) st1 t1 ∧
        t1 { nx := fun σ' H' => ∃ g v1 v2, σ'[i]? = some (some (.ref g)) ∧ σ'[j1]? = some (some v1) ∧ σ'[j2]? = some (some v2) ∧ ∀ c1 c2, (envOfC qual scope s.heap.objs.size f cdv).cells.lookup y1 = some c1 → (envOfC qual scope s.heap.objs.size f cdv).cells.lookup y2 = some c2 → H' c1 = none → H' c2 = none → c1 ≠ c2 ∧ Q (.ref g) (on2 H' c1 c2 v1 v2), rt := fun _ _ => False } (L2.start N vs) H) :
    FnOk P w K mg base CX (k + 1) f (PySem.W.fnOf name qual params body scope dV kV doc pm an cdv ct) ps sp := by
  refine ⟨len, fun A outer s H args us vs Q E room env bnd rel want => ?_⟩
  have hlen := len _ _ _ _ want
  have kin : K.In s.heap := env.mod.kin.keeps fun b o q => (env.bs b o q).1
  have nolim : s.heap.NoLimit := env.mod.nolimit.keeps fun b o q => (env.bs b o q).1
  have kinds : ∀ y ∈ ps.zip us, scope.names.lookup y.1 = some .local ∨ (scope.names.lookup y.1 = some .cell ∧ ((cellsFrom (s.heap.objs.size + 1) scope.names []).lookup y.1).isSome = true) := by
    intro y hy
    obtain ⟨n, v⟩ := y
    cases S.par n (List.of_mem_zip hy).1 with
    | inl z => exact .inl z
    | inr z => exact .inr ⟨z, PySem.W.cellsFrom_some _ _ _ (.inl z)⟩
  refine codeAny_call_function room.depth (kin _ _ lk) rfl S.co S.gen rfl (PySem.W.codeRec_of kin hcd) (bnd _ _ _ _ ?_)
  refine wpAny_newFunctionEnv_cells S.kind kinds fun e2 he2 sA hx => ?_
  subst he2
  refine ⟨nolim.keeps hx.toInCall.keep, codeAny_func ?_⟩
  obtain ⟨t1, h1, tq⟩ := hbody A outer s H vs Q E (room.deeper _) want
  have I : Inv (cxOf CX P w K mg base N qual scope f cdv A outer s H E) [] (L2.start N vs) H sA := inv_start S room.hd env hlen rel hx
  subst hb
  refine wpAny_mono (Q := fun fl s' => ∃ g, fl = Flow.ret (.ref g) ∧ CE outer P w H s Q (.ref g) s') ?_ (fun fl s' ⟨g, e, q⟩ => ?_) fun e s' hs => hs
  · refine wpAny_execs_cons (thn (h1.run [] sA _ H _ I tq) fun fl sC got => ?_)
    cases fl with
    | ret v => obtain ⟨_, _, _, _, _, q⟩ := got; exact q.elim
    | brk => obtain ⟨_, _, _, q⟩ := got; exact q.elim
    | cont => obtain ⟨_, _, _, q⟩ := got; exact q.elim
    | next =>
      obtain ⟨σC, HC, IC, g, v1, v2, hg, ha1, ha2, q⟩ := got
      refine wpAny_execs_cons (wpAny_Return_some (thn ((pe_var (pos := p) hi hz n1 n2).run [] sC σC HC (fun v H1 => v = .ref g ∧ H1 = HC) IC ⟨.ref g, hg, rfl, rfl⟩) fun u sD got => ?_))
      obtain ⟨v, HD, J, rel2, rfl, rfl⟩ := got
      cases rel2
      refine ⟨g, rfl, ?_⟩
      obtain ⟨m, _, loc⟩ := J.loc
      have cellOf : ∀ {y : Str} {j : Nat} {v : V}, N[j]? = some y → σC[j]? = some (some v) → scope.names.lookup y = some .cell → ∃ c u, (envOfC qual scope s.heap.objs.size f cdv).cells.lookup y = some c ∧ RelV v u ∧ sD.heap.IsCell c (some u) := fun {y j v} hj ha hy => by
        obtain ⟨u, ru, look⟩ := loc j y v hj ha (.inr (.inl hy))
        rcases look with ⟨z, _⟩ | ⟨_, c, hc, hcell⟩
        · have z' : scope.names.lookup y = some .local := z
          rw [hy] at z'
          cases z'
        · exact ⟨c, u, hc, ru, hcell⟩
      obtain ⟨c1, u1, hc1, ru1, cell1⟩ := cellOf hj1 ha1 hy1
      obtain ⟨c2, u2, hc2, ru2, cell2⟩ := cellOf hj2 ha2 hy2
      have fc1 := J.freeC y1 c1 hc1
      have fc2 := J.freeC y2 c2 hc2
      have low1 : s.heap.objs.size ≤ c1 := J.ok.cab y1 c1 rfl hc1
      have low2 : s.heap.objs.size ≤ c2 := J.ok.cab y2 c2 rfl hc2
      obtain ⟨nc, q⟩ := q c1 c2 hc1 hc2 fc1 fc2
      have up : HOk P w (on2 HD c1 c2 v1 v2) sD.heap := HOk.laidN (HOk.laidN J.hok (fun _ _ q => q) fc1 (cellV_ok ru1 cell1)) (fun _ _ q => q) (by rw [upd_ne nc.symm]; exact fc2) (cellV_ok ru2 cell2)
      refine ⟨.ref g, on2 HD c1 c2 v1 v2, J.os, J.bare, ⟨J.base.keep, J.base.slot, fun b o e n h => ?_, J.base.there, fun b xs e => ?_, fun b o xs e => ?_, fun b q e => ?_⟩, up, rfl, q⟩
      · rw [on2_ne (fun z => by rw [z] at e; exact absurd (Heap.lt_size e) (Nat.not_lt.mpr low1)) (fun z => by rw [z] at e; exact absurd (Heap.lt_size e) (Nat.not_lt.mpr low2))]
        exact J.base.free b o e n h
      · have z := J.base.tups b xs e
        rw [on2_ne (ne_of_none z fc1) (ne_of_none z fc2)]
        exact z
      · have z := J.base.frzs b o xs e
        rw [on2_ne (ne_of_none z fc1) (ne_of_none z fc2)]
        exact z
      · obtain ⟨more, z⟩ := J.base.tbls b q e
        exact ⟨more, by rw [on2_ne (ne_of_none z fc1) (ne_of_none z fc2)]; exact z⟩
  · subst e
    exact q
end WB

set_option Elab.async false
set_option linter.all false
set_option maxRecDepth 100000
set_option maxHeartbeats 4000000
namespace WB
open PySem PySem.Spec PyProof.Rows L2 WG
open TL (tl)
/-! ### a call of a local name within a try -/
def tCallLS (i : Nat) (f : Addr) (sp : Sp) (E : L2.St → XK) (t : TA) : TE := fun σ H Q => σ[i]? = some (some (.ref f)) ∧ t σ H fun vs H1 => sp vs H1 Q (E σ)
theorem pe_callLS {X : Cx} {CX : CXT} {k i : Nat} {f : Addr} {fd : FuncData} {ps : List Str} {sp : Sp} {E : L2.St → XK} {nm : Str} {p pos : Pos} {e : Expr} {es : List Expr} {t : TA}
    (G : FnOk X.prog X.w X.K X.mg X.base CX k f fd ps sp) (room : Room k X.A) (at_ : X.N[i]? = some nm) (vis : Vis X.env.scope nm) (kp : PySem.W.keepIn X.K (.ref f) = true) (bnd : Binds X.K fd ps []) (out : ∀ σ, PassesAt CX X σ (E σ)) (args : PA X (e :: es) t)
    (n1 : (nm == ("__debug__" : Str)) = false := by decide) (n2 : (nm == ("__classdict__" : Str)) = false := by decide)
    (s1 : starEach (e :: es) X.env = (false, eval e X.env) :: starEach es X.env := by rfl) (s2 : (backTo pos (starEach es X.env)).any (·.1) = false := by rfl) : PE X (.Call (.Name nm p) (e :: es) [] pos) (tCallLS i f sp E t) := by
  constructor
  intro pins st σ H want inv ask
  refine wpAny_Call_Name_kw (thn ((pe_var (pos := p) at_ vis n1 n2).run pins st σ H (fun v H1 => v = .ref f ∧ H1 = H) inv ⟨.ref f, ask.1, rfl, rfl⟩) fun u st1 got => ?_)
  obtain ⟨v, H1, inv1, rel, rfl, rfl⟩ := got
  cases rel
  exact PySem.W.callWith_K (h₀ := X.base) inv.ok.mod.kin kp (thn (args.run pos pins st1 σ _ _ inv1 ask.2) fun us st2 ⟨vs, H2, inv2, rels, q⟩ => ⟨inv2.kIn, run_fnS G room bnd (out σ) inv2 rels q⟩) s1 s2
/-! ### dict(d) of a dict of the module -/
inductive EntAll (P : Params) : List DictEntry → List (Key × V) → Prop
  | nil : EntAll P [] []
  | cons {hs : Int} {x : Str} {t : Tok} {u : Value} {v : V} {es : List DictEntry} {kvs : List (Key × V)} : hs = PyData.keyHash P x → RelV v u → EntAll P es kvs → EntAll P (⟨hs, .str x t, u⟩ :: es) ((Sum.inr x, v) :: kvs)
theorem EntAll.vals {P : Program} {w : World} {es : List DictEntry} {kvs : List (Key × V)} (h : EntAll w.params es kvs) : ∃ vs : List (Key × Value), KV kvs vs ∧ Pairs (mixKind P w) es vs ∧ (∀ e ∈ es, ∃ k, (mixKind P w).is k e.key = true ∧ e.hash = (mixKind P w).hash k) ∧ vs.map (·.1) = kvs.map (·.1) := by
  induction h with
  | nil => exact ⟨[], .nil, .nil, (fun e he => by cases he), rfl⟩
  | @cons hs x t u v es kvs eh rel _ ih =>
    obtain ⟨vs, h1, h2, h3, h4⟩ := ih
    have is1 : (mixKind P w).is (Sum.inr x) (.str x t) = true := strKind_is P w x t
    refine ⟨(Sum.inr x, u) :: vs, .cons ⟨rfl, rel⟩ h1, .cons is1 rfl h2, fun e he => ?_, by rw [List.map_cons, List.map_cons, h4]⟩
    rcases List.mem_cons.mp he with r | r
    · subst r
      exact ⟨Sum.inr x, is1, eh⟩
    · exact h3 e r
/-- a dict that the module has written -/
def KDic (K : PySem.W.Frag) (w : World) (a : Addr) (kvs : List (Key × V)) : Prop :=
  ∃ es n, K.lookup a = some ⟨.type "dict", none, .dict es n, #[]⟩ ∧ (a == sysModules) = false ∧ EntAll w.params es.toList kvs ∧ (kvs.map (·.1)).Nodup ∧ kvs.length ≤ 1000
theorem call_dictK {X : Cx} : CallR X (.type "dict") (fun xs H Q => ∃ (a : Addr) (kvs : List (Key × V)), xs = [.ref a] ∧ KDic X.K X.w a kvs ∧ ∀ p, H p = none → Q (.ref p) (upd H p (.dK kvs))) := by
  intro pins s σ H xs us want I rels ask
  obtain ⟨a, kvs, rfl, ⟨es, n, look, low, ent, nd, len⟩, q⟩ := ask
  obtain ⟨u, rfl, rel⟩ := vals1 rels
  cases rel
  obtain ⟨vs, kv, prs, keys, same⟩ := ent.vals (P := X.prog)
  have dd : s.heap.DictOf (mixKind X.prog X.w) a vs := ⟨_, es, n, I.kIn _ _ look, ⟨rfl, rfl, rfl⟩, rfl, fun e he => keys e (Array.mem_toList_iff.mpr he), prs, by rw [same]; exact nd⟩
  have lv : vs.length ≤ sizeLine := by
    have h := congrArg List.length same
    rw [List.length_map, List.length_map] at h
    rw [h]
    exact Nat.le_trans len (by decide)
  have lk : kvs.length ≤ sizeLine := Nat.le_trans len (by decide)
  refine kt_call_dict low dd lv fun h2 d2 sb => ?_
  have ns : (s.heap.objs.size == sysModules) = false := beq_eq_false_iff_ne.mpr (Nat.ne_of_gt I.big)
  have laid : ∀ b o, s.heap.get? b = some o → h2.get? b = some o := fun b o e => (sb.2 b (Nat.ne_of_lt (Heap.lt_size e))).trans (Heap.get?_push_of_some _ e)
  have ob : ObjOk X.prog X.w (upd H s.heap.objs.size (.dK kvs)) h2 s.heap.objs.size (.dK kvs) := ⟨lk, ns, vs, kv, d2⟩
  exact ⟨.ref s.heap.objs.size, _, I.laid (t' := s.toks) laid (Nat.le_refl _) ob, rfl, q _ (I.hok.fresh (Nat.le_refl _))⟩
/-! ### Unmade -/
/-- Unmade, as the written part tells it -/
structure ErrT (K : PySem.W.Frag) (mg : Str → Option Value) (x : Str) (C fI : Addr) (fd : FuncData) : Prop where
  o : OexC K C
  i : PySem.W.findIn K (.ref C) "__init__" = some (some (.ref fI))
  t : PySem.W.typeIn K (.ref fI) = some (.type "function")
  nf : PySem.W.findIn K (.ref C) "why" = some none
  g : mg x = some (.ref C)
  b : Binds K fd ["self", "why"] []
abbrev st_Unmade_init : Stmt := inClass (topS 17) 0
theorem sc_Unmade_init : FnScope ["self", "why"] ["self", "why"] (defScope st_Unmade_init) := ⟨rfl, rfl, rfl, by decide +kernel, rfl, by decide +kernel, by decide +kernel⟩
abbrev st_err := st_Unmade_init
abbrev sc_err := sc_Unmade_init
abbrev ErrD (K : PySem.W.Frag) (f : Addr) (fd : FuncData) : Prop := FunD K "__init__" "Unmade.__init__" (defArgs st_err) (defBody st_err) (defScope st_err) [.str (Str.ofString "")] [] f fd
theorem err_b2 {K : PySem.W.Frag} {f : Addr} {fd : FuncData} (F : ErrD K f fd) : Binds K fd ["self", "why"] [] := by
  obtain ⟨ds, hv, b⟩ := F.binds1 (ps := ["self", "why"]) 2 1 (by simp) rfl (fun T kV doc pm an cdv ct us its h1 h2 => match us, its, h1, h2 with | [_, _], [_], _, _ => ⟨_, rfl, rfl⟩)
  cases hv
  exact b
section
variable {P : Program} {w : World} {K : PySem.W.Frag} {mg : Str → Option Value} {base : Heap}
def spErr (C : Addr) : Sp := fun vs H Q _ => ∃ (a : Addr) (y : V), vs = [.ref a, y] ∧ H a = some (exo a C none) ∧ ∀ dx, H dx = none → dx ≠ a → Q .non (upd (upd H dx (exd dx [(("why" : Str), y)])) a (exo a C (some dx)))
theorem ok_err {C f : Addr} {fd : FuncData} {x : Str} {k : Nat} (F : ErrD K f fd) (T : ErrT K mg x C f fd) : FnOk P w K mg base CX0 (k + 1) f fd ["self", "why"] (spErr C) := by
  refine F.ok sc_err (fun vs H Q E h => ?_) (fun cdv A outer s H vs Q E hr h => ?_)
  · obtain ⟨a, y, rfl, _⟩ := h
    rfl
  · obtain ⟨a, y, rfl, ea, q⟩ := h
    refine ⟨_, pss_one (ps_ost (pv 0) (pv 1)), ?_⟩
    exact ⟨y, rfl, .ref a, rfl, a, C, rfl, T.o, T.nf, .inl ⟨ea, fun dx n ne => q dx n ne⟩⟩
/-- the way out by a raised error -/
theorem err_out {C : Addr} {y : V} {H : Hp} {E : XK} (h : ∀ H' d, Same H H' → H d = none → H' d = some (.xd [(("why" : Str), y)]) → E (.ref C) (some d) H') (a : Addr) (na : H a = none) :
    spErr C [.ref a, y] (upd H a (exo a C none)) (fun v H2 => v = .non ∧ ∃ (d : Addr) (fs : List (Str × V)), H2 a = some (exo a C (some d)) ∧ H2 d = some (exd d fs) ∧ H d = none ∧ E (.ref C) (some d) (upd (del H2 a) d (.xd fs))) (fun _ _ _ => False) := by
  refine ⟨a, y, rfl, upd_same, fun dx ndx ne => ⟨rfl, dx, [(("why" : Str), y)], upd_same, ?_, ?_, ?_⟩⟩
  · rw [upd_ne ne, upd_same]
  · rw [upd_ne ne] at ndx
    exact ndx
  · rw [upd_ne ne] at ndx
    refine h _ dx (fun b o e => ?_) ndx upd_same
    have nb : b ≠ dx := ne_of_none e ndx
    have nba : b ≠ a := ne_of_none e na
    rw [upd_ne nb, del_ne nba, upd_ne nba, upd_ne nb, upd_ne nba]
    exact e
theorem why_look {v : V} : List.lookup ("why" : Str) [(("why" : Str), v)] = some v := by simp [List.lookup]
/-- what may be asked of a caught Unmade -/
structure CaughtT (K : PySem.W.Frag) (CU BE : Addr) : Prop where
  x : XfC K CU
  c : ExcC K CU
  e : PySem.W.exmOne K (.ref CU) (.ref CU) = some true
  v : PySem.W.kitOne K (.ref CU) (.type "ValueError") = some true
  b : PySem.W.kitOne K (.ref CU) (.ref BE) = some false
end
theorem kit_subT {K : PySem.W.Frag} {a : Addr} {T : String} {b : Bool} (hm : PySem.W.kitMeta T = true) (h : PySem.W.subIn K (.ref a) (.type T) = some b) : PySem.W.kitOne K (.ref a) (.type T) = some b := by
  unfold PySem.W.kitOne
  rw [if_neg (by intro z; cases z)]
  unfold PySem.W.kitCls
  dsimp only
  rw [if_pos hm]
  exact h
theorem kit_subR {K : PySem.W.Frag} {a c : Addr} {b : Bool} (h1 : PySem.W.hasDictIn K c = true) (h2 : PySem.W.typeIn K (.ref c) = some (.type "type")) (h3 : PySem.W.subIn K (.ref a) (.ref c) = some b) (h4 : PySem.W.subIn K (.ref a) (.ref a) = some true) : PySem.W.kitOne K (.ref a) (.ref c) = some b := by
  obtain ⟨cd, hc, _⟩ := PySem.W.any_some h1
  unfold PySem.W.kitOne
  split
  · rename_i e
    have e2 : a = c := Value.ref.inj (beq_iff_eq.mp e)
    subst e2
    rw [h4] at h3
    exact h3
  · unfold PySem.W.kitCls
    dsimp only
    have e : ((PySem.W.clsIn K c).isSome && PySem.W.typeIn K (.ref c) == some (.type "type")) = true := by rw [hc, h2] <;> rfl
    rw [if_pos e]
    exact h3
end WB

set_option Elab.async false
set_option linter.all false
set_option maxRecDepth 100000
set_option maxHeartbeats 4000000
namespace WB
open PySem PySem.Spec PyProof.Rows L2 WG
open NdefX (NF FnO NOk nok_of NScope nscope_by TabN TabsN)
open LamX (CodeO TabB)
open TL (tl)
theorem small1000 {n : Nat} (h : n ≤ 1000) : n < sizeLine := by
  have : sizeLine = 16777216 := sizeLine_eq
  omega
abbrev st_own : Stmt := topS 30
theorem sc_own : FnScope ["_law_kept", "_law_bad", "_law_inner"] ["_law_kept", "_law_bad"] (defScope st_own) := ⟨rfl, rfl, rfl, by decide +kernel, rfl, by decide +kernel, by decide +kernel⟩
abbrev st_inner : Stmt := match defBody st_own with
  | [s, _] => s
  | _ => st_own
def qIn : Str := (envOfC "_law_own" (defScope st_own) 0 0 .none).qual ++ ("_law_inner" : Str)
theorem sc_inner : NScope ["_law_word", "_law_kept", "_law_bad"] ["_law_word"] ["_law_kept", "_law_bad"] (C8.fnScope st_inner) := nscope_by (by decide +kernel)
theorem free_inner : NdefX.ndefB (defScope st_own) (C8.fnScope st_inner) ["_law_kept", "_law_bad"] = true := by decide +kernel
theorem only_two : ∀ x ∈ (C8.fnScope st_inner).names, x.2 = .free → x.1 = ("_law_kept" : Str) ∨ x.1 = ("_law_bad" : Str) := by decide +kernel
theorem kept_in : (("_law_kept" : Str), NameKind.free) ∈ (C8.fnScope st_inner).names := by decide +kernel
theorem bad_in : (("_law_bad" : Str), NameKind.free) ∈ (C8.fnScope st_inner).names := by decide +kernel
theorem own_cells (n : Nat) : (PySem.cellsFrom n (defScope st_own).names []).lookup ("_law_kept" : Str) = some n ∧ (PySem.cellsFrom n (defScope st_own).names []).lookup ("_law_bad" : Str) = some (n + 1) := ⟨rfl, rfl⟩
/-- the defs that _law_own gives out -/
def FSi (F : NF) : Prop := ∃ (cl : List (Str × Addr)) (cd : Addr), F = NF.of st_inner "_law_inner" qIn cl cd
abbrev sgn (c : Nat) : Str := ⟨#[c]⟩
/-! ### heaps in which the makers' own dicts grow -/
structure Grow (S : List Addr) (m : Nat) (H H' : Hp) : Prop where
  keep : ∀ b o, H b = some o → (b ∉ S ∨ ∀ kvs, o ≠ .dK kvs) → H' b = some o
  dict : ∀ d, d ∈ S → ∀ kvs, H d = some (.dK kvs) → ∃ kvs', H' d = some (.dK kvs') ∧ kvs'.length ≤ kvs.length + m
theorem Grow.of_same {S : List Addr} {H H' : Hp} (s : Same H H') (m : Nat) : Grow S m H H' := ⟨fun b o e _ => s b o e, fun d _ kvs e => ⟨kvs, s _ _ e, Nat.le_add_right _ _⟩⟩
theorem Grow.mono {S S' : List Addr} {m m' : Nat} {H H' : Hp} (g : Grow S m H H') (h : ∀ b, b ∈ S → b ∈ S') (hm : m ≤ m') : Grow S' m' H H' := by
  refine ⟨fun b o e z => g.keep b o e (z.elim (fun n => .inl fun q => n (h b q)) .inr), fun d hd kvs e => ?_⟩
  by_cases q : d ∈ S
  · obtain ⟨k, e1, e2⟩ := g.dict d q kvs e
    exact ⟨k, e1, by omega⟩
  · exact ⟨kvs, g.keep d _ e (.inl q), by omega⟩
theorem Grow.trans {S : List Addr} {m n : Nat} {H H1 H2 : Hp} (a : Grow S m H H1) (b : Grow S n H1 H2) : Grow S (m + n) H H2 := by
  refine ⟨fun x o e z => b.keep x o (a.keep x o e z) z, fun d hd kvs e => ?_⟩
  obtain ⟨k1, e1, l1⟩ := a.dict d hd kvs e
  obtain ⟨k2, e2, l2⟩ := b.dict d hd k1 e1
  exact ⟨k2, e2, by omega⟩
theorem Grow.free {S : List Addr} {m : Nat} {H H' : Hp} (g : Grow S m H H') {b : Addr} (h : H' b = none) : H b = none := by
  cases e : H b with
  | none => rfl
  | some o =>
    exfalso
    by_cases q : b ∈ S ∧ ∃ kvs, o = .dK kvs
    · obtain ⟨h1, kvs, rfl⟩ := q
      obtain ⟨k, e1, _⟩ := g.dict b h1 kvs e
      rw [e1] at h
      cases h
    · have := g.keep b o e (by
        by_cases h1 : b ∈ S
        · exact .inr fun kvs z => q ⟨h1, kvs, z⟩
        · exact .inl h1)
      rw [this] at h
      cases h
/-- a maker: its def at g, its dict at d of at most n entries, its sign c -/
def MkA (H : Hp) (g d : Addr) (c n : Nat) : Prop := ∃ (F : NF) (c1 c2 : Addr) (kvs : List (Key × V)), FSi F ∧ F.cl.lookup ("_law_kept" : Str) = some c1 ∧ F.cl.lookup ("_law_bad" : Str) = some c2 ∧ (∀ x d, F.cl.lookup x = some d → x = "_law_kept" ∨ x = "_law_bad") ∧ c1 ≠ c2 ∧
  H g = some (FnO g F) ∧ H F.c = some (CodeO F.c F.qual) ∧ H c1 = some (CellV c1 (.ref d)) ∧ H c2 = some (CellV c2 (.str (sgn c))) ∧ H d = some (.dK kvs) ∧ kvs.length ≤ n
theorem MkA.grow {S : List Addr} {m n : Nat} {H H' : Hp} {g d : Addr} {c : Nat} (h : MkA H g d c n) (gr : Grow S m H H') : MkA H' g d c (n + m) := by
  obtain ⟨F, c1, c2, kvs, h1, h2, h3, h4, h5, e1, e2, e3, e4, e5, l⟩ := h
  have k : ∀ {b : Addr} {φ : Heap → Prop}, H b = some (.ext φ) → H' b = some (.ext φ) := fun {b φ} e => gr.keep b _ e (.inr fun kvs z => by cases z)
  by_cases q : d ∈ S
  · obtain ⟨k', e6, l6⟩ := gr.dict d q kvs e5
    exact ⟨F, c1, c2, k', h1, h2, h3, h4, h5, k e1, k e2, k e3, k e4, e6, by omega⟩
  · exact ⟨F, c1, c2, kvs, h1, h2, h3, h4, h5, k e1, k e2, k e3, k e4, gr.keep d _ e5 (.inl q), by omega⟩
theorem MkA.mono {H : Hp} {g d : Addr} {c n m : Nat} (h : MkA H g d c n) (l : n ≤ m) : MkA H g d c m := by
  obtain ⟨F, c1, c2, kvs, h1, h2, h3, h4, h5, e1, e2, e3, e4, e5, l'⟩ := h
  exact ⟨F, c1, c2, kvs, h1, h2, h3, h4, h5, e1, e2, e3, e4, e5, by omega⟩
section
variable {P : Program} {w : World} {K : PySem.W.Frag} {mg : Str → Option Value} {base : Heap}
def spIn (CU : Addr) (ws : List (Option V)) : Sp := fun vs H Q E => ∃ (d : Addr) (c : Nat) (z : Str) (kvs : List (Key × V)), ws = [some (.ref d), some (.str (sgn c))] ∧ vs = [.str z] ∧ z.length ≤ 100 ∧ H d = some (.dK kvs) ∧ kvs.length ≤ 100 ∧
  (c ∉ tl z → ∀ H' v, Grow [d] 1 H H' → Q v H') ∧ (c ∈ tl z → ∀ (y : Str) H' x, Same H H' → H x = none → H' x = some (.xd [(("why" : Str), .str y)]) → E (.ref CU) (some x) H')
theorem ok_inner {CU fE : Addr} {fdE : FuncData} {k : Nat} (FE : ErrD K fE fdE) (TE : ErrT K mg "Unmade" CU fE fdE) :
    ∀ f F, FSi F → NOk P w K mg base (L2.CX P w) (k + 3) f F ["_law_word"] ["_law_kept", "_law_bad"] (spIn CU) := by
  have GE : FnOk P w K mg base CX0 (k + 1) fE fdE ["self", "why"] (spErr CU) := ok_err FE TE
  intro f F hF
  obtain ⟨cl, cd, rfl⟩ := hF
  refine nok_of (N := ["_law_word", "_law_kept", "_law_bad"]) sc_inner (fun doc pm ctv us hl => match us, hl with | [_], _ => rfl) (fun ws vs H Q E h => ?_) (fun A outer s H vs ws Q E hr hf hc hl h => ?_)
  · obtain ⟨d, c, z, kvs, rfl, rfl, _⟩ := h
    rfl
  · obtain ⟨d, c, z, kvs, rfl, rfl, hz, ed, lk, q, qx⟩ := h
    refine ⟨_, pss_cons (ps_if (pt_cmpR op_in_sign (pv 2) (pv 0) (by rfl)) (pss_one (ps_raise rfl (takes_of rfl rfl rfl rfl) (pmk_oex TE.o TE.i TE.t GE hr TE.b .nil pass0 (by rfl) TE.g (pa_cons (pe_op op_add_str (pe_op op_add_str (pe_op op_add_str pe_str (pv 2)) pe_str) (pv 0)) pa_nil)))) pss_nil)
      (pss_one (ps_ret (pe_dsetd (pv 1) (pv 0) (pe_lst (pa_cons (pv 0) pa_nil)) ⟨rfl, rfl, rfl, rfl⟩))), ?_⟩
    have sz : sizeLine = 16777216 := sizeLine_eq
    have l1 : (Str.ofString "no ").length = 3 := by decide +kernel
    have l2 : (Str.ofString " in ").length = 4 := by decide +kernel
    have l3 : (sgn c).length = 1 := rfl
    refine ⟨.str (sgn c), rfl, .str z, rfl, c, z, rfl, rfl, _, rfl, ite2 (fun e => ?_) (fun e => ?_)⟩
    · have hc : c ∈ tl z := of_decide_eq_true e
      refine ⟨.str (sgn c), rfl, _, _, rfl, rfl, ?_, _, _, rfl, rfl, ?_, .str z, rfl, _, _, rfl, rfl, ?_, by show 1 ≤ 1000; decide, fun x nx => err_out (fun H' d sm nd ed => qx hc _ H' d sm nd ed) x nx⟩
      · rw [l1, l3]
        omega
      · rw [Str.length_append, l1, l2, l3]
        omega
      · rw [Str.length_append, Str.length_append, l1, l2, l3]
        omega
    · have hc : c ∉ tl z := fun h => e (decide_eq_true h)
      refine ⟨.ref d, rfl, d, rfl, .inl ⟨kvs, .inl ed⟩, .str z, rfl, .str z, rfl, by show 1 ≤ sizeLine; decide, fun l nl => ?_⟩
      have ndl : d ≠ l := ne_of_none ed nl
      refine ⟨kvs, Sum.inr z, by rw [upd_ne ndl]; exact ed, rfl, by omega, fun v _ => q hc _ _ (Grow.of_same (same_upd nl) 1), fun _ => q hc _ _ ⟨fun b o e n => ?_, fun d' hd' kvs' e' => ?_⟩⟩
      · have nb : b ≠ d := fun z => by
          subst z
          rw [ed] at e
          cases e
          exact n.elim (fun h => h List.mem_cons_self) (fun h => h _ rfl)
        rw [upd_ne nb, upd_ne (ne_of_none e nl)]
        exact e
      · have z := List.mem_singleton.mp hd'
        subst z
        rw [ed] at e'
        cases e'
        exact ⟨_, upd_same, length_putK _ _ _⟩
/-- the names of the code objects that _law_own's table tells -/
def nmT : Nat → Nat → Str := fun _ _ => qIn
theorem TabN.upd {H : Hp} {T a : Addr} {o : HO} {nm : Nat → Nat → Str} (t : TabN H T nm) (n : H a = none) : TabN (upd H a o) T nm := t.ext fun b u e => by
  rw [upd_ne (ne_of_none e n)]
  exact e
theorem TabN.grow {S : List Addr} {m : Nat} {H H' : Hp} {T : Addr} {nm : Nat → Nat → Str} (t : TabN H T nm) (g : Grow S m H H') : TabN H' T nm := by
  obtain ⟨ps, h1, h2, h3⟩ := t
  refine ⟨ps, g.keep _ _ h1 (.inr fun kvs z => by cases z), h2, fun pos cv e => ?_⟩
  obtain ⟨c, e1, e2⟩ := h3 pos cv e
  exact ⟨c, e1, g.keep _ _ e2 (.inr fun kvs z => by cases z)⟩
def spOwn (T : Addr) : Sp := fun vs H Q _ => ∃ (d : Addr) (c : Nat), vs = [.ref d, .str (sgn c)] ∧ H d = some (.dK []) ∧ TabN H T nmT ∧ ∀ H' g, LamX.ExtN H H' → TabN H' T nmT → H g = none → MkA H' g d c 0 → Q (.ref g) H'
theorem ok_own {f c T : Addr} {oc kV doc pm ct : Value} {an od : Option Addr} {osl : Array (Option Value)} {k : Nat}
    (lk : K.lookup f = some ⟨oc, od, .func (PySem.W.fnOf "_law_own" "_law_own" (defArgs st_own) (defBody st_own) (defScope st_own) .none kV doc pm an (.ref c) ct), osl⟩) (hcd : PySem.W.codeIn K (.ref c) "_law_own" = true) (TB : TabB base mg c T) :
    FnOk P w K mg base CX0 (k + 1) f (PySem.W.fnOf "_law_own" "_law_own" (defArgs st_own) (defBody st_own) (defScope st_own) .none kV doc pm an (.ref c) ct) ["_law_kept", "_law_bad"] (spOwn T) := by
  refine fn_ofC2 (y1 := "_law_kept") (y2 := "_law_bad") (z := "_law_inner") (i := 2) (j1 := 0) (j2 := 1) lk hcd sc_own (fun vs H Q E h => ?_) rfl rfl (.inl rfl) rfl rfl rfl rfl (by decide) (by decide) (fun A outer s H vs Q E hr h => ?_)
  · obtain ⟨d, c, rfl, _⟩ := h
    rfl
  · obtain ⟨d, c, rfl, ed, tab, q⟩ := h
    refine ⟨_, NdefX.ps_ndefMS (st := st_inner) (T := [(T, nmT)]) (nm := nmT) (i := 2) rfl TB rfl (List.mem_singleton.mpr rfl) rfl (fun p hp _ => by rw [List.mem_singleton.mp hp]) (NdefX.ndef_free free_inner) rfl rfl rfl sc_own.nd rfl (Or.inl rfl) (Or.inr rfl), ?_⟩
    refine ⟨fun p hp => by rw [List.mem_singleton.mp hp]; exact tab, fun g cd H1 ext _ tabs ng eg ec => ?_⟩
    refine ⟨g, .ref d, .str (sgn c), rfl, rfl, rfl, fun c1 c2 hc1 hc2 n1 n2 => ?_⟩
    have nc : c1 ≠ c2 := fun z => by
      have hc1' : (PySem.cellsFrom (s.heap.objs.size + 1) (defScope st_own).names []).lookup ("_law_kept" : Str) = some c1 := hc1
      have hc2' : (PySem.cellsFrom (s.heap.objs.size + 1) (defScope st_own).names []).lookup ("_law_bad" : Str) = some c2 := hc2
      obtain ⟨h1, h2⟩ := own_cells (s.heap.objs.size + 1)
      rw [h1] at hc1'
      rw [h2] at hc2'
      have e1 := Option.some.inj hc1'
      have e2 := Option.some.inj hc2'
      exact Nat.succ_ne_self _ (e2.trans (z.symm.trans e1.symm))
    refine ⟨nc, ?_⟩
    have sm : Same H1 (on2 H1 c1 c2 (.ref d) (.str (sgn c))) := fun b o e => by
      rw [on2_ne (ne_of_none e n1) (ne_of_none e n2)]
      exact e
    refine q _ g (fun b o e n => sm _ _ (ext b o e n)) ((tabs _ (List.mem_singleton.mpr rfl)).ext sm) ng ?_
    refine ⟨_, c1, c2, [], ⟨_, cd, rfl⟩, ?_, ?_, ?_, nc, sm _ _ eg, sm _ _ ec, on2_1 nc, on2_2, sm _ _ (ext d _ ed (fun _ z => by cases z)), Nat.le_refl _⟩
    · exact NdefX.clo_has (fun x hx e => by
        rcases only_two x hx e with z | z
        · exact ⟨c1, by rw [z]; exact hc1⟩
        · exact ⟨c2, by rw [z]; exact hc2⟩) kept_in hc1
    · exact NdefX.clo_has (fun x hx e => by
        rcases only_two x hx e with z | z
        · exact ⟨c1, by rw [z]; exact hc1⟩
        · exact ⟨c2, by rw [z]; exact hc2⟩) bad_in hc2
    · intro x d' e
      rcases cloFrom_mem (PySem.mem_of_lookup e) with z | ⟨z, _⟩
      · cases z
      · exact only_two _ z rfl
end
end WB

set_option Elab.async false
set_option linter.all false
set_option maxRecDepth 100000
set_option maxHeartbeats 4000000
namespace WB
open PySem PySem.Spec PyProof.Rows L2 WG
open NdefX (NF FnO)
open LamX (CodeO)
open TL (tl)
abbrev st_is_text_within : Stmt := topS 4
theorem sc_is_text_within : FnScope ["value", "most"] ["value", "most"] (defScope st_is_text_within) := ⟨rfl, rfl, rfl, by decide +kernel, rfl, by decide +kernel, by decide +kernel⟩
abbrev st_is_name : Stmt := topS 5
theorem sc_is_name : FnScope ["value", "sign"] ["value"] (defScope st_is_name) := ⟨rfl, rfl, rfl, by decide +kernel, rfl, by decide +kernel, by decide +kernel⟩
abbrev st_kind_of : Stmt := topS 20
theorem sc_kind_of : FnScope ["word"] ["word"] (defScope st_kind_of) := ⟨rfl, rfl, rfl, by decide +kernel, rfl, by decide +kernel, by decide +kernel⟩
abbrev st_makes_of : Stmt := topS 22
theorem sc_makes_of : FnScope ["maker", "word"] ["maker", "word"] (defScope st_makes_of) := ⟨rfl, rfl, rfl, by decide +kernel, rfl, by decide +kernel, by decide +kernel⟩
abbrev st_is_sample : Stmt := topS 23
theorem sc_is_sample : FnScope ["value", "maker"] ["value", "maker"] (defScope st_is_sample) := ⟨rfl, rfl, rfl, by decide +kernel, rfl, by decide +kernel, by decide +kernel⟩
def nameSet : Str := Str.ofString "abcdefghijklmnopqrstuvwxyz0123456789-"
def nm (cs : List Nat) : Bool := decide (cs ≠ []) && decide (cs.length ≤ 10) && !decide (cs.take 1 = [45]) && !decide (cs.getLast? = some 45) && !decide (cs.take 3 = [110, 111, 45]) && cs.all fun c => decide (c ∈ tl nameSet)
theorem starts (x y : Str) : Txt.startswith x y = ((tl x).take (tl y).length == tl y) := by
  unfold Txt.startswith
  rw [StrLaws.subAt_eq, List.drop_zero, TL.len_tl y]
  by_cases h : (tl y).length ≤ (tl x).length
  · have e : decide (0 + (tl y).length ≤ x.length) = true := decide_eq_true (by rw [TL.len_tl x]; omega)
    rw [e, Bool.true_and]
  · have e : decide (0 + (tl y).length ≤ x.length) = false := decide_eq_false (by rw [TL.len_tl x]; omega)
    rw [e, Bool.false_and]
    cases q : ((tl x).take (tl y).length == tl y) with
    | false => rfl
    | true =>
      have z := congrArg List.length (eq_of_beq q)
      rw [List.length_take] at z
      omega
theorem starts_lit (x : Str) (s : String) {l : List Nat} (hl : tl (Str.ofString s) = l) : Txt.startswith x (Str.ofString s) = decide ((tl x).take l.length = l) := by
  rw [starts, hl]
  cases q : ((tl x).take l.length == l) with
  | true => exact (decide_eq_true (eq_of_beq q)).symm
  | false => exact (decide_eq_false (fun e => by rw [e] at q; simp at q)).symm
theorem drop_last {l : List Nat} (h : l ≠ []) : l.drop (l.length - 1) = [l.getLast h] := by
  have e := List.dropLast_concat_getLast h
  have hl : l.length - 1 = l.dropLast.length := by rw [List.length_dropLast]
  rw [hl]
  conv => lhs; rw [← e]
  rw [List.dropLast_concat, List.drop_left]
theorem ends_dash (x : Str) : Txt.endswith x (Str.ofString "-") = decide ((tl x).getLast? = some 45) := by
  unfold Txt.endswith
  have e1 : (Str.ofString "-").length = 1 := by decide +kernel
  have e2 : (Str.ofString "-").cps.toList = [45] := by decide +kernel
  rw [StrLaws.subAt_eq, e1, e2, TL.len_tl x]
  cases hx : tl x with
  | nil => rfl
  | cons c r =>
    have hx' : x.cps.toList = c :: r := hx
    rw [hx']
    have e3 : decide (0 + 1 ≤ (c :: r).length) = true := decide_eq_true (by rw [List.length_cons]; omega)
    rw [e3, Bool.true_and]
    have e4 : ((c :: r).drop ((c :: r).length - 1)).take 1 = [(c :: r).getLast (List.cons_ne_nil c r)] := by
      rw [drop_last (List.cons_ne_nil c r)]
      rfl
    rw [e4, List.getLast?_eq_getLast (List.cons_ne_nil c r)]
    cases q : ([(c :: r).getLast (List.cons_ne_nil c r)] == [45]) with
    | true =>
      have := eq_of_beq q
      injection this with a b
      rw [a]
      rfl
    | false =>
      refine (decide_eq_false fun e => ?_).symm
      rw [Option.some.inj e] at q
      cases q
theorem eq_lit (x : Str) (s : String) : (V.str x = V.str (Str.ofString s)) ↔ tl x = tl (Str.ofString s) := by
  constructor
  · intro h
    rw [V.str.inj h]
  · intro h
    rw [TL.ext_tl h]
theorem dec_lit (x : Str) (s : String) {l : List Nat} (hl : tl (Str.ofString s) = l) : decide (V.str x = V.str (Str.ofString s)) = decide (tl x = l) := by
  rw [← hl]
  exact decide_eq_decide.mpr (eq_lit x s)
def isNm : V → Bool
  | .str z => nm (tl z)
  | _ => false
section
variable {P : Program} {w : World} {K : PySem.W.Frag} {mg : Str → Option Value} {base : Heap}
def within (v : V) (m : Int) : Bool := match v with
  | .str z => decide ((z.length : Int) ≤ m)
  | _ => false
def spWithin : Sp := fun vs H Q _ => ∃ (z : Str) (m : Int), vs = [.str z, .int m] ∧ z.length ≤ 1000 ∧ Q (.bl (within (.str z) m)) H
theorem ok_within {f : Addr} {fd : FuncData} {k : Nat} (F : Fun K "is_text_within" "is_text_within" st_is_text_within f fd) (m_len : mg "len" = none) (m_str : mg "str" = none) (m_isinstance : mg "isinstance" = none) :
    FnOk P w K mg base CX0 (k + 1) f fd ["value", "most"] spWithin := by
  refine F.ok sc_is_text_within (fun vs H Q E h => ?_) (fun cdv A outer s H vs Q E hr h => ?_)
  · obtain ⟨v, m, rfl, _⟩ := h
    rfl
  · obtain ⟨z, m, rfl, hz, q⟩ := h
    refine ⟨_, pss_one (ps_ret (pe_and (pe_callB call_isi (by rfl) m_isinstance (by decide +kernel) (pa_cons (pv 0) (pa_cons (pe_bltn (v := .ty "str") (by rfl) m_str (by decide +kernel) rfl) pa_nil))) (pe_one (pe_cmpR op_le (pe_callB call_len_str (by rfl) m_len PySem.boot_len (pa_cons (pv 0) pa_nil)) (pv 1) (nomark _))))), ?_⟩
    exact ⟨.str z, rfl, .str z, _, _, _, true, rfl, ClsV.ty "str", TyX.base (TyOf.str _), kit_ty (by decide +kernel), _, rfl, _, rfl, z, rfl, Nat.le_of_lt (small1000 hz), _, rfl, _, _, rfl, rfl, q⟩
def spName : Sp := fun vs H Q _ => ∃ z : Str, vs = [.str z] ∧ z.length ≤ 1000 ∧ ∀ H', Same H H' → Q (.bl (isNm (.str z))) H'
theorem ok_isName {f fW : Addr} {fd fdW : FuncData} {k : Nat} {u1 u2 : Tok} (F : Fun K "is_name" "is_name" st_is_name f fd) (D_is_text_within : Df K mg "is_text_within" st_is_text_within ["value", "most"] fW fdW)
    (m_len : mg "len" = none) (m_str : mg "str" = none) (m_isinstance : mg "isinstance" = none) (m_all : mg "all" = none) (c_MOST_NAME_SIGNS : mg "MOST_NAME_SIGNS" = some (.int 10 u1)) (c_NAME_SIGNS : mg "NAME_SIGNS" = some (.str nameSet u2)) :
    FnOk P w K mg base CX0 (k + 2) f fd ["value"] spName := by
  have G_is_text_within : FnOk P w K mg base CX0 (k + 1) fW fdW ["value", "most"] spWithin := ok_within D_is_text_within.F m_len m_str m_isinstance
  refine F.ok sc_is_name (fun vs H Q E h => ?_) (fun cdv A outer s H vs Q E hr h => ?_)
  · obtain ⟨v, rfl, _⟩ := h
    rfl
  · obtain ⟨z, rfl, hz, q⟩ := h
    refine ⟨_, pss_cons (ps_if (PW.pt (pw_or (pt_not (pt_val (pe_call G_is_text_within hr (by rfl) D_is_text_within.g D_is_text_within.F.kp D_is_text_within.b .nil pass0 (pa_cons (pv 0) (pa_cons (pe_glob (v := .int 10) rfl c_MOST_NAME_SIGNS ⟨_, rfl⟩) pa_nil))))) (pw_or1 (pt_cmpR op_eq (pv 0) pe_str (nomark _))))) (pss_one (ps_ret pe_bl)) pss_nil)
      (pss_cons (ps_if (PW.pt (pw_or (pt_val (pe_m1 PySem.F.slot_str_startswith PySem.F.type_str_startswith mt_startswith (pv 0) pe_str)) (pw_or (pt_val (pe_m1 PySem.F.slot_str_endswith PySem.F.type_str_endswith mt_endswith (pv 0) pe_str)) (pw_or1 (pt_val (pe_m1 PySem.F.slot_str_startswith PySem.F.type_str_startswith mt_startswith (pv 0) pe_str)))))) (pss_one (ps_ret pe_bl)) pss_nil)
      (pss_one (ps_ret (pe_callB (cr_all rfl) (by rfl) m_all (by decide +kernel) (pa_cons (pe_lc (own := [("sign", 1)]) (g := gName 1) (tt := tYes) rfl sc_is_name.nd (pi_str (pv 0)) (blkOk_by (N := ["value", "sign"]) (sc := defScope st_is_name) (by decide +kernel)) (fun _ _ _ _ _ => (pg_name (i := 1) sc_is_name.nd rfl (Or.inl rfl))) (fun _ _ _ _ _ => pts_nil) (fun _ _ _ _ _ => (pe_cmpR op_in_sign (pv 1) (pe_glob (v := .str nameSet) rfl c_NAME_SIGNS ⟨_, rfl⟩) (by rfl)))) pa_nil))))), ?_⟩
    refine ⟨.str z, rfl, z, 10, rfl, hz, _, rfl, ite2 (fun e => ?_) (fun e => ?_)⟩
    · have e1 : ¬ ((z.length : Int) ≤ 10) := fun c => by
        have : within (.str z) 10 = true := decide_eq_true c
        rw [this] at e
        cases e
      have e2 : isNm (.str z) = false := by
        show nm (tl z) = false
        unfold nm
        rw [decide_eq_false (p := (tl z).length ≤ 10) (by rw [← TL.len_tl]; omega)]
        simp
      rw [e2] at q
      exact q _ (Same.refl _)
    · have e1 : (z.length : Int) ≤ 10 := by
        have : within (.str z) 10 = true := by
          cases c : within (.str z) 10 with
          | true => rfl
          | false => rw [c] at e; exact absurd rfl e
        exact of_decide_eq_true this
      refine ⟨.str z, rfl, rfl, _, rfl, ite2 (fun e => ?_) (fun e => ?_)⟩
      · have e2 : tl z = [] := (eq_lit z "").mp (of_decide_eq_true e)
        have e3 : isNm (.str z) = false := by
          show nm (tl z) = false
          rw [e2]
          rfl
        rw [e3] at q
        exact q _ (Same.refl _)
      · have e2 : tl z ≠ [] := fun c => e (decide_eq_true ((eq_lit z "").mpr c))
        have hlen : (tl z).length ≤ 10 := by rw [← TL.len_tl]; omega
        have neg : ∀ b : Bool, b = true → (b = true → nm (tl z) = false) → nm (tl z) = false := fun b h k => k h
        refine ⟨.str z, rfl, ⟨_, rfl⟩, _, _, rfl, rfl, _, rfl, ite2 (fun e => ?_) (fun e => ?_)⟩
        · rw [starts_lit z "-" (l := [45]) (by decide +kernel)] at e
          have e3 : isNm (.str z) = false := by
            show nm (tl z) = false
            unfold nm
            rw [show decide ((tl z).take 1 = [45]) = true from e]
            simp
          rw [e3] at q
          exact q _ (Same.refl _)
        · rw [starts_lit z "-" (l := [45]) (by decide +kernel)] at e
          have n1 : decide ((tl z).take 1 = [45]) = false := Bool.eq_false_iff.mpr e
          refine ⟨.str z, rfl, ⟨_, rfl⟩, _, _, rfl, rfl, _, rfl, ite2 (fun e => ?_) (fun e => ?_)⟩
          · rw [ends_dash z] at e
            have e3 : isNm (.str z) = false := by
              show nm (tl z) = false
              unfold nm
              rw [e]
              simp
            rw [e3] at q
            exact q _ (Same.refl _)
          · rw [ends_dash z] at e
            have n2 : decide ((tl z).getLast? = some 45) = false := Bool.eq_false_iff.mpr e
            refine ⟨.str z, rfl, ⟨_, rfl⟩, _, _, rfl, rfl, _, rfl, ite2 (fun e => ?_) (fun e => ?_)⟩
            · rw [starts_lit z "no-" (l := [110, 111, 45]) (by decide +kernel)] at e
              have e3 : isNm (.str z) = false := by
                show nm (tl z) = false
                unfold nm
                rw [show decide ((tl z).take 3 = [110, 111, 45]) = true from e]
                simp
              rw [e3] at q
              exact q _ (Same.refl _)
            · rw [starts_lit z "no-" (l := [110, 111, 45]) (by decide +kernel)] at e
              have n3 : decide ((tl z).take 3 = [110, 111, 45]) = false := Bool.eq_false_iff.mpr e
              have e3 : isNm (.str z) = (tl z).all fun c => decide (c ∈ tl nameSet) := by
                show nm (tl z) = _
                unfold nm
                rw [n1, n2, n3, decide_eq_true e2, decide_eq_true hlen]
                simp
              refine ⟨.str z, rfl, z, rfl, fun D nD => ?_⟩
              refine lc_it walk_str (fun i Hc => Same H Hc ∧ Hc D = some (.lst ((((tl z).take i).map fun c => decide (c ∈ tl nameSet)).map V.bl))) ⟨same_upd nD, upd_same⟩ (fun _ _ _ _ => True.intro) (fun i x Hc H' hi ⟨sc, eD⟩ ⟨eH, c, ec, ex⟩ => ?_) (fun Hc ⟨sc, eD⟩ => ?_)
              · subst eH ex
                have ec' : (tl z)[i]? = some c := by
                  rw [Array.getElem?_toList]
                  exact ec
                refine ⟨rfl, ?_⟩
                refine ⟨_, rfl, c, nameSet, rfl, rfl, _, eD, ?_, ?_, ?_⟩
                · rw [List.length_map, List.length_map, List.length_take]
                  exact small1000 (by omega)
                · intro b o e
                  rw [upd_ne (ne_of_none e nD)]
                  exact sc b o e
                · rw [upd_same, List.take_add_one, ec', List.map_append, List.map_append]
                  rfl
              · refine ⟨D, _, rfl, SqL.of eD, ?_⟩
                have el : z.cps.size = (tl z).length := by simp
                rw [el, List.take_length, List.all_map]
                rw [e3] at q
                exact q _ sc
/-! ### kind_of -/
/-- a plain word -/
def plainW (t : List Nat) : Bool := !(decide (1 < t.length) && decide (t.take 1 = [45]))
def spKind : Sp := fun vs H Q _ => ∃ z : Str, vs = [.str z] ∧ z.length ≤ 100 ∧ ∀ y : Str, (plainW (tl z) = true → y = Str.ofString "plain") → (plainW (tl z) = false → y ≠ Str.ofString "plain") → Q (.str y) H
theorem ok_kind {f : Addr} {fd : FuncData} {k : Nat} (F : Fun K "kind_of" "kind_of" st_kind_of f fd) (m_len : mg "len" = none) {u : Tok} (mV : mg "DIVIDER" = some (.str (Str.ofString "--") u)) : FnOk P w K mg base CX0 (k + 1) f fd ["word"] spKind := by
  refine F.ok sc_kind_of (fun vs H Q E h => ?_) (fun cdv A outer s H vs Q E hr h => ?_)
  · obtain ⟨z, rfl, _⟩ := h
    rfl
  · obtain ⟨z, rfl, hz, q⟩ := h
    refine ⟨_, pss_cons (ps_if (pt_cmpR op_eq (pv 0) (pe_glob (v := .str (Str.ofString "--")) rfl mV ⟨_, rfl⟩) (nomark _)) (pss_one (ps_ret pe_str)) pss_nil)
      (pss_cons (ps_if (pt_val (pe_m1 PySem.F.slot_str_startswith PySem.F.type_str_startswith mt_startswith (pv 0) pe_str)) (pss_one (ps_ret pe_str)) pss_nil)
      (pss_cons (ps_if (PW.pt (pw_and (pt_val (pe_m1 PySem.F.slot_str_startswith PySem.F.type_str_startswith mt_startswith (pv 0) pe_str)) (pw_and1 (pt_cmpR op_gt (pe_callB call_len_str (by rfl) m_len PySem.boot_len (pa_cons (pv 0) pa_nil)) pe_int (nomark _))))) (pss_one (ps_ret pe_str)) pss_nil)
      (pss_one (ps_ret pe_str)))), ?_⟩
    have hzl : z.length ≤ sizeLine := Nat.le_of_lt (small1000 (by omega))
    have ez := TL.len_tl z
    have d1 : Str.ofString "divider" ≠ Str.ofString "plain" := by decide +kernel
    have d2 : Str.ofString "long" ≠ Str.ofString "plain" := by decide +kernel
    have d3 : Str.ofString "shorts" ≠ Str.ofString "plain" := by decide +kernel
    refine ⟨_, rfl, rfl, _, rfl, ite2 (fun e => ?_) (fun e => ?_)⟩
    · have e1 : tl z = [45, 45] := ((eq_lit z "--").mp (of_decide_eq_true e)).trans (by decide +kernel)
      exact q _ (fun h => by rw [e1] at h; exact absurd h (by decide)) (fun _ => d1)
    refine ⟨_, rfl, ⟨_, rfl⟩, _, _, rfl, rfl, _, rfl, ite2 (fun e => ?_) (fun e => ?_)⟩
    · rw [starts_lit z "--" (l := [45, 45]) (by decide +kernel)] at e
      have e1 : (tl z).take 2 = [45, 45] := of_decide_eq_true e
      refine q _ (fun h => ?_) (fun _ => d2)
      exfalso
      unfold plainW at h
      have h1 : (tl z).take 1 = [45] := by
        have : ((tl z).take 2).take 1 = [45] := by rw [e1]; rfl
        rw [List.take_take] at this
        exact this
      have h2 : 1 < (tl z).length := by
        have := congrArg List.length e1
        rw [List.length_take] at this
        have e3 : [45, 45].length = 2 := rfl
        omega
      rw [decide_eq_true h1, decide_eq_true h2] at h
      cases h
    dsimp only [tNext, tSeq, tIfS]
    refine tt_use (t := tAnd _ _) (b := !plainW (tl z)) (fun R c => ?_) ?_
    · refine ⟨_, rfl, ⟨_, rfl⟩, _, _, rfl, rfl, _, rfl, ?_⟩
      rw [starts_lit z "-" (l := [45]) (by decide +kernel)]
      refine ite2 (fun e1 => ?_) (fun e1 => ?_)
      · have e2 : (tl z).take 1 = [45] := of_decide_eq_true e1
        refine ⟨_, rfl, z, rfl, hzl, _, _, rfl, rfl, _, rfl, ?_⟩
        have : (!plainW (tl z)) = decide ((1 : Int) < (z.length : Int)) := by
          unfold plainW
          rw [decide_eq_true e2, Bool.and_true, Bool.not_not, ← ez]
          by_cases h : 1 < z.length
          · rw [decide_eq_true h, decide_eq_true (by omega)]
          · rw [decide_eq_false h, decide_eq_false (by omega)]
        rw [this] at c
        exact c
      · have e2 : ¬ (tl z).take 1 = [45] := fun h => e1 (decide_eq_true h)
        have : (!plainW (tl z)) = false := by
          unfold plainW
          rw [decide_eq_false e2, Bool.and_false]
          rfl
        rw [this] at c
        exact c
    cases hp : plainW (tl z) with
    | true =>
      rw [hp] at q
      exact q _ (fun _ => rfl) (fun h => by cases h)
    | false =>
      rw [hp] at q
      exact q _ (fun h => by cases h) (fun _ => d3)
/-! ### makes_of -/
def tbMakes (CU : Addr) (W : WX) : TS := tDrop (tCallC2 ("_law_kept" : Str) ("_law_bad" : Str) FSi 0 (spIn CU) (WE W) (tCons (tVar 1) tNil))
def spMakes : Sp := fun vs H Q _ => ∃ (g d : Addr) (c n : Nat) (z : Str), vs = [.ref g, .str z] ∧ MkA H g d c n ∧ n ≤ 100 ∧ z.length ≤ 100 ∧ ∀ H', Grow [d] 1 H H' → Q (.bl (!decide (c ∈ tl z))) H'
theorem grow_on2 {H H2 : Hp} {c1 c2 d : Addr} {v1 v2 : V} {m : Nat} (nc : c1 ≠ c2) (e1 : H c1 = some (CellV c1 v1)) (e2 : H c2 = some (CellV c2 v2)) (g : Grow [d] m (off2 H c1 c2) H2) (n1 : d ≠ c1) (n2 : d ≠ c2) : Grow [d] m H (on2 H2 c1 c2 v1 v2) := by
  refine ⟨fun b o e z => ?_, fun d' hd kvs e => ?_⟩
  · by_cases b1 : b = c1
    · subst b1
      rw [on2_1 nc, ← e1]
      exact e
    · by_cases b2 : b = c2
      · subst b2
        rw [on2_2, ← e2]
        exact e
      · rw [on2_ne b1 b2]
        exact g.keep b o (by rw [off2_ne b1 b2]; exact e) z
  · have q := List.mem_singleton.mp hd
    subst q
    obtain ⟨k, h1, h2⟩ := g.dict d' hd kvs (by rw [off2_ne n1 n2]; exact e)
    exact ⟨k, by rw [on2_ne n1 n2]; exact h1, h2⟩
theorem ok_makes {CU BE f fE : Addr} {fd fdE : FuncData} {k : Nat} (F : Fun K "makes_of" "makes_of" st_makes_of f fd) (G_in : ∀ f F, FSi F → NdefX.NOk P w K mg base (L2.CX P w) (k + 3) f F ["_law_word"] ["_law_kept", "_law_bad"] (spIn CU)) (TE : ErrT K mg "Unmade" CU fE fdE) (CT : CaughtT K CU BE) :
    FnOk P w K mg base CX0 (k + 4) f fd ["maker", "word"] spMakes := by
  refine F.ok sc_makes_of (fun vs H Q E h => ?_) (fun cdv A outer s H vs Q E hr h => ?_)
  · obtain ⟨g, d, c, n, z, rfl, _⟩ := h
    rfl
  · obtain ⟨g, d, c, n, z, rfl, mk, hn, hz, q⟩ := h
    refine ⟨_, PSs.nox (pss_cons (ps_try_only (tb := tbMakes CU) (ts := fun _ _ _ => tRet (tC (.bl false))) (Wout := fun _ _ _ _ => False) rfl rfl ⟨rfl, by decide, Or.inl TE.g⟩ takes0
        (fun W pn xe tk _ => pss_one (ps_expr (by exact (pe_callC2 (y1 := ("_law_kept" : Str)) (y2 := ("_law_bad" : Str)) (FS := FSi) G_in hr rfl (.inl rfl) (fun σ => passAt tk σ) (by exact (pa_cons (pv 1) pa_nil))))))
        (fun a oe cls d pn hz hf => pss_one (ps_ret pe_bl)))
      (pss_one (ps_ret pe_bl))), ?_⟩
    obtain ⟨F', c1, c2, kvs, h1, h2, h3, h4, h5, e1, e2, e3, e4, e5, l⟩ := mk
    have n1 : d ≠ c1 := ne_of e5 e3 (by intro z; cases z)
    have n2 : d ≠ c2 := ne_of e5 e4 (by intro z; cases z)
    have ed : off2 H c1 c2 d = some (.dK kvs) := by rw [off2_ne n1 n2]; exact e5
    refine ⟨g, F', c1, c2, .ref d, .str (sgn c), rfl, h1, h2, h3, h4, h5, e1, .str z, rfl, e1, e2, e3, e4, ?_⟩
    refine ⟨d, c, z, kvs, rfl, rfl, hz, ed, by omega, fun hc H' v gr f1 f2 => ?_, fun hc y H' x sm nx ex f1 f2 => ?_⟩
    · rw [decide_eq_false hc] at q
      exact q _ (grow_on2 h5 e3 e4 gr n1 n2)
    · rw [decide_eq_true hc] at q
      refine ⟨true, CT.e, fun _ a na => ?_, fun r => Bool.noConfusion r⟩
      exact q _ (grow_on2 h5 e3 e4 (Grow.of_same sm 1) n1 n2)
/-! ### is_sample -/
def spSample : Sp := fun vs H Q _ => ∃ (g d : Addr) (c n : Nat) (z : Str), vs = [.str z, .ref g] ∧ MkA H g d c n ∧ n ≤ 100 ∧ z.length ≤ 100 ∧ ∀ H', Grow [d] 1 H H' → Q (.bl (plainW (tl z) && !decide (c ∈ tl z))) H'
theorem ok_sample {f fK fM : Addr} {fd fdK fdM : FuncData} {k : Nat} (F : Fun K "is_sample" "is_sample" st_is_sample f fd) (D_kind_of : Df K mg "kind_of" st_kind_of ["word"] fK fdK) (D_makes_of : Df K mg "makes_of" st_makes_of ["maker", "word"] fM fdM)
    (G_makes_of : FnOk P w K mg base CX0 (k + 4) fM fdM ["maker", "word"] spMakes) (m_len : mg "len" = none) {u : Tok} (mV : mg "DIVIDER" = some (.str (Str.ofString "--") u)) (m_isinstance : mg "isinstance" = none) (m_str : mg "str" = none) :
    FnOk P w K mg base CX0 (k + 5) f fd ["value", "maker"] spSample := by
  have G_kind_of : FnOk P w K mg base CX0 (k + 4) fK fdK ["word"] spKind := ok_kind D_kind_of.F m_len mV
  refine F.ok sc_is_sample (fun vs H Q E h => ?_) (fun cdv A outer s H vs Q E hr h => ?_)
  · obtain ⟨g, d, c, n, z, rfl, _⟩ := h
    rfl
  · obtain ⟨g, d, c, n, z, rfl, mk, hn, hz, q⟩ := h
    refine ⟨_, pss_one (ps_ret (pe_and (pe_callB call_isi (by rfl) m_isinstance (by decide +kernel) (pa_cons (pv 0) (pa_cons (pe_bltn (v := .ty "str") (by rfl) m_str (by decide +kernel) rfl) pa_nil))) (pe_and (pe_cmpR op_eq (pe_call G_kind_of hr (by rfl) D_kind_of.g D_kind_of.F.kp D_kind_of.b .nil pass0 (pa_cons (pv 0) pa_nil)) pe_str (nomark _)) (pe_one (pe_call G_makes_of hr (by rfl) D_makes_of.g D_makes_of.F.kp D_makes_of.b .nil pass0 (pa_cons (pv 1) (pa_cons (pv 0) pa_nil))))))), ?_⟩
    refine ⟨.str z, rfl, .str z, _, _, _, true, rfl, ClsV.ty "str", TyX.base (TyOf.str _), kit_ty (by decide +kernel), _, rfl, ?_⟩
    refine ⟨.str z, rfl, z, rfl, hz, fun y y1 y2 => ?_⟩
    refine ⟨rfl, _, rfl, ?_⟩
    cases hp : plainW (tl z) with
    | true =>
      rw [y1 hp, decide_eq_true rfl]
      rw [hp] at q
      exact ⟨.ref g, rfl, .str z, rfl, g, d, c, n, z, rfl, mk, hn, hz, q⟩
    | false =>
      rw [decide_eq_false (fun h => y2 hp (V.str.inj h))]
      rw [hp] at q
      exact q _ (Grow.of_same (Same.refl _) 1)
end
end WB

set_option Elab.async false
set_option linter.all false
set_option maxRecDepth 100000
set_option maxHeartbeats 4000000
namespace WB
open PySem PySem.Spec PyProof.Rows L2 WG
open TL (tl)
abbrev st_NoMaker_init : Stmt := inClass (topS 14) 0
theorem sc_NoMaker_init : FnScope ["self", "who"] ["self", "who"] (defScope st_NoMaker_init) := ⟨rfl, rfl, rfl, by decide +kernel, rfl, by decide +kernel, by decide +kernel⟩
abbrev st_minit : Stmt := inClass (topS 24) 0
abbrev st_mnames : Stmt := inClass (topS 24) 1
theorem sc_minit : FnScope ["self", "table", "name", "maker", "sample"] ["self", "table"] (defScope st_minit) := ⟨rfl, rfl, rfl, by decide +kernel, rfl, by decide +kernel, by decide +kernel⟩
theorem sc_mnames : FnScope ["self"] ["self"] (defScope st_mnames) := ⟨rfl, rfl, rfl, by decide +kernel, rfl, by decide +kernel, by decide +kernel⟩
/-! ### NoMaker -/
structure ErrM (K : PySem.W.Frag) (mg : Str → Option Value) (C fI : Addr) (fd : FuncData) : Prop where
  o : OexC K C
  i : PySem.W.findIn K (.ref C) "__init__" = some (some (.ref fI))
  t : PySem.W.typeIn K (.ref fI) = some (.type "function")
  nf : PySem.W.findIn K (.ref C) "who" = some none
  g : mg "NoMaker" = some (.ref C)
  b : Binds K fd ["self", "who"] []
theorem who_look {v : V} : List.lookup ("who" : Str) [(("who" : Str), v)] = some v := by simp [List.lookup]
/-! ### a walk over items -/
theorem for_items {d : Addr} {o : Obj} {kvs : List (Key × V)} {g : TG} {tb : TS} {D : Ends} {σ : L2.St} {H : Hp} (Pv : Nat → L2.St → Hp → Prop) (h0 : Pv 0 σ H) (hl : ∀ i σ H, i ≤ kvs.length → Pv i σ H → H d = some (.frz o (.dK kvs)))
    (hs : ∀ (i : Nat) (k : Key) (v : V) (σ : L2.St) (H : Hp) (T : Addr), kvs[i]? = some (k, v) → H T = none → Pv i σ H → g (.ref T) σ (upd H T (.tup [kV k, v])) fun σ2 H2 => tb { D with nx := Pv (i + 1), ct := Pv (i + 1), bk := D.nx } σ2 H2) (hd : ∀ σ H, Pv kvs.length σ H → D.nx σ H) :
    ∃ W : Nat → Nat → L2.St → Hp → Prop, (∃ m, W 0 m σ H) ∧ ∀ i m σ H, W i m σ H →
      ((Iti d o kvs).stop i H ∧ D.nx σ H) ∨ ((Iti d o kvs).go i H ∧ ∃ N : L2.St → Hp → Prop, (∀ σ' H', N σ' H' → ∃ m', m' < m ∧ W (i + 1) m' σ' H') ∧ ∀ x H', (Iti d o kvs).yld i H x H' → g x σ H' fun σ2 H2 => tb { D with nx := N, ct := N, bk := D.nx } σ2 H2) := by
  refine ⟨fun i m σ H => m = kvs.length - i ∧ i ≤ kvs.length ∧ Pv i σ H, ⟨kvs.length, by simp, Nat.zero_le _, h0⟩, ?_⟩
  rintro i m σ H ⟨rfl, hi, p⟩
  have q := hl i σ H hi p
  by_cases hlt : i < kvs.length
  · refine .inr ⟨⟨q, hlt⟩, Pv (i + 1), fun σ' H' p' => ⟨kvs.length - (i + 1), by omega, rfl, hlt, p'⟩, fun x H' y => ?_⟩
    obtain ⟨T, k, v, e, rfl, nT, rfl⟩ := y
    exact hs i k v σ H T e nT p
  · have e : i = kvs.length := by omega
    subst e
    exact .inl ⟨⟨q, Nat.le_refl _⟩, hd σ H p⟩
/-! ### tables -/
structure Ent where
  nmE : Str
  bad : Nat
  smp : Str
  tp : Addr
  fn : Addr
  dc : Addr
def kvsOf (es : List Ent) : List (Key × V) := es.map fun e => (Sum.inr e.nmE, V.ref e.tp)
structure EntOk (H : Hp) (n : Nat) (e : Ent) : Prop where
  tp : H e.tp = some (.tup [.ref e.fn, .str e.smp])
  ma : MkA H e.fn e.dc e.bad n
  nl : e.nmE.length ≤ 100
  sl : e.smp.length ≤ 100
theorem EntOk.grow {S : List Addr} {m n : Nat} {H H' : Hp} {e : Ent} (h : EntOk H n e) (g : Grow S m H H') : EntOk H' (n + m) e := ⟨g.keep _ _ h.tp (.inr fun kvs z => by cases z), h.ma.grow g, h.nl, h.sl⟩
def okE (e : Ent) : Bool := isNm (.str e.nmE) && (plainW (tl e.smp) && !decide (e.bad ∈ tl e.smp))
abbrev dcs (es : List Ent) : List Addr := es.map (·.dc)
theorem del_grow {S : List Addr} {m : Nat} {H H' : Hp} {x : Addr} {o : HO} (n : H x = none) (g : Grow S m (del (upd H x o) x) H') : Grow S m H H' := by
  have k : ∀ {b : Addr} {u : HO}, H b = some u → del (upd H x o) x b = some u := fun {b u} e => by
    have nb : b ≠ x := ne_of_none e n
    rw [del_ne nb, upd_ne nb]
    exact e
  exact ⟨fun b u e z => g.keep b u (k e) z, fun d hd kvs e => g.dict d hd kvs (k e)⟩
/-- Makers, as the written part tells it -/
structure ClsT (K : PySem.W.Frag) (C : Addr) : Prop where
  cl : Cls K C
  nh : NoAttr K C "table"
section
variable {P : Program} {w : World} {K : PySem.W.Frag} {mg : Str → Option Value} {base : Heap}
def spErrM (C : Addr) : Sp := fun vs H Q _ => ∃ (a : Addr) (y : V), vs = [.ref a, y] ∧ H a = some (exo a C none) ∧ ∀ dx, H dx = none → dx ≠ a → Q .non (upd (upd H dx (exd dx [(("who" : Str), y)])) a (exo a C (some dx)))
theorem ok_errM {C f : Addr} {fd : FuncData} {k : Nat} (F : Fun K "__init__" "NoMaker.__init__" st_NoMaker_init f fd) (T : ErrM K mg C f fd) : FnOk P w K mg base CX0 (k + 1) f fd ["self", "who"] (spErrM C) := by
  refine F.ok sc_NoMaker_init (fun vs H Q E h => ?_) (fun cdv A outer s H vs Q E hr h => ?_)
  · obtain ⟨a, y, rfl, _⟩ := h
    rfl
  · obtain ⟨a, y, rfl, ea, q⟩ := h
    refine ⟨_, pss_one (ps_ost (pv 0) (pv 1)), ?_⟩
    exact ⟨y, rfl, .ref a, rfl, a, C, rfl, T.o, T.nf, .inl ⟨ea, fun dx n ne => q dx n ne⟩⟩
theorem err_outM {C : Addr} {y : V} {H : Hp} {E : XK} (h : ∀ H' d, Same H H' → H d = none → H' d = some (.xd [(("who" : Str), y)]) → E (.ref C) (some d) H') (a : Addr) (na : H a = none) :
    spErrM C [.ref a, y] (upd H a (exo a C none)) (fun v H2 => v = .non ∧ ∃ (d : Addr) (fs : List (Str × V)), H2 a = some (exo a C (some d)) ∧ H2 d = some (exd d fs) ∧ H d = none ∧ E (.ref C) (some d) (upd (del H2 a) d (.xd fs))) (fun _ _ _ => False) := by
  refine ⟨a, y, rfl, upd_same, fun dx ndx ne => ⟨rfl, dx, [(("who" : Str), y)], upd_same, ?_, ?_, ?_⟩⟩
  · rw [upd_ne ne, upd_same]
  · rw [upd_ne ne] at ndx
    exact ndx
  · rw [upd_ne ne] at ndx
    refine h _ dx (fun b o e => ?_) ndx upd_same
    have nb : b ≠ dx := ne_of_none e ndx
    have nba : b ≠ a := ne_of_none e na
    rw [upd_ne nb, del_ne nba, upd_ne nba, upd_ne nb, upd_ne nba]
    exact e
/-! ### Makers.__init__ -/
def spMInit (C CN : Addr) : Sp := fun vs H Q E => ∃ (x dx t : Addr) (es : List Ent) (n : Nat), vs = [.ref x, .ref t] ∧ H x = some (.ins C dx []) ∧ H t = some (.dK (kvsOf es)) ∧ (∀ e ∈ es, EntOk H n e) ∧ es.length + n ≤ 90 ∧
  ((∀ e ∈ es, okE e = true) → ∀ H' t2, Grow (dcs es) es.length (del H x) H' → H' x = some (.ins C dx [(("table" : Str), .ref t2)]) → H' t2 = some (.dK (kvsOf es)) → H t2 = none → Q .non H') ∧
  (∀ e, es.find? (fun e => !okE e) = some e → ∀ H' d, Grow (dcs es) es.length (del H x) H' → del H x d = none → H' d = some (.xd [(("who" : Str), .str e.nmE)]) → E (.ref CN) (some d) H')
theorem find_at : ∀ {es : List Ent} {i : Nat} {e : Ent}, es[i]? = some e → (∀ j e', j < i → es[j]? = some e' → okE e' = true) → okE e = false → es.find? (fun e => !okE e) = some e
  | [], i, e, h, _, _ => by cases h
  | a :: r, 0, e, h, _, k => by
    have : a = e := Option.some.inj h
    subst this
    rw [List.find?_cons, k]
    rfl
  | a :: r, i + 1, e, h, p, k => by
    rw [List.find?_cons, p 0 a (Nat.zero_lt_succ _) rfl]
    exact find_at (es := r) (i := i) h (fun j e' hj he => p (j + 1) e' (Nat.succ_lt_succ hj) he) k
theorem ok_minit {C CN f fE fA fS fW : Addr} {fd fdE fdA fdS fdW : FuncData} {k : Nat} {u1 u2 : Tok} (F : Fun K "__init__" "Makers.__init__" st_minit f fd) (FE : Fun K "__init__" "NoMaker.__init__" st_NoMaker_init fE fdE) (TM : ErrM K mg CN fE fdE) (T : ClsT K C)
    (D_is_text_within : Df K mg "is_text_within" st_is_text_within ["value", "most"] fW fdW) (D_is_name : Df K mg "is_name" st_is_name ["value"] fA fdA) (D_is_sample : Df K mg "is_sample" st_is_sample ["value", "maker"] fS fdS) (G_is_sample : FnOk P w K mg base CX0 (k + 5) fS fdS ["value", "maker"] spSample)
    (m_dict : mg "dict" = none) (m_len : mg "len" = none) (m_str : mg "str" = none) (m_isinstance : mg "isinstance" = none) (m_all : mg "all" = none) (c_MOST_NAME_SIGNS : mg "MOST_NAME_SIGNS" = some (.int 10 u1)) (c_NAME_SIGNS : mg "NAME_SIGNS" = some (.str nameSet u2)) :
    FnOk P w K mg base (L2.CX P w) (k + 6) f fd ["self", "table"] (spMInit C CN) := by
  have GE : FnOk P w K mg base CX0 (k + 4) fE fdE ["self", "who"] (spErrM CN) := ok_errM FE TM
  have G_is_name : FnOk P w K mg base CX0 (k + 5) fA fdA ["value"] spName := ok_isName D_is_name.F D_is_text_within m_len m_str m_isinstance m_all c_MOST_NAME_SIGNS c_NAME_SIGNS
  refine F.okX sc_minit (fun vs H Q E h => ?_) (fun cdv A outer s H vs Q E hr h => ?_)
  · obtain ⟨x, dx, t, es, n, rfl, _⟩ := h
    rfl
  · obtain ⟨x, dx, t, es, n, rfl, ex, et, he, hn, qok, qbad⟩ := h
    refine ⟨_, (pss_cons (ps_fld (pv 0) (pe_callTy call_dictD (by rfl) m_dict (by decide +kernel) (pa_cons (pv 1) pa_nil)) rfl)
      (pss_one (ps_lock (ps_for (passes_of rfl) rfl (pi_items (pe_fld (pv 0) rfl)) (pg_tup rfl (pgs_cons (pg_name (i := 2) sc_minit.nd rfl (Or.inl rfl)) (pgs_cons (pg_tup rfl (pgs_cons (pg_name (i := 3) sc_minit.nd rfl (Or.inl rfl)) (pgs_cons (pg_name (i := 4) sc_minit.nd rfl (Or.inl rfl)) pgs_nil))) pgs_nil)))
        (pss_one (ps_if (PW.pt (pw_or (pt_not (pt_val (pe_call G_is_name hr (by rfl) D_is_name.g D_is_name.F.kp D_is_name.b .nil pass0 (pa_cons (pv 2) pa_nil)))) (pw_or1 (pt_not (pt_val (pe_call G_is_sample hr (by rfl) D_is_sample.g D_is_sample.F.kp D_is_sample.b .nil pass0 (pa_cons (pv 4) (pa_cons (pv 3) pa_nil))))))))
          (pss_one (ps_raise rfl (takes_of rfl rfl rfl rfl) (pmk_oex TM.o TM.i TM.t GE hr TM.b .nil pass0 (by rfl) TM.g (pa_cons (pv 2) pa_nil)))) pss_nil)))))), ?_⟩
    refine ⟨.ref t, rfl, t, _, rfl, .inl et, fun t2 n2 => ?_⟩
    have nx2 : x ≠ t2 := ne_of_none ex n2
    refine ⟨.ref x, rfl, x, C, dx, _, rfl, by rw [upd_ne nx2]; exact ex, T.cl, T.nh, by decide, ?_⟩
    refine ⟨t2, .dK (kvsOf es), by rw [upd_ne nx2.symm]; exact upd_same, trivial, fun od => ?_⟩
    have a1 : (upd (upd (upd H t2 (.dK (kvsOf es))) x (.ins C dx (putF "table" (.ref t2) []))) t2 (.frz od (.dK (kvsOf es)))) t2 = some (.frz od (.dK (kvsOf es))) := upd_same
    have a2 : (upd (upd (upd H t2 (.dK (kvsOf es))) x (.ins C dx (putF "table" (.ref t2) []))) t2 (.frz od (.dK (kvsOf es)))) x = some (.ins C dx [(("table" : Str), .ref t2)]) := by
      rw [upd_ne nx2, upd_same]
      rfl
    have a3 : Grow (dcs es) 0 (del H x) (upd (upd (upd H t2 (.dK (kvsOf es))) x (.ins C dx (putF "table" (.ref t2) []))) t2 (.frz od (.dK (kvsOf es)))) := by
      have k : ∀ {b : Addr} {o : HO}, del H x b = some o → (upd (upd (upd H t2 (.dK (kvsOf es))) x (.ins C dx (putF "table" (.ref t2) []))) t2 (.frz od (.dK (kvsOf es)))) b = some o := fun {b o} e => by
        have nb : b ≠ x := fun z => by
          rw [z, del_same] at e
          cases e
        rw [del_ne nb] at e
        have nb2 : b ≠ t2 := ne_of_none e n2
        rw [upd_ne nb2, upd_ne nb, upd_ne nb2]
        exact e
      exact ⟨fun b o e _ => k e, fun d _ kvs e => ⟨kvs, k e, Nat.le_refl _⟩⟩
    revert a1 a2 a3
    generalize (upd (upd (upd H t2 (.dK (kvsOf es))) x (.ins C dx (putF "table" (.ref t2) []))) t2 (.frz od (.dK (kvsOf es)))) = Hc
    intro a1 a2 a3
    have he2 : ∀ e ∈ es, EntOk (del H x) n e := fun e h => by
      have q := he e h
      have nd : ∀ {b : Addr} {o : HO}, H b = some o → (∀ c d fs, o ≠ .ins c d fs) → del H x b = some o := fun {b o} e1 n1 => by
        rw [del_ne (fun z => by rw [z, ex] at e1; exact n1 _ _ _ (Option.some.inj e1).symm)]
        exact e1
      obtain ⟨F', c1, c2, kvs, h1, h2, h3, h4, h5, e1, e2, e3, e4, e5, l⟩ := q.ma
      exact ⟨nd q.tp (fun _ _ _ z => by cases z), ⟨F', c1, c2, kvs, h1, h2, h3, h4, h5, nd e1 (fun _ _ _ z => by cases z), nd e2 (fun _ _ _ z => by cases z), nd e3 (fun _ _ _ z => by cases z), nd e4 (fun _ _ _ z => by cases z), nd e5 (fun _ _ _ z => by cases z), l⟩, q.nl, q.sl⟩
    refine ⟨.ref x, rfl, x, C, dx, _, _, rfl, a2, T.cl, T.nh, rfl, t2, od, kvsOf es, rfl, a1, for_items (fun i σ H' => H' t2 = some (.frz od (.dK (kvsOf es))) ∧ H' x = some (.ins C dx [(("table" : Str), .ref t2)]) ∧ Grow (dcs es) i (del H x) H' ∧ (∀ j e, j < i → es[j]? = some e → okE e = true) ∧ ∃ y2 y3 y4, σ = [some (.ref x), some (.ref t), y2, y3, y4])
      ⟨a1, a2, a3, (fun j e h => absurd h (Nat.not_lt_zero _)), _, _, _, rfl⟩ (fun i σ H' _ h => h.1) ?_ ?_⟩
    · rintro i kk v σ H1 U hkv nU ⟨b1, b2, b3, b4, y2, y3, y4, rfl⟩
      obtain ⟨e, ee, rfl, rfl⟩ : ∃ e, es[i]? = some e ∧ kk = Sum.inr e.nmE ∧ v = .ref e.tp := by
        unfold kvsOf at hkv
        rw [List.getElem?_map] at hkv
        obtain ⟨e, h1, h2⟩ := Option.map_eq_some_iff.mp hkv
        exact ⟨e, h1, (Prod.mk.inj h2).1.symm, (Prod.mk.inj h2).2.symm⟩
      have hil : i < es.length := (List.getElem?_eq_some_iff.mp ee).1
      have hem : e ∈ es := List.mem_of_getElem? ee
      have oe := (he2 e hem).grow b3
      have sU : Same H1 (upd H1 U (.tup [kV (Sum.inr e.nmE), .ref e.tp])) := same_upd nU
      refine ⟨U, _, rfl, SqT.of upd_same, rfl, _, _, rfl, _, _, rfl, e.tp, _, rfl, SqT.of (sU _ _ oe.tp), rfl, _, _, rfl, _, _, rfl, rfl, rfl, ?_⟩
      have eU : (upd H1 U (.tup [kV (Sum.inr e.nmE), .ref e.tp])) U = some (.tup [kV (Sum.inr e.nmE), .ref e.tp]) := upd_same
      revert sU eU
      generalize upd H1 U (.tup [kV (Sum.inr e.nmE), .ref e.tp]) = H2
      intro sU eU
      have g2 : Grow (dcs es) i (del H x) H2 := by
        have := b3.trans (Grow.of_same (S := dcs es) sU 0)
        exact this
      have ma2 : MkA H2 e.fn e.dc e.bad (n + i) := (oe.grow (Grow.of_same (S := dcs es) sU 0)).ma
      have out : ∀ H3, Grow (dcs es) (i + 1) (del H x) H3 → okE e = false → ∀ H4 d, Same H3 H4 → H3 d = none → H4 d = some (.xd [(("who" : Str), .str e.nmE)]) → E (.ref CN) (some d) H4 := fun H3 g3 ho H4 d s4 nd ed => by
        refine qbad e (find_at ee b4 ho) H4 d ?_ (g3.free nd) ed
        exact (g3.trans (Grow.of_same (S := dcs es) s4 0)).mono (fun _ h => h) (by omega)
      refine ⟨.str e.nmE, rfl, e.nmE, rfl, by have := oe.nl; omega, fun H3 s3 => ?_⟩
      have g3 : Grow (dcs es) i (del H x) H3 := g2.trans (Grow.of_same (S := dcs es) s3 0)
      refine ⟨_, rfl, ?_⟩
      cases hnm : isNm (.str e.nmE) with
      | false =>
        have ho : okE e = false := by
          unfold okE
          rw [hnm]
          rfl
        exact ⟨.str e.nmE, rfl, by show 1 ≤ 1000; decide, fun a na => err_outM (fun H' d sm nd ed => out H3 (g3.mono (fun _ h => h) (by omega)) ho H' d sm nd ed) a na⟩
      | true =>
        refine ⟨.str e.smp, rfl, .ref e.fn, rfl, e.fn, e.dc, e.bad, n + i, e.smp, rfl, ma2.grow (S := dcs es) (m := 0) (Grow.of_same s3 0), by omega, oe.sl, fun H4 g4 => ?_⟩
        have hS : ∀ b, b ∈ [e.dc] → b ∈ dcs es := fun b hb => by
          rw [List.mem_singleton.mp hb]
          exact List.mem_map_of_mem hem
        have g4' : Grow (dcs es) (i + 1) (del H x) H4 := g3.trans (g4.mono hS (Nat.le_refl _))
        refine ⟨_, rfl, ?_⟩
        cases hs : (plainW (tl e.smp) && !decide (e.bad ∈ tl e.smp)) with
        | false =>
          have ho : okE e = false := by
            unfold okE
            rw [hnm, hs]
            rfl
          exact ⟨.str e.nmE, rfl, by show 1 ≤ 1000; decide, fun a na => err_outM (fun H' d sm nd ed => out H4 g4' ho H' d sm nd ed) a na⟩
        | true =>
          have ho : okE e = true := by
            unfold okE
            rw [hnm, hs]
            rfl
          have k4 : ∀ {b : Addr} {o : HO}, H1 b = some o → (∀ kvs, o ≠ .dK kvs) → H4 b = some o := fun {b o} e1 n1 => g4.keep b o (s3 _ _ (sU _ _ e1)) (.inr n1)
          refine ⟨k4 b1 (fun _ z => by cases z), k4 b2 (fun _ z => by cases z), g4', fun j e' hj he' => ?_, _, _, _, rfl⟩
          rcases Nat.lt_succ_iff_lt_or_eq.mp hj with h | h
          · exact b4 j e' h he'
          · rw [h, ee] at he'
            cases he'
            exact ho
    · rintro σ H1 ⟨b1, b2, b3, b4, y2, y3, y4, rfl⟩
      have el : (kvsOf es).length = es.length := List.length_map _
      rw [el] at b3 b4
      refine ⟨b1, ?_⟩
      have nt : ∀ {b : Addr} {o : HO}, del H x b = some o → b ≠ t2 := fun {b o} e z => by
        rw [z, del_ne nx2.symm, n2] at e
        cases e
      refine qok (fun e he => ?_) _ t2 ⟨fun b o e z => ?_, fun d hd kvs e => ?_⟩ (by rw [upd_ne nx2]; exact b2) upd_same n2
      · obtain ⟨j, hj, ej⟩ := List.getElem_of_mem he
        exact b4 j e hj (by rw [List.getElem?_eq_getElem hj, ej])
      · rw [upd_ne (nt e)]
        exact b3.keep b o e z
      · rw [upd_ne (nt e)]
        exact b3.dict d hd kvs e
end
end WB

set_option Elab.async false
set_option linter.all false
set_option maxRecDepth 100000
set_option maxHeartbeats 4000000
namespace WG
open PySem PySem.Spec PyProof.Rows L2 L2H
/-! ### a def that is called within an except suite and gets the caught error -/
/-- the promise: Z tells of the error's object, sp of the error's address -/
structure FnP (P : Program) (w : World) (K : PySem.W.Frag) (mg : Str → Option Value) (base : Heap) (k : Nat) (f : Addr) (fd : FuncData) (ps : List Str) (Z : Obj → Prop) (sp : Addr → Sp) : Prop where
  len : ∀ a vs H Q E, sp a vs H Q E → vs.length = ps.length
  run : ∀ (A : Around) (outer : List Env) (s : Shared) (H : Hp) (args : Args) (us : List Value) (vs : List V) (Q : VK) (E : XK) (p : Addr × Obj), RoomH k A → Z p.2 → PinOk outer H s p → Env0 P w K mg base A outer s H →
    BindsTo s fd args (ps.zip us) → Vals vs us → sp p.1 vs H Q E → codeAny (model P w) A (.call (.ref f) args) (CR CX0 outer P w H s Q E) s
theorem fnP_of {P : Program} {w : World} {K : PySem.W.Frag} {mg : Str → Option Value} {base : Heap} {k : Nat} {f : Addr} {fd : FuncData} {x qual : Str} {st : Stmt} {N ps : List Str} {Z : Obj → Prop} {sp : Addr → Sp}
    (F : Fun K x qual st f fd) (S : FnScope N ps (defScope st)) (len : ∀ a vs H Q E, sp a vs H Q E → vs.length = ps.length)
    (body : ∀ (cdv : Value) (A : Around) (outer : List Env) (s : Shared) (H : Hp) (vs : List V) (Q : VK) (E : XK) (p : Addr × Obj), Z p.2 → RoomH k (A.deeper (envOfC qual (defScope st) s.heap.objs.size f cdv)) → sp p.1 vs H Q E →
      ∃ t, PSs (cxH CX0 P w K mg base N qual (defScope st) f cdv A outer s H E p) (defBody st) t ∧ t { nx := fun _ H' => Q .non H', rt := Q } (L2.start N vs) H) :
    FnP P w K mg base (k + 1) f fd ps Z sp := by
  obtain ⟨oc, od, kV, doc, pm, an, cdv, ct, osl, rfl, look, code⟩ := F.ex
  refine ⟨len, fun A outer s H args us vs Q E p room hz pin env bnd rels want => ?_⟩
  have hlen := len _ _ _ _ _ want
  have kin : K.In s.heap := env.mod.kin.keeps fun b o q => (env.bs b o q).1
  have nolim : s.heap.NoLimit := env.mod.nolimit.keeps fun b o q => (env.bs b o q).1
  have kinds : ∀ y ∈ ps.zip us, (defScope st).names.lookup y.1 = some .local ∨ ((defScope st).names.lookup y.1 = some .cell ∧ ((cellsFrom (s.heap.objs.size + 1) (defScope st).names []).lookup y.1).isSome = true) := by
    intro y hy
    obtain ⟨n, v⟩ := y
    cases S.par n (List.of_mem_zip hy).1 with
    | inl z => exact .inl z
    | inr z => exact .inr ⟨z, PySem.W.cellsFrom_some _ _ _ (.inl z)⟩
  refine codeAny_call_function room.depth (kin _ _ look) rfl S.co S.gen rfl (PySem.W.codeRec_of kin code) (bnd _ _ _ _ ?_)
  refine wpAny_newFunctionEnv_cells S.kind kinds fun e2 he2 s1 hx => ?_
  subst he2
  refine ⟨nolim.keeps hx.toInCall.keep, codeAny_func ?_⟩
  obtain ⟨t, tb, tq⟩ := body cdv A outer s H vs Q E p hz (room.deeper _) want
  have I : Inv (cxH CX0 P w K mg base N qual (defScope st) f cdv A outer s H E p) [] (L2.start N vs) H s1 := inv_startH S pin env hlen rels hx
  refine wpAny_mono (tb.run [] s1 (L2.start N vs) H _ I tq) (fun fl s' hs => ?_) fun e s' hs => hs
  cases fl with
  | ret u =>
    obtain ⟨v, _, H', J, rv, q⟩ := hs
    exact ⟨v, H', J.os, J.bare, J.base, J.hok, rv, q⟩
  | next =>
    obtain ⟨_, H', J, q⟩ := hs
    exact ⟨V.non, H', J.os, J.bare, J.base, J.hok, rfl, q⟩
  | brk =>
    obtain ⟨_, _, _, q⟩ := hs
    exact False.elim q
  | cont =>
    obtain ⟨_, _, _, q⟩ := hs
    exact False.elim q
def tCallP (a : Addr) (sp : Addr → Sp) (t : TA) : TE := fun σ H Q => t σ H fun vs H1 => sp a vs H1 Q (fun _ _ _ => False)
theorem pe_callP {X : Cx} {a : Addr} {oe : Obj} {pn : List (Addr × Obj)} {k : Nat} {f : Addr} {fd : FuncData} {ps : List Str} {Z : Obj → Prop} {sp : Addr → Sp} {x : Str} {q pos : Pos} {e : Expr} {es : List Expr} {t : TA}
    (F : FnP (X.suite a ((a, oe) :: pn)).prog (X.suite a ((a, oe) :: pn)).w (X.suite a ((a, oe) :: pn)).K (X.suite a ((a, oe) :: pn)).mg (X.suite a ((a, oe) :: pn)).base k f fd ps Z sp) (room : RoomH k (X.suite a ((a, oe) :: pn)).A) (hz : Z oe) (glob : Gl (X.suite a ((a, oe) :: pn)) x) (hm : (X.suite a ((a, oe) :: pn)).mg x = some (.ref f))
    (kp : PySem.W.keepIn (X.suite a ((a, oe) :: pn)).K (.ref f) = true) (bnd : Binds (X.suite a ((a, oe) :: pn)).K fd ps []) (args : PA (X.suite a ((a, oe) :: pn)) (e :: es) t) (n1 : (x == ("__debug__" : Str)) = false := by decide)
    (s1 : starEach (e :: es) (X.suite a ((a, oe) :: pn)).env = (false, eval e (X.suite a ((a, oe) :: pn)).env) :: starEach es (X.suite a ((a, oe) :: pn)).env := by rfl) (s2 : (backTo pos (starEach es (X.suite a ((a, oe) :: pn)).env)).any (·.1) = false := by rfl) :
    PE (X.suite a ((a, oe) :: pn)) (.Call (.Name x q) (e :: es) [] pos) (tCallP a sp t) := by
  constructor
  intro pins s σ H want I ask
  refine wpAny_Call_Name_kw (ld_glob I glob hm ?_ n1)
  refine PySem.W.callWith_K (h₀ := (X.suite a ((a, oe) :: pn)).base) I.ok.mod.kin kp (thn (args.run pos pins s σ H _ I ask) fun us st ⟨vs, H1, I1, rels, q1⟩ => ⟨I1.kIn, ?_⟩) s1 s2
  have hl : us.length = ps.length := by
    rw [← rels.length]
    exact F.len _ _ _ _ _ q1
  have b := bnd st us I1.kIn (by rw [List.append_nil]; exact hl)
  rw [List.append_nil] at b
  have P1 := I1.pin (a, oe) (List.mem_append.mpr (.inl List.mem_cons_self))
  have pin : PinOk (X.suite a ((a, oe) :: pn)).stack H1 st (a, oe) := ⟨P1.1, P1.2.1, fun m => (List.mem_cons.mp (I1.stkSub a m)).elim P1.2.2.1 P1.2.2.2.1, P1.2.2.2.2⟩
  refine wpAny_call (codeAny_mono (F.run (X.suite a ((a, oe) :: pn)).A (X.suite a ((a, oe) :: pn)).stack st H1 ⟨us, []⟩ us vs want (fun _ _ _ => False) (a, oe) room hz pin I1.env0 b rels q1) fun rr s' hq => ?_)
  cases rr with
  | error er => exact hq.elim
  | ok fl =>
    cases fl with
    | ret u => exact I1.after hq
    | next => exact hq.elim
    | brk => exact hq.elim
    | cont => exact hq.elim
/-! ### isinstance(e, (C1, ..)) in such a def -/
/-- the error's object: its class D, its own dict at d -/
def ZIs (D : Addr) (d : Option Addr) : Obj → Prop := fun o => Zc (.ref D) d o ∧ ∃ vs, o.data = .fields vs
def rIsP (K : PySem.W.Frag) (D : Addr) (d : Option Addr) (a : Addr) : List V → Hp → VK → Prop := fun xs H Q => ∃ (tp : Addr) (cs : List V) (ws : List Value) (b : Bool), xs = [.ref a, .ref tp] ∧ H tp = some (.tup cs) ∧ Paired ClsV cs ws ∧ ExcC K D ∧
  (match d with | some dd => ∃ fs, H dd = some (.xd fs) | none => True) ∧ PySem.W.kitAny K (.ref D) ws = some b ∧ Q (.bl b) H
theorem call_isP {CX : CXT} {P : Program} {w : World} {K : PySem.W.Frag} {mg : Str → Option Value} {base : Heap} {N : List Str} {qual : Str} {scope : Scope} {f : Addr} {cd : Value} {A : Around} {outer : List Env} {s0 : Shared} {H0 : Hp} {E : XK} {p : Addr × Obj} {D : Addr} {d : Option Addr} (hz : ZIs D d p.2) :
    CallR (cxH CX P w K mg base N qual scope f cd A outer s0 H0 E p) (.builtin "isinstance") (rIsP K D d p.1) := by
  intro pins s σ H xs us Q I rels ask
  obtain ⟨tp, cs, ws, b, rfl, ht, k, c, hd, e, q⟩ := ask
  obtain ⟨u1, u2, rfl, r1, r2⟩ := vals2 rels
  cases (show u1 = Value.ref p.1 from r1)
  cases (show u2 = Value.ref tp from r2)
  obtain ⟨⟨hc, hdd⟩, vs, hv⟩ := hz
  have P1 := I.pin p (List.mem_append.mpr (.inl (List.mem_cons_self)))
  obtain ⟨_, its, rv, o, h1, h2, n, h3⟩ := (show ObjOk _ _ H s.heap tp (.tup cs) from I.hok tp _ ht)
  have e3 := ClsV.all k rv
  subst e3
  obtain ⟨oc, od, dt, sl⟩ := o
  simp only at h2 h3
  subst h2 h3
  have J : ∃ od', PySem.W.InstAt s.heap p.1 p.2 D od' := by
    cases d with
    | none => exact ⟨none, P1.1, hc, by unfold PySem.W.notCls; rw [hv] <;> rfl, by rw [hdd]; trivial⟩
    | some dd =>
      obtain ⟨fs, hx⟩ := hd
      obtain ⟨mA, hns, _⟩ := I.hok dd _ hx
      obtain ⟨od, ho, _⟩ := lookIn_ns hns
      exact ⟨some od, P1.1, hc, by unfold PySem.W.notCls; rw [hv] <;> rfl, by rw [hdd]; exact ho⟩
  obtain ⟨od', J⟩ := J
  exact PySem.W.kia_tup (kit_exc c) I.kIn J h1 e (fun z => nomatch z) fun tk => ⟨.bl b, H, I.kept (t' := tk) fun _ _ z => z, rfl, q⟩
theorem kitAny_no {K : PySem.W.Frag} {t : Value} : ∀ {cs : List Value}, (∀ c ∈ cs, PySem.W.kitOne K t c = some false) → PySem.W.kitAny K t cs = some false
  | [], _ => rfl
  | c :: r, h => by
    unfold PySem.W.kitAny
    rw [h c List.mem_cons_self]
    exact kitAny_no fun d hd => h d (List.mem_cons_of_mem _ hd)
end WG

set_option Elab.async false
set_option linter.all false
set_option maxRecDepth 100000
set_option maxHeartbeats 4000000
namespace WB
open PySem PySem.Spec PyProof.Rows L2 WG L2H
open TL (tl)
abbrev st_is_other : Stmt := topS 35
theorem sc_is_other : FnScope ["_law_e"] ["_law_e"] (defScope st_is_other) := ⟨rfl, rfl, rfl, by decide +kernel, rfl, by decide +kernel, by decide +kernel⟩
abbrev st_told : Stmt := topS 36
theorem sc_told : FnScope ["_law_table", "_law_told_here", "_law_e"] ["_law_table"] (defScope st_told) := ⟨rfl, rfl, rfl, by decide +kernel, rfl, by decide +kernel, by decide +kernel⟩
abbrev st_who : Stmt := topS 37
theorem sc_who : FnScope ["_law_table", "_law_who_here", "_law_e"] ["_law_table"] (defScope st_who) := ⟨rfl, rfl, rfl, by decide +kernel, rfl, by decide +kernel, by decide +kernel⟩
/-! ### C(..) within a try -/
def tMakeS (C : Addr) (sp : Sp) (E : L2.St → XK) (t : TA) : TE := fun σ H Q => t σ H fun vs H1 => ∀ x dx, H1 x = none → H1 dx = none → dx ≠ x →
  sp (.ref x :: vs) (upd (upd H1 dx (.own x)) x (.ins C dx [])) (fun v H2 => v = .non ∧ Q (.ref x) H2) (E σ)
theorem pe_makeS {X : Cx} {CX : CXT} {k : Nat} {f C : Addr} {fd : FuncData} {ps : List Str} {sp : Sp} {E : L2.St → XK} {nm : Str} {p pos : Pos} {e : Expr} {es : List Expr} {t : TA}
    (M : Mk X.K C f) (G : FnOk X.prog X.w X.K X.mg X.base CX k f fd ps sp) (room : Room (k + 1) X.A) (glob : Gl X nm) (at_ : X.mg nm = some (.ref C)) (bnd : Binds X.K fd ps []) (out : ∀ σ, PassesAt CX X σ (E σ)) (args : PA X (e :: es) t)
    (n1 : (nm == ("__debug__" : Str)) = false := by decide) (s1 : starEach (e :: es) X.env = (false, eval e X.env) :: starEach es X.env := by rfl) (s2 : (backTo pos (starEach es X.env)).any (·.1) = false := by rfl) :
    PE X (.Call (.Name nm p) (e :: es) [] pos) (tMakeS C sp E t) := by
  constructor
  intro pins st σ H want inv ask
  refine wpAny_Call_Name_kw (ld_glob inv glob at_ ?_ n1)
  refine PySem.W.callWith_K (h₀ := X.base) inv.ok.mod.kin M.kp (thn (args.run pos pins st σ H _ inv ask) fun us st1 ⟨vs, H1, inv1, rels, q⟩ => ⟨inv1.kIn, ?_⟩) s1 s2
  have hq := q (st1.heap.objs.size + 1) st1.heap.objs.size (inv1.hok.fresh (Nat.le_succ _)) (inv1.hok.fresh (Nat.le_refl _)) (Nat.ne_of_lt (Nat.lt_succ_self _))
  have inv2 := Inv.made (C := C) inv1
  have rel2 : Vals (V.ref (st1.heap.objs.size + 1) :: vs) (Value.ref (st1.heap.objs.size + 1) :: us) := .cons rfl rels
  have len : (Value.ref (st1.heap.objs.size + 1) :: us).length = ps.length := by
    rw [← rel2.length]
    exact G.len _ _ _ _ hq
  have b := bnd _ (Value.ref (st1.heap.objs.size + 1) :: us) inv2.kIn (by rw [List.append_nil]; exact len)
  rw [List.append_nil] at b
  refine wpAny_call (make_map (f := f) inv1.kIn M.makes M.init (beq_iff_eq.mp M.fn) (codeAny_mono (G.run _ X.stack _ _ ⟨Value.ref (st1.heap.objs.size + 1) :: us, []⟩ (Value.ref (st1.heap.objs.size + 1) :: us) _ _ (E σ) (room.make C us [])
    (inv2.env0.make C us []) b rel2 hq) fun r st2 got => ?_))
  cases r with
  | error er => exact out σ pins _ _ er st2 inv2 got
  | ok fl =>
    cases fl with
    | next => exact got.elim
    | brk => exact got.elim
    | cont => exact got.elim
    | ret u =>
      obtain ⟨v, H3, inv3, rv, ev, q3⟩ := inv2.after got
      subst ev
      exact ⟨rv, ⟨V.ref (st1.heap.objs.size + 1), H3, inv3, rfl, q3⟩⟩
/-! ### the caught error looked at -/
structure Others (K : PySem.W.Frag) (mg : Str → Option Value) (D : Addr) (C1 C2 C3 C4 C5 C6 C7 C8 C9 : Addr) : Prop where
  g1 : mg "BadDefault" = some (.ref C1)
  g2 : mg "Clash" = some (.ref C2)
  g3 : mg "Fault" = some (.ref C3)
  g4 : mg "NoCommand" = some (.ref C4)
  g5 : mg "NoName" = some (.ref C5)
  g6 : mg "NoOption" = some (.ref C6)
  g7 : mg "NoPlace" = some (.ref C7)
  g8 : mg "NoRow" = some (.ref C8)
  g9 : mg "Unmade" = some (.ref C9)
  no : ∀ c ∈ [Value.ref C1, .ref C2, .ref C3, .ref C4, .ref C5, .ref C6, .ref C7, .ref C8, .ref C9], PySem.W.kitOne K (.ref D) c = some false
/-- what may be asked of a caught NoMaker -/
structure CaughtM (K : PySem.W.Frag) (CN BE : Addr) : Prop where
  x : XfC K CN
  c : ExcC K CN
  e : PySem.W.exmOne K (.ref CN) (.ref CN) = some true
  eb : PySem.W.exmOne K (.ref CN) (.ref BE) = some true
  v : PySem.W.kitOne K (.ref CN) (.type "ValueError") = some true
  n : PySem.W.kitOne K (.ref CN) (.ref CN) = some true
section
variable {P : Program} {w : World} {K : PySem.W.Frag} {mg : Str → Option Value} {base : Heap}
def ZC (cls : Value) (d : Option Addr) : Obj → Prop := fun o => Zc cls d o ∧ ∃ vs, o.data = .fields vs
def spOther (D : Addr) (cls : Value) (d : Option Addr) : Addr → Sp := fun a vs H Q _ => ∃ (dd : Addr) (fs : List (Str × V)), vs = [.ref a] ∧ cls = .ref D ∧ d = some dd ∧ H dd = some (.xd fs) ∧ ∀ H', Same H H' → Q (.bl false) H'
theorem ok_other {D f : Addr} {fd : FuncData} {k : Nat} {C1 C2 C3 C4 C5 C6 C7 C8 C9 : Addr} (F : Fun K "_law_is_other" "_law_is_other" st_is_other f fd) (O : Others K mg D C1 C2 C3 C4 C5 C6 C7 C8 C9) (TC : ExcC K D) (m_isinstance : mg "isinstance" = none) (cls : Value) (d : Option Addr) :
    FnP P w K mg base (k + 1) f fd ["_law_e"] (ZC cls d) (spOther D cls d) := by
  refine fnP_of F sc_is_other (fun a vs H Q E h => ?_) (fun cdv A outer s H vs Q E p hz hr h => ?_)
  · obtain ⟨dd, fs, rfl, _⟩ := h
    rfl
  · obtain ⟨dd, fs, rfl, rfl, rfl, hd, q⟩ := h
    have hz2 : ZIs D (some dd) p.2 := hz
    refine ⟨_, pss_one (ps_ret (pe_callB (call_isP hz2) (by rfl) m_isinstance (by decide +kernel) (pa_cons (pv 0) (pa_cons (pe_tup (pa_cons (pe_glob (v := .ref C1) rfl O.g1 rfl) (pa_cons (pe_glob (v := .ref C2) rfl O.g2 rfl) (pa_cons (pe_glob (v := .ref C3) rfl O.g3 rfl) (pa_cons (pe_glob (v := .ref C4) rfl O.g4 rfl) (pa_cons (pe_glob (v := .ref C5) rfl O.g5 rfl) (pa_cons (pe_glob (v := .ref C6) rfl O.g6 rfl) (pa_cons (pe_glob (v := .ref C7) rfl O.g7 rfl) (pa_cons (pe_glob (v := .ref C8) rfl O.g8 rfl) (pa_cons (pe_glob (v := .ref C9) rfl O.g9 rfl) pa_nil)))))))))) pa_nil)))), ?_⟩
    refine ⟨_, rfl, by show 9 ≤ sizeLine; decide, fun tp nt => ?_⟩
    have hd2 : (upd H tp (.tup [.ref C1, .ref C2, .ref C3, .ref C4, .ref C5, .ref C6, .ref C7, .ref C8, .ref C9])) dd = some (.xd fs) := by
      rw [upd_ne (ne_of_none hd nt)]
      exact hd
    exact ⟨tp, _, _, false, rfl, upd_same, .cons (.own _) (.cons (.own _) (.cons (.own _) (.cons (.own _) (.cons (.own _) (.cons (.own _) (.cons (.own _) (.cons (.own _) (.cons (.own _) .nil)))))))), TC, ⟨fs, hd2⟩, kitAny_no O.no, q _ (same_upd nt)⟩
/-! ### names -/
def spMNames (C : Addr) : Sp := fun vs H Q _ => ∃ (x dx t : Addr) (es : List Ent), vs = [.ref x] ∧ H x = some (.ins C dx [(("table" : Str), .ref t)]) ∧ H t = some (.dK (kvsOf es)) ∧ es.length < 64 ∧ ∀ H' p (ys : List Str), Same H H' → H p = none → H' p = some (.lst (ys.map V.str)) → ys.Perm (es.map (·.nmE)) → sortedS ys = true → Q (.ref p) H'
theorem ok_mnames {C f : Addr} {fd : FuncData} {k : Nat} (F : Fun K "names" "Makers.names" st_mnames f fd) (T : ClsT K C) (m_sorted : mg "sorted" = none) (m_list : mg "list" = none) : FnOk P w K mg base CX0 (k + 1) f fd ["self"] (spMNames C) := by
  refine F.ok sc_mnames (fun vs H Q E h => ?_) (fun cdv A outer s H vs Q E hr h => ?_)
  · obtain ⟨x, dx, t, es, rfl, _⟩ := h
    rfl
  · obtain ⟨x, dx, t, es, rfl, ex, et, l64, q⟩ := h
    refine ⟨_, pss_one (ps_ret (pe_callB cr_sortedS (by rfl) m_sorted (by decide +kernel) (pa_cons (pe_callTy (call_listD rfl) (by rfl) m_list (by decide +kernel) (pa_cons (pe_fld (pv 0) rfl) pa_nil)) pa_nil))), ?_⟩
    refine ⟨.ref x, rfl, x, C, dx, _, _, rfl, ex, T.cl, T.nh, rfl, t, _, rfl, .inl et, fun l nl => ?_⟩
    have el : (upd H l (.lst ((kvsOf es).map fun kv => kV kv.1))) l = some (.lst ((es.map (·.nmE)).map V.str)) := by
      rw [upd_same]
      unfold kvsOf
      rw [List.map_map, List.map_map]
      rfl
    refine ⟨l, es.map (·.nmE), rfl, SqL.of el, by rw [List.length_map]; exact l64, fun ys p hp hs np => ?_⟩
    exact q _ p ys ((same_upd nl).trans (same_upd np)) ((same_upd nl).free np) upd_same hp hs
/-! ### _law_told -/
def tbTold (C CN : Addr) (W : WX) : TS := tAsg (tTup (tCons (tC (.str (Str.ofString "made"))) (tCons (tMeth C "names" (spMNames C) [] E0 (tMakeS C (spMInit C CN) (WE W) (tCons (tVar 0) tNil)) tNil) tNil))) (gName 1)
def tsTold (K : PySem.W.Frag) (CN : Addr) : Addr → Value → Option Addr → TS := fun a cls d =>
  tAsg (tTup (tCons (tC (.str (Str.ofString "refused"))) (tCons (tCB (rIsD K a cls d) (tCons (tVar 2) (tCons (tC (.ref CN)) tNil))) (tCons (tCB (rIsD K a cls d) (tCons (tVar 2) (tCons (tC (.ty "ValueError")) tNil))) (tCons (tCallP a (spOther CN cls d) (tCons (tVar 2) tNil)) tNil))))) (gName 1)
abbrev refT : List V := [.str (Str.ofString "refused"), .bl true, .bl true, .bl false]
def spTold : Sp := fun vs H Q _ => ∃ (t : Addr) (es : List Ent) (n : Nat), vs = [.ref t] ∧ H t = some (.dK (kvsOf es)) ∧ (∀ e ∈ es, EntOk H n e) ∧ es.length + n ≤ 60 ∧
  ((∀ e ∈ es, okE e = true) → ∀ H' p l (ys : List Str), Grow (dcs es) es.length H H' → H p = none → H' p = some (.tup [.str (Str.ofString "made"), .ref l]) → H' l = some (.lst (ys.map V.str)) → ys.Perm (es.map (·.nmE)) → sortedS ys = true → Q (.ref p) H') ∧
  (∀ e, es.find? (fun e => !okE e) = some e → ∀ H' p, Grow (dcs es) es.length H H' → H p = none → H' p = some (.tup refT) → Q (.ref p) H')
theorem init_grow {S : List Addr} {m : Nat} {H H' : Hp} {x dx : Addr} {o : HO} (nx : H x = none) (nd : H dx = none) (g : Grow S m (del (upd (upd H dx (.own x)) x o) x) H') : Grow S m H H' := by
  have k : ∀ {b : Addr} {u : HO}, H b = some u → del (upd (upd H dx (.own x)) x o) x b = some u := fun {b u} e => by
    have nb : b ≠ x := ne_of_none e nx
    rw [del_ne nb, upd_ne nb, upd_ne (ne_of_none e nd)]
    exact e
  exact ⟨fun b u e z => g.keep b u (k e) z, fun d hd kvs e => g.dict d hd kvs (k e)⟩
theorem ok_told {C CN BE f fI fN fO fE : Addr} {fd fdI fdN fdO fdE : FuncData} {k : Nat} (F : Fun K "_law_told" "_law_told" st_told f fd) (M : Mk K C fI) (GI : FnOk P w K mg base (L2.CX P w) (k + 6) fI fdI ["self", "table"] (spMInit C CN)) (gC : mg "Makers" = some (.ref C)) (bI : Binds K fdI ["self", "table"] [])
    (T : ClsT K C) (mN : Meth K C "names" fN) (FN : Fun K "names" "Makers.names" st_mnames fN fdN) (bN : Binds K fdN ["self"] []) (D_other : Df K mg "_law_is_other" st_is_other ["_law_e"] fO fdO) (G_other : ∀ cls d, FnP P w K mg base (k + 7) fO fdO ["_law_e"] (ZC cls d) (spOther CN cls d))
    (TM : ErrM K mg CN fE fdE) (CM : CaughtM K CN BE) (gB : mg "BenchError" = some (.ref BE)) (m_isinstance : mg "isinstance" = none) (m_ValueError : mg "ValueError" = none) (m_sorted : mg "sorted" = none) (m_list : mg "list" = none) :
    FnOk P w K mg base CX0 (k + 8) f fd ["_law_table"] spTold := by
  have GN : FnOk P w K mg base CX0 (k + 6) fN fdN ["self"] (spMNames C) := ok_mnames FN T m_sorted m_list
  refine F.ok sc_told (fun vs H Q E h => ?_) (fun cdv A outer s H vs Q E hr h => ?_)
  · obtain ⟨t, es, n, rfl, _⟩ := h
    rfl
  · obtain ⟨t, es, n, rfl, et, he, hn, qok, qbad⟩ := h
    refine ⟨_, PSs.nox (pss_cons (ps_set (i := 1) sc_told.nd rfl (.inl rfl) (pe_tup (pa_cons pe_str pa_nil)))
      (pss_cons (ps_try_as (i := 2) (tb := tbTold C CN) (ts := tsTold K CN) (Wout := fun _ _ _ _ => False) rfl rfl sc_told.nd rfl rfl ⟨rfl, by decide, Or.inl gB⟩ takes0
          (fun W pn xe tk _ => pss_one (ps_set (i := 1) sc_told.nd rfl (Or.inl rfl) (by exact (pe_tup (pa_cons pe_str (pa_cons (pe_meth0 (pe_makeS M GI hr (by rfl) gC bI (fun σ => passAt tk σ) (by exact (pa_cons (pv 0) pa_nil))) T.cl mN GN (hr.mono (by omega)) bN .nil pass0) pa_nil))))))
          (fun a oe cls d pn hz hf => pss_one (ps_set (i := 1) sc_told.nd rfl (Or.inl rfl) (by exact (pe_tup (pa_cons pe_str (pa_cons (pe_callB (call_isD hz hf) (by rfl) m_isinstance (by decide +kernel) (pa_cons (pv 2) (pa_cons (pe_glob (v := .ref CN) rfl TM.g rfl) pa_nil))) (pa_cons (pe_callB (call_isD hz hf) (by rfl) m_isinstance (by decide +kernel) (pa_cons (pv 2) (pa_cons (pe_bltn (v := .ty "ValueError") (by rfl) m_ValueError (by decide +kernel) rfl) pa_nil))) (pa_cons (pe_callP (G_other cls d) ⟨(roomH_of hr).dp, (roomH_of hr).un⟩ ⟨hz, hf⟩ (by rfl) D_other.g D_other.F.kp D_other.b (pa_cons (pv 2) pa_nil)) pa_nil)))))))))
      (pss_one (ps_ret (pv 1))))), ?_⟩
    refine ⟨by show 1 ≤ sizeLine; decide, fun t0 n0 => ?_⟩
    first | refine go n0 fun H1 s1 e1 => ?_ | refine goT n0 fun H1 s1 e1 => ?_
    have he1 : ∀ e ∈ es, EntOk H1 n e := fun e h => (he e h).grow (Grow.of_same (S := dcs es) s1 0)
    refine ⟨.ref t, rfl, fun x dx nx ndx nex => ?_⟩
    have kx : ∀ {b : Addr} {o : HO}, H1 b = some o → (upd (upd H1 dx (.own x)) x (.ins C dx [])) b = some o := fun {b o} e => by
      rw [upd_ne (ne_of_none e nx), upd_ne (ne_of_none e ndx)]
      exact e
    have sx : Same H1 (upd (upd H1 dx (.own x)) x (.ins C dx [])) := fun b o e => kx e
    refine ⟨x, dx, t, es, n, rfl, upd_same, kx (s1 _ _ et), fun e h => (he1 e h).grow (Grow.of_same (S := dcs es) sx 0), by omega, fun hall H2 t2 g2 ex2 et2 nt2 => ?_, fun e hfe H2 d g2 nd ed => ?_⟩
    · have g3 : Grow (dcs es) es.length H1 H2 := init_grow nx ndx g2
      refine ⟨rfl, x, dx, _, rfl, ex2, ?_, x, dx, t2, es, rfl, ex2, et2, by omega, fun H4 p ys s4 np ep hp hs => ?_⟩
      · rfl
      have g4 : Grow (dcs es) es.length H H4 := by
        have a := (Grow.of_same (S := dcs es) s1 0).trans (g3.trans (Grow.of_same (S := dcs es) s4 0))
        exact a.mono (fun _ h => h) (by omega)
      refine ⟨by show 2 ≤ sizeLine; decide, fun q nq => ?_⟩
      refine ⟨_, rfl, qok hall _ q p ys (g4.trans (Grow.of_same (S := dcs es) (same_upd nq) 0)) (g4.free nq) upd_same ?_ hp hs⟩
      rw [upd_ne (ne_of_none ep nq)]
      exact ep
    · have g3 : Grow (dcs es) es.length H1 H2 := init_grow nx ndx g2
      refine ⟨true, CM.eb, fun _ a0 na0 => ?_, fun r => Bool.noConfusion r⟩
      refine ⟨.ref a0, rfl, CN, d, _, .ref CN, .ref CN, true, rfl, rfl, ed, CM.c, rfl, fun u hu => hu, CM.n, ?_⟩
      refine ⟨.ref a0, rfl, CN, d, _, .ty "ValueError", .type "ValueError", true, rfl, rfl, ed, CM.c, rfl, fun u hu => hu, CM.v, ?_⟩
      refine ⟨.ref a0, rfl, d, _, rfl, rfl, rfl, ed, fun H4 s4 => ?_⟩
      have g4 : Grow (dcs es) es.length H H4 := by
        have a := (Grow.of_same (S := dcs es) s1 0).trans (g3.trans (Grow.of_same (S := dcs es) s4 0))
        exact a.mono (fun _ h => h) (by omega)
      refine ⟨by show 4 ≤ sizeLine; decide, fun q nq => ?_⟩
      exact ⟨_, rfl, qbad e hfe _ q (g4.trans (Grow.of_same (S := dcs es) (same_upd nq) 0)) (g4.free nq) upd_same⟩
/-! ### _law_who -/
def tbWho (C CN : Addr) (W : WX) : TS := tDrop (tMakeS C (spMInit C CN) (WE W) (tCons (tVar 0) tNil))
def tsWho (CN : Addr) : Addr → Value → Option Addr → TS := fun a cls d => tAsg (tXf a cls d CN "who" (tVar 2)) (gName 1)
def spWho : Sp := fun vs H Q _ => ∃ (t : Addr) (es : List Ent) (n : Nat) (e : Ent), vs = [.ref t] ∧ H t = some (.dK (kvsOf es)) ∧ (∀ e ∈ es, EntOk H n e) ∧ es.length + n ≤ 60 ∧ es.find? (fun e => !okE e) = some e ∧ ∀ H', Grow (dcs es) es.length H H' → Q (.str e.nmE) H'
theorem ok_who {C CN BE f fI fE : Addr} {fd fdI fdE : FuncData} {k : Nat} (F : Fun K "_law_who" "_law_who" st_who f fd) (M : Mk K C fI) (GI : FnOk P w K mg base (L2.CX P w) (k + 6) fI fdI ["self", "table"] (spMInit C CN)) (gC : mg "Makers" = some (.ref C)) (bI : Binds K fdI ["self", "table"] [])
    (TM : ErrM K mg CN fE fdE) (CM : CaughtM K CN BE) : FnOk P w K mg base CX0 (k + 8) f fd ["_law_table"] spWho := by
  refine F.ok sc_who (fun vs H Q E h => ?_) (fun cdv A outer s H vs Q E hr h => ?_)
  · obtain ⟨t, es, n, e, rfl, _⟩ := h
    rfl
  · obtain ⟨t, es, n, e, rfl, et, he, hn, hf, q⟩ := h
    refine ⟨_, PSs.nox (pss_cons (ps_set (i := 1) sc_who.nd rfl (.inl rfl) pe_non)
      (pss_cons (ps_try_as (i := 2) (tb := tbWho C CN) (ts := tsWho CN) (Wout := fun _ _ _ _ => False) rfl rfl sc_who.nd rfl rfl ⟨rfl, by decide, Or.inl TM.g⟩ takes0
          (fun W pn xe tk _ => pss_one (ps_expr (pe_makeS M GI hr (by rfl) gC bI (fun σ => passAt tk σ) (by exact (pa_cons (pv 0) pa_nil)))))
          (fun a oe cls d pn hz hf => pss_one (ps_set (i := 1) sc_who.nd rfl (Or.inl rfl) (by exact (pe_xf CM.x TM.nf hz hf (pv 2))))))
      (pss_one (ps_ret (pv 1))))), ?_⟩
    refine ⟨.ref t, rfl, fun x dx nx ndx nex => ?_⟩
    have sx : Same H (upd (upd H dx (.own x)) x (.ins C dx [])) := fun b o e => by
      rw [upd_ne (ne_of_none e nx), upd_ne (ne_of_none e ndx)]
      exact e
    refine ⟨x, dx, t, es, n, rfl, upd_same, sx _ _ et, fun e h => (he e h).grow (Grow.of_same (S := dcs es) sx 0), by omega, fun hall => ?_, fun e' hfe H2 d g2 nd ed => ?_⟩
    · exfalso
      have := List.find?_some hf
      rw [hall e (List.mem_of_find?_eq_some hf)] at this
      cases this
    · have : e' = e := Option.some.inj (hfe.symm.trans hf)
      subst this
      refine ⟨true, CM.e, fun _ a0 na0 => ?_, fun r => Bool.noConfusion r⟩
      refine ⟨.ref a0, rfl, rfl, rfl, d, _, .str e'.nmE, rfl, ed, who_look, ?_⟩
      exact ⟨_, rfl, q _ (init_grow nx ndx g2)⟩
end
end WB

set_option Elab.async false
set_option linter.all false
set_option maxRecDepth 100000
set_option maxHeartbeats 4000000
namespace WB
open PySem PySem.Spec PyProof.Rows L2 WG
open TL (tl)
/-! ### a local name whose very text is known -/
/-- the local name y holds a text of the one sign c, given out before -/
def Kt (X : Cx) (y : Str) (c : Nat) (s : Shared) : Prop := ∃ (m : Str → Option Value) (t : Tok), s.heap.Ns X.env.locals m ∧ m y = some (.str (sgn c) t) ∧ 1 ≤ t ∧ t < s.toks
theorem Kt.keep {X : Cx} {y : Str} {c : Nat} {s s' : Shared} (h : Kt X y c s) (k : ∀ o, s.heap.get? X.env.locals = some o → ∃ sl, s'.heap.get? X.env.locals = some { o with slots := sl }) (l : s.toks ≤ s'.toks) : Kt X y c s' := by
  obtain ⟨m, t, ⟨o, es, ep, e1, e2, e3⟩, h2, h3, h4⟩ := h
  obtain ⟨sl, e⟩ := k o e1
  exact ⟨m, t, ⟨_, es, ep, e, e2, e3⟩, h2, h3, Nat.lt_of_lt_of_le h4 l⟩
theorem Kt.tok {X : Cx} {y : Str} {c : Nat} {s : Shared} (h : Kt X y c s) {n : Nat} (l : s.toks ≤ n) : Kt X y c { s with toks := n } := h.keep (fun o e => ⟨o.slots, e⟩) l
def PEK (X : Cx) (y : Str) (e : Expr) (t : TE) : Prop := ∀ (pins : List (Addr × Obj)) (s : Shared) (σ : L2.St) (H : Hp) (Q : VK) (c : Nat), Inv X pins σ H s → Kt X y c s → t σ H Q → wpAny (model X.prog X.w) X.A (eval e X.env) (fun u s' => EP X pins σ Q u s' ∧ Kt X y c s') X.xe s
def PAK (X : Cx) (y : Str) (es : List Expr) (t : TA) : Prop := ∀ (pos : Pos) (pins : List (Addr × Obj)) (s : Shared) (σ : L2.St) (H : Hp) (Q : List V → Hp → Prop) (c : Nat), Inv X pins σ H s → Kt X y c s → t σ H Q →
  wpAny (model X.prog X.w) X.A (spliced (backTo pos (starEach es X.env))) (fun us s' => AP X pins σ Q us s' ∧ Kt X y c s') X.xe s
section
variable {X : Cx} {y : Str} {e : Expr} {es : List Expr} {te : TE} {t : TA} {p pos : Pos}
theorem pak_nil : PAK X y [] tNil := fun _ _ _ _ H Q _ I kt h => Calls.spliced_nil ⟨⟨[], H, I, .nil, h⟩, kt⟩
theorem pak_cons (ha : PEK X y e te) (hr : PAK X y es t) (hs : starEach (e :: es) X.env = (false, eval e X.env) :: starEach es X.env := by rfl) : PAK X y (e :: es) (tCons te t) := by
  intro ps pins st σ H want c inv kt ask
  rw [hs]
  show wpAny _ _ (spliced ((false, eval e X.env) :: backTo ps (starEach es X.env))) _ _ st
  refine Calls.spliced_cons (thn (ha pins st σ H _ c inv kt ask) fun u st1 ⟨⟨v, H1, inv1, r1, q1⟩, kt1⟩ => ?_)
  exact thn (hr ps pins st1 σ H1 _ c inv1 kt1 q1) fun us st2 ⟨⟨vs, H2, inv2, r2, q2⟩, kt2⟩ => ⟨⟨v :: vs, H2, inv2, .cons r1 r2, q2⟩, kt2⟩
theorem pek_str {x : Str} {j : Nat} : PEK X y (.Constant (.str x) j pos) (tC (.str x)) := fun _ s _ H _ _ I kt h => Calls.Constant_str ⟨⟨.str x, H, I.tok _, ⟨_, rfl⟩, h⟩, kt.tok (Nat.le_succ _)⟩
theorem pek_int {i : Int} {j : Nat} : PEK X y (.Constant (.int i) j pos) (tC (.int i)) := fun _ s _ H _ _ I kt h => wpAny_Constant_int ⟨⟨.int i, H, I.tok _, ⟨_, rfl⟩, h⟩, kt.tok (Nat.le_succ _)⟩
theorem pek_var {i : Nat} {x : Str} (hN : X.N[i]? = some x) (hv : Vis X.env.scope x) (hd : (x == ("__debug__" : Str)) = false := by decide) (hcd : (x == ("__classdict__" : Str)) = false := by decide) : PEK X y (.Name x pos) (tVar i) := by
  intro pins st σ H want c inv kt ask
  obtain ⟨v, e, q⟩ := ask
  exact raw_name hN hv inv e (fun u r => ⟨⟨v, H, inv, r, q⟩, kt⟩) hd hcd
theorem pek_lst (h : PAK X y es t) : PEK X y (.List es pos) (tLst t) := by
  intro pins st σ H want c inv kt ask
  refine wpAny_List_spliced (thn (h pos pins st σ H _ c inv kt ask) fun us st1 ⟨⟨vs, H1, inv1, r, z, q⟩, kt1⟩ => ⟨by rw [← r.length]; exact z, ?_⟩)
  have new : H1 st1.heap.objs.size = none := inv1.hok.fresh (Nat.le_refl _)
  refine ⟨⟨.ref st1.heap.objs.size, upd H1 st1.heap.objs.size (.lst vs), inv1.laid (t' := st1.toks) (fun b u e => Heap.get?_push_of_some _ e) (Nat.le_refl _) ⟨z, us, 0, r, Heap.get?_push_size _ rfl⟩, rfl, q _ new⟩, ?_⟩
  exact kt1.keep (fun o e => ⟨o.slots, Heap.get?_push_of_some _ e⟩) (Nat.le_refl _)
theorem pek_call {k : Nat} {f : Addr} {fd : FuncData} {ps : List Str} {sp : Sp} {x : Str} (F : FnOk X.prog X.w X.K X.mg X.base CX0 k f fd ps sp) (room : Room k X.A) (glob : Gl X x) (at_ : X.mg x = some (.ref f)) (kp : PySem.W.keepIn X.K (.ref f) = true) (bnd : Binds X.K fd ps []) (args : PAK X y (e :: es) t)
    (n1 : (x == ("__debug__" : Str)) = false := by decide) (s1 : starEach (e :: es) X.env = (false, eval e X.env) :: starEach es X.env := by rfl) (s2 : (backTo pos (starEach es X.env)).any (·.1) = false := by rfl) : PEK X y (.Call (.Name x p) (e :: es) [] pos) (tCall sp [] E0 t) := by
  intro pins st σ H want c inv kt ask
  refine wpAny_Call_Name_kw (ld_glob inv glob at_ ?_ n1)
  refine PySem.W.callWith_K (h₀ := X.base) inv.ok.mod.kin kp (thn (args pos pins st σ H _ c inv kt ask) fun us st1 ⟨⟨vs, H1, inv1, rels, q⟩, kt1⟩ => ⟨inv1.kIn, ?_⟩) s1 s2
  have q0 : sp vs H1 want E0 := by
    have q' : sp (vs ++ []) H1 want E0 := q
    rw [List.append_nil] at q'
    exact q'
  have len : us.length = ps.length := by
    rw [← rels.length]
    exact F.len _ _ _ _ q0
  have b := bnd st1 us inv1.kIn (by rw [List.append_nil]; exact len)
  rw [List.append_nil] at b
  refine wpAny_mono (wpAny_toks (wpAny_call (Q := fun u s' => EP X pins σ want u s' ∧ ∀ o, st1.heap.get? X.env.locals = some o → ∃ sl, s'.heap.get? X.env.locals = some { o with slots := sl }) (codeAny_mono (F.run X.A X.stack st1 H1 ⟨us, []⟩ us vs want E0 room inv1.env0 b rels q0) fun r st2 got => ?_))) (fun u st2 ⟨le, ep, k2⟩ => ⟨ep, kt1.keep k2 le⟩) (fun _ _ z => z.2)
  cases r with
  | error er => exact got.elim
  | ok fl =>
    cases fl with
    | next => exact got.elim
    | brk => exact got.elim
    | cont => exact got.elim
    | ret u =>
      refine ⟨inv1.after got, fun o e => ?_⟩
      obtain ⟨v, H', os, bare, un, hok, r, _⟩ := got
      exact un.any e inv1.free List.not_mem_nil
theorem pek_ixL {a b : Expr} {ta tb : TE} (ha : PEK X y a ta) (hb : PEK X y b tb) (hs : PlainIx b) : PEK X y (.Subscript a b pos) (tOp (rIxL X.K) ta tb) := by
  intro pins st σ H want c inv kt ask
  refine Subscript_ (thn (ha pins st σ H _ c inv kt ask) fun v st1 ⟨⟨x, H1, inv1, r1, q1⟩, kt1⟩ => ?_)
  refine thn (hb pins st1 σ H1 _ c inv1 kt1 q1) fun u st2 ⟨⟨z, H2, inv2, r2, q2⟩, kt2⟩ => ?_
  obtain ⟨l, xs, i, item, rfl, rfl, hq, he, q⟩ := q2
  cases (show v = Value.ref l from r1)
  obtain ⟨tk, rfl⟩ := r2
  obtain ⟨its, r, pl, hz⟩ := inv2.list hq
  obtain ⟨j, h1, h2, h3, h4, h5⟩ := atI_get he
  obtain ⟨w, ew, rw'⟩ := r.get h2
  have hl := r.length
  have hn := line63
  have fin : EP X pins σ want w st2 ∧ Kt X y c st2 := ⟨⟨item, H2, inv2, rw', q⟩, kt2⟩
  by_cases h0 : 0 ≤ i
  · have hj : i.toNat = j := by
      rw [seqIndex_of h0 h5] at h1
      exact Option.some.inj h1
    exact item_listR pl.isList h0 (by omega) (by rw [hj]; simpa using ew) fin (hs _ _)
  · have hj : (i + (its.toArray.size : Int)).toNat = j := by
      rw [seqIndex_neg (by omega) h4] at h1
      rw [List.size_toArray, ← hl]
      exact Option.some.inj h1
    exact subscriptTail_builtinR (x := w) pl.isList.typeIs slot_list_getitem.lookup (wpAny_getItem_list_neg (Q := fun r s' => r = w ∧ (EP X pins σ want r s' ∧ Kt X y c s')) pl.isList (by omega) (by rw [List.size_toArray] <;> omega) (by omega) (by rw [hj]; simpa using ew) ⟨rfl, fin⟩) (hs _ _)
/-- 'q' * 60 -/
theorem pek_mul {x : Str} {n : Nat} {j1 j2 : Nat} {p1 p2 : Pos} (hx : x.length ≤ 1000) (hn : n ≤ 1000) : PEK X y (.BinOp (.Constant (.str x) j1 p1) .Mult (.Constant (.int (n : Int)) j2 p2) pos) (fun _ H Q => ∀ z : Str, tl z = (List.replicate n (tl x)).flatten → Q (.str z) H) := by
  intro pins st σ H want c inv kt ask
  refine wpAny_BinOp (Calls.Constant_str (wpAny_Constant_int ?_))
  have pw : x.length * n ≤ 1000000 := Nat.le_trans (Nat.mul_le_mul hx hn) (by decide)
  have i2 : Inv X pins σ H { st with toks := st.toks + 1 + 1 } := inv.tok _
  have k2 : Kt X y c { st with toks := st.toks + 1 + 1 } := kt.tok (by omega)
  refine wpAny_mono (wpAny_toks (Q := fun u (s' : Shared) => ∃ t' k, u = .str (Txt.mul x (n : Int)) t' ∧ s' = { st with toks := k }) (PySem.SB.mul ⟨?_, fun h1 h2 => ?_, fun h1 h2 => ?_⟩ fun t' k => ⟨t', k, rfl, rfl⟩)) (fun u s' ⟨le, t', k, e1, e2⟩ => ?_) (fun _ _ z => z.2)
  · rw [decide_eq_false (by omega), decide_eq_false (by omega)]
    rfl
  · have e : (1000 : Int) ≤ (2 ^ 63 - 1) / (n : Int) := by
      have h3 : (0 : Int) < n := by omega
      exact (Int.le_ediv_iff_mul_le h3).mpr (by omega)
    omega
  · rw [Int.toNat_natCast]
    exact decide_eq_false (by show ¬ sizeLine < _; have : sizeLine = 16777216 := sizeLine_eq; omega)
  · subst e1 e2
    exact ⟨⟨.str _, H, inv.tok k, ⟨t', rfl⟩, ask _ (mul_tl x n)⟩, kt.tok (by have h : st.toks + 1 + 1 ≤ k := le; omega)⟩
end
/-! ### y = Z[e], then z = o.replace(y, '') -/
/-- a name that is told the very text -/
theorem pss_kt {X : Cx} {i : Nat} {y : Str} {Z : Str} {jz : Nat} {b : Expr} {tb : TE} {pz p1 p2 pos : Pos} {rest : List Stmt} {u : TS} (nodup : X.N.Nodup) (hi : X.N[i]? = some y) (loc : X.env.scope.names.lookup y = some .local) (hb : PE X b tb) (hs : PlainIx b) (sw : swapsWith (.Subscript (.Constant (.str Z) jz pz) b p1) (some (.Name y p2)) pos.line X.env = pure false)
    (hr : ∀ (pins : List (Addr × Obj)) (s : Shared) (σ : L2.St) (H : Hp) (D : Ends) (c : Nat), Inv X pins σ H s → Kt X y c s → u D σ H → σ[i]? = some (some (.str (sgn c))) → wpAny (model X.prog X.w) X.A (execs rest X.env) (SP X pins D) X.xe s) :
    PSs X (.Assign [.Name y p2] (.Subscript (.Constant (.str Z) jz pz) b p1) pos :: rest) (tSeq (tAsg (tOp rIxS (tC (.str Z)) tb) (gName i)) u) := by
  constructor
  intro pins st σ H D inv ask
  refine wpAny_execs_cons (wpAny_Assign_Name (Subscript_ (Calls.Constant_str ?_)) sw)
  have inv1 : Inv X pins σ H { st with toks := st.toks + 1 } := inv.tok _
  refine wpAny_mono (wpAny_toks (hb.run pins { st with toks := st.toks + 1 } σ H _ inv1 ask)) (fun iv st2 ⟨le, v, H2, inv2, r2, q2⟩ => ?_) (fun _ _ z => z.2)
  have le' : st.toks + 1 ≤ st2.toks := le
  obtain ⟨z, n, c, e1, rfl, hz, he, q⟩ := q2
  cases e1
  obtain ⟨tk, rfl⟩ := r2
  obtain ⟨j, h1, h2, h3, h4, h5⟩ := atI_get he
  have hl : Z.cps.toList.length = Z.length := by simp [Str.length]
  rw [hl] at h1 h4 h5
  have hn := line63
  refine tail_any (typeIs_str st2 Z _) slot_str_getitem.lookup (getItem_str (c := c) (by
    have a1 : decide (n < -(2 ^ 63 : Int)) = false := decide_eq_false (by omega)
    have a2 : decide (n ≥ 2 ^ 63) = false := decide_eq_false (by omega)
    rw [a1, a2, Bool.or_false]) (by rw [h1]; simpa using h2) ?_) (hs _ _)
  have inv3 : Inv X pins σ H2 { st2 with toks := st2.toks + 1 } := inv2.tok _
  obtain ⟨m, ns, lk⟩ := id inv3.loc
  have hcls : (X.env.scope.kind == .class || (X.env.scope.kind == .module && X.env.locals != X.env.globals)) = false := by rw [inv3.ok.kind]; rfl
  have hiσ : i < σ.length := by rw [inv3.len]; exact (List.getElem?_eq_some_iff.mp hi).1
  have cne := inv3.cne
  refine wpAny_storeName_local loc ns (fun h' ns' sb => ?_) hcls
  obtain ⟨oL, esL, epL, hoL, _⟩ := id ns
  have far : ∀ {b : Addr} {o : Obj}, X.s_0.heap.get? b = some o → b ≠ X.env.locals := fun {b o} e => Nat.ne_of_lt (Nat.lt_of_lt_of_le (Heap.lt_size e) inv3.ok.above)
  have okH : HOk X.prog X.w H2 h' := fun b ob e => by
    refine (inv3.hok b ob e).stay (fun d w' hd q => (sb.2 d ?_).trans q) (fun _ q => q) fun _ _ q => q
    rintro rfl
    rcases hd with z | z
    · rw [← z, inv3.free] at e
      cases e
    · rw [inv3.free] at z
      cases z
  have inv4 : Inv X pins (σ.set i (some (.str (sgn c)))) H2 { st2 with heap := h', toks := st2.toks + 1 + 1 } := by
    refine ⟨inv3.ok, inv3.os, inv3.bare, ⟨fun b o e n hb hx => (sb.2 b (far e)).trans (inv3.base.keep b o e n hb hx), fun b o e n hb hx => ?_, inv3.base.free, fun b o e hx => ?_, inv3.base.tups, inv3.base.frzs, inv3.base.tbls⟩, ⟨_, ns', fun j x v' e1 e2 e3 => ?_⟩, fun x d e => ?_, inv3.free, inv3.freeC, fun p hp => ?_, okH, by simpa using inv3.len⟩
    · obtain ⟨sl, e1⟩ := inv3.base.slot b o e n hb hx
      exact ⟨sl, (sb.2 b (far e)).trans e1⟩
    · obtain ⟨o', e1⟩ := inv3.base.there b o e hx
      exact ⟨o', (sb.2 b (far e)).trans e1⟩
    · by_cases hj : j = i
      · subst hj
        rw [hi] at e1
        cases e1
        rw [List.getElem?_set_self hiσ] at e2
        cases e2
        exact ⟨_, ⟨_, rfl⟩, .inl ⟨loc, if_pos rfl⟩⟩
      · rw [List.getElem?_set_ne (Ne.symm hj)] at e2
        obtain ⟨u', r', q⟩ := lk j x v' e1 e2 e3
        refine ⟨u', r', ?_⟩
        rcases q with ⟨k, e⟩ | ⟨k, d, e, z⟩
        · refine .inl ⟨k, ?_⟩
          have nx : x ≠ y := fun e => hj (nodup_ix nodup e1 (e ▸ hi))
          exact (if_neg nx).trans e
        · exact .inr ⟨k, d, e, z.sameBut sb (cne x d e)⟩
    · obtain ⟨w', z⟩ := inv3.cell x d e
      exact ⟨w', z.sameBut sb (cne x d e)⟩
    · obtain ⟨e, n, ne, nf, d⟩ := inv3.pin p hp
      exact ⟨(sb.2 p.1 ne).trans e, n, ne, nf, d⟩
  have t1 : 1 ≤ st2.toks := by omega
  refine hr pins _ _ H2 D c inv4 ⟨_, st2.toks, ns', if_pos rfl, t1, ?_⟩ q (List.getElem?_set_self hiσ)
  show st2.toks < st2.toks + 1 + 1
  omega
/-- z = o.replace(y, '') where y's text is known -/
theorem exec_repl {X : Cx} {i iz : Nat} {y z : Str} {o : Expr} {to : TE} {jc : Nat} {py pc apos cpos p2 pos : Pos} {rest : List Stmt} {u : TS} (nodup : X.N.Nodup) (hi : X.N[i]? = some y) (loc : X.env.scope.names.lookup y = some .local) (hz : X.N[iz]? = some z) (lz : Loc X.env.scope z) (ho : PEK X y o to) (hr : PSs X rest u)
    (nd : (y == ("__debug__" : Str)) = false)
    (hst : starEach [.Name y py, .Constant (.str (Str.ofString "")) jc pc] X.env = [(false, eval (.Name y py) X.env), (false, eval (.Constant (.str (Str.ofString "")) jc pc) X.env)]) (hbase : attributeBase o "replace" X.env (eval o X.env) = eval o X.env) (hline : (apos.endLine == cpos.line) = true)
    (sw : swapsWith (.Call (.Attribute o "replace" apos) [.Name y py, .Constant (.str (Str.ofString "")) jc pc] [] cpos) (some (.Name z p2)) pos.line X.env = pure false) (hf : X.fn z = true ∨ X.env.scope.names.lookup z = some .local) :
    ∀ (pins : List (Addr × Obj)) (s : Shared) (σ : L2.St) (H : Hp) (D : Ends) (c : Nat), Inv X pins σ H s → Kt X y c s →
      (to σ H fun v H1 => ∃ x, v = .str x ∧ x.length ≤ 1000 ∧ u D (σ.set iz (some (.str (Txt.replace x (sgn c) (Str.ofString ""))))) H1) →
      wpAny (model X.prog X.w) X.A (execs (.Assign [.Name z p2] (.Call (.Attribute o "replace" apos) [.Name y py, .Constant (.str (Str.ofString "")) jc pc] [] cpos) pos :: rest) X.env) (SP X pins D) X.xe s := by
  intro pins st σ H D c inv kt ask
  refine wpAny_execs_cons (wpAny_Assign_Name (PySem.Call_method2 hbase hst hline (thn (ho pins st σ H _ c inv kt ask) fun v st1 ⟨⟨v', H1, inv1, r1, x, e1, hx, q⟩, kt1⟩ => ?_)) sw)
  subst e1
  obtain ⟨tx, rfl⟩ := r1
  refine ⟨"str", _, PySem.F.plainAttrs_str, PySem.F.slot_str_replace, PySem.F.type_str_replace, typeIs_str _ _ _, (fun _ e => nomatch e), Calls.callWith_builtin rfl (Calls.evalArgs_plain (Calls.spliced_cons ?_))⟩
  obtain ⟨m, t, ns, hm, t1, t2⟩ := kt1
  refine wpAny_Name (wpAny_loadName_local inv1.ok.kind loc ns hm ?_) nd
  refine Calls.spliced_cons (Calls.Constant_str (Calls.spliced_nil ?_))
  have l0 : (Str.ofString "").length = 0 := by decide +kernel
  have a1 : t ≠ 0 := Nat.ne_of_gt t1
  have a2 : st1.toks ≠ 0 := Nat.ne_of_gt (Nat.lt_of_le_of_lt (Nat.zero_le t) t2)
  have a3 : t ≠ st1.toks := Nat.ne_of_lt t2
  have a4 : x.length + (x.length + 1) * (Str.ofString "").length ≤ 16777216 := by rw [l0]; omega
  refine PySem.SC.replace a1 a2 a3 ?_ a4 fun t' k => ?_
  · refine beq_eq_false_iff_ne.mpr fun z => ?_
    have z' := congrArg Str.length z
    rw [l0] at z'
    cases z'
  · exact store_ok (v := .str (Txt.replace x (sgn c) (Str.ofString ""))) (inv1.tok k) nodup hz lz ⟨t', rfl⟩ (fun s' I' => hr.run pins s' _ H1 D I' q) hf
/-- y = Z[b] and z = o.replace(y, '') -/
def tRepl (i iz : Nat) (to : TE) (u : TS) : TS := fun D σ H => ∃ c : Nat, σ[i]? = some (some (.str (sgn c))) ∧ to σ H fun v H1 => ∃ x : Str, v = .str x ∧ x.length ≤ 1000 ∧ u D (σ.set iz (some (.str (Txt.replace x (sgn c) (Str.ofString ""))))) H1
theorem sgn_inj {c d : Nat} (h : sgn c = sgn d) : c = d := by
  injection h with h
  injection h with h
  injection h
theorem pss_kr {X : Cx} {i iz : Nat} {y z Z : Str} {jz jc : Nat} {b o : Expr} {tb to : TE} {pz p1 p2 pos1 py pc apos cpos p3 pos2 : Pos} {rest : List Stmt} {u : TS} (nodup : X.N.Nodup) (hi : X.N[i]? = some y) (loc : X.env.scope.names.lookup y = some .local) (hz : X.N[iz]? = some z) (lz : Loc X.env.scope z)
    (hb : PE X b tb) (hs : PlainIx b) (ho : PEK X y o to) (hr : PSs X rest u)
    (sw1 : swapsWith (.Subscript (.Constant (.str Z) jz pz) b p1) (some (.Name y p2)) pos1.line X.env = pure false := by rfl) (nd : (y == ("__debug__" : Str)) = false := by decide)
    (hst : starEach [.Name y py, .Constant (.str (Str.ofString "")) jc pc] X.env = [(false, eval (.Name y py) X.env), (false, eval (.Constant (.str (Str.ofString "")) jc pc) X.env)] := by rfl) (hbase : attributeBase o "replace" X.env (eval o X.env) = eval o X.env := by rfl) (hline : (apos.endLine == cpos.line) = true := by rfl)
    (sw : swapsWith (.Call (.Attribute o "replace" apos) [.Name y py, .Constant (.str (Str.ofString "")) jc pc] [] cpos) (some (.Name z p3)) pos2.line X.env = pure false := by rfl) (hf : X.fn z = true ∨ X.env.scope.names.lookup z = some .local := by first | exact .inl rfl | exact .inr rfl | assumption) :
    PSs X (.Assign [.Name y p2] (.Subscript (.Constant (.str Z) jz pz) b p1) pos1 :: .Assign [.Name z p3] (.Call (.Attribute o "replace" apos) [.Name y py, .Constant (.str (Str.ofString "")) jc pc] [] cpos) pos2 :: rest)
      (tSeq (tAsg (tOp rIxS (tC (.str Z)) tb) (gName i)) (tRepl i iz to u)) := by
  refine pss_kt nodup hi loc hb hs sw1 fun pins s σ H D c I kt ask e => ?_
  obtain ⟨c', e', q⟩ := ask
  have ec : c = c' := by
    rw [e] at e'
    exact sgn_inj (V.str.inj (Option.some.inj (Option.some.inj e')))
  subst ec
  exact exec_repl nodup hi loc hz lz ho hr nd hst hbase hline sw hf pins s σ H D c I kt q
theorem repl_tl (x : Str) (c : Nat) : tl (Txt.replace x (sgn c) (Str.ofString "")) = (tl x).filter (· != c) := by
  have e : Str.ofString "" = ⟨#[]⟩ := by decide +kernel
  rw [e]
  exact replace_strikes x c
end WB

set_option Elab.async false
set_option linter.all false
set_option maxRecDepth 100000
set_option maxHeartbeats 4000000
namespace WB
open PySem PySem.Spec PyProof.Rows L2 WG
open TL (tl)
abbrev st_name : Stmt := topS 29
theorem sc_name : FnScope ["_law_pot_here", "_law_signs", "_law_name_here", "_law_k"] ["_law_pot_here"] (defScope st_name) := ⟨rfl, rfl, rfl, by decide +kernel, rfl, by decide +kernel, by decide +kernel⟩
abbrev st_rows : Stmt := topS 31
theorem sc_rows : FnScope ["_law_pot_here", "_law_rows_here", "_law_k", "_law_name_here", "_law_bad", "_law_sample", "_law_row"] ["_law_pot_here"] (defScope st_rows) := ⟨rfl, rfl, rfl, by decide +kernel, rfl, by decide +kernel, by decide +kernel⟩
abbrev P8 : Nat → Prop := fun c => c < 256
theorem at_sig (z : Str) (d : Int) (h0 : 0 ≤ d) (h1 : d < (z.length : Int)) : ∃ c ∈ tl z, atI z.cps.toList d = some c := by
  obtain ⟨n, rfl⟩ := Int.eq_ofNat_of_zero_le h0
  have hn : n < (tl z).length := by rw [← TL.len_tl]; omega
  exact ⟨(tl z)[n], List.getElem_mem hn, atI_nat (List.getElem?_eq_getElem hn)⟩
theorem at_last (z : Str) (h1 : 0 < z.length) : ∃ c ∈ tl z, (tl z).getLast? = some c ∧ atI z.cps.toList (-1) = some c := by
  have hn : 0 < (tl z).length := by rw [← TL.len_tl]; exact h1
  have ne : tl z ≠ [] := fun e => by rw [e] at hn; exact absurd hn (by decide)
  refine ⟨(tl z).getLast ne, List.getLast_mem ne, List.getLast?_eq_getLast ne, ?_⟩
  have e : atI ((tl z).dropLast ++ [(tl z).getLast ne]) (-1) = some ((tl z).getLast ne) := atI_last _ _
  rw [List.dropLast_concat_getLast ne] at e
  exact e
theorem lit8 : ∀ y ∈ [nameSet, Str.ofString "x", Str.ofString "ax-,: '0", Str.ofString "b"], ∀ c ∈ tl y, c < 256 := by decide +kernel
section
variable {P : Program} {w : World} {K : PySem.W.Frag} {mg : Str → Option Value} {base : Heap}
def spLName : Sp := fun vs H Q _ => ∃ p : Addr, vs = [.ref p] ∧ Pot H p ∧ ∀ H' (y : Str), But p H H' → Pot H' p → Tq P8 20 y → Q (.str y) H'
theorem ok_lname {f fD : Addr} {fd fdD : FuncData} {k : Nat} (F : Fun K "_law_name" "_law_name" st_name f fd) (D_draw : Df K mg "_law_draw" sDraw ["_law_pot_here", "_law_many"] fD fdD) (m_divmod : mg "divmod" = none) (m_range : mg "range" = none) :
    FnOk P w K mg base CX0 (k + 2) f fd ["_law_pot_here"] spLName := by
  have G_draw : FnOk P w K mg base CX0 (k + 1) fD fdD ["_law_pot_here", "_law_many"] spDraw := ok_draw D_draw.F m_divmod
  refine F.ok sc_name (fun vs H Q E h => ?_) (fun cdv A outer s H vs Q E hr h => ?_)
  · obtain ⟨p, rfl, _⟩ := h
    rfl
  · obtain ⟨p, rfl, hp, q⟩ := h
    refine ⟨_, pss_cons (ps_set (i := 1) sc_name.nd rfl (.inl rfl) pe_str)
      (pss_cons (ps_set (i := 2) sc_name.nd rfl (.inl rfl) (pe_ix ix_str (pv 1) (pe_call G_draw hr (by rfl) D_draw.g D_draw.F.kp D_draw.b .nil pass0 (pa_cons (pv 0) (pa_cons pe_int pa_nil))) (fun _ _ => rfl)))
      (pss_cons (ps_for PassesOwn.never rfl (pi_range1 rfl m_range (pa_cons (pe_call G_draw hr (by rfl) D_draw.g D_draw.F.kp D_draw.b .nil pass0 (pa_cons (pv 0) (pa_cons (pe_ix ix_list (pe_lst (pa_cons pe_int (pa_cons pe_int (pa_cons pe_int pa_nil)))) (pe_call G_draw hr (by rfl) D_draw.g D_draw.F.kp D_draw.b .nil pass0 (pa_cons (pv 0) (pa_cons pe_int pa_nil))) (fun _ _ => rfl)) pa_nil))) pa_nil)) (pg_name (i := 3) sc_name.nd rfl (Or.inl rfl)) (pss_one (ps_set (i := 2) sc_name.nd rfl (.inl rfl) (pe_op op_add_str (pv 2) (pe_ix ix_str (pv 1) (pe_call G_draw hr (by rfl) D_draw.g D_draw.F.kp D_draw.b .nil pass0 (pa_cons (pv 0) (pa_cons pe_int pa_nil))) (fun _ _ => rfl))))))
      (pss_cons (ps_if (pt_cmpR op_eq (pe_ix ix_str (pv 2) (pe_un un_neg pe_int) (fun _ _ => rfl)) pe_str (nomark _)) (pss_one (ps_set (i := 2) sc_name.nd rfl (.inl rfl) (pe_op op_add_str (pe_slice sl_str (pv 2) po_none (po_some (pe_un un_neg pe_int))) pe_str))) pss_nil)
      (pss_cons (ps_if (pt_cmpR op_eq (pe_slice sl_str (pv 2) po_none (po_some pe_int)) pe_str (nomark _)) (pss_one (ps_set (i := 2) sc_name.nd rfl (.inl rfl) (pe_op op_add_str pe_str (pe_slice sl_str (pv 2) (po_some pe_int) po_none)))) pss_nil)
      (pss_one (ps_ret (pv 2))))))), ?_⟩
    have sN : nameSet.length = 37 := by decide +kernel
    have sl : sizeLine = 16777216 := sizeLine_eq
    refine ⟨_, rfl, .ref p, rfl, p, 36, rfl, hp, by decide, by decide, fun H1 d1 b1 p1 d10 d11 => ?_⟩
    obtain ⟨c1, m1, e1⟩ := at_sig nameSet d1 d10 (by rw [sN]; omega)
    refine ⟨nameSet, d1, c1, rfl, rfl, by omega, e1, ?_⟩
    have t1 : Tq P8 1 ⟨#[c1]⟩ := Tq.sign (lit8 nameSet List.mem_cons_self c1 m1)
    refine ⟨.ref p, rfl, by decide +kernel, fun l3 n3 => ?_⟩
    have p2 := p1.new (o := .lst ([(1 : Int), 4, 10].map V.int)) n3
    have nl3 := p1.ne n3
    refine ⟨.ref p, rfl, p, 3, rfl, p2, by decide, by decide, fun H3 d3 b3 p3 d30 d31 => ?_⟩
    obtain ⟨mo, mom, moe⟩ := at_ints [(1 : Int), 4, 10] d3 d30 (by show d3 < 3; exact d31)
    have hmo : 1 ≤ mo ∧ mo ≤ 10 := (by decide : ∀ y ∈ [(1 : Int), 4, 10], 1 ≤ y ∧ y ≤ 10) mo mom
    refine ⟨l3, _, d3, .int mo, rfl, rfl, SqL.of (b3 _ _ nl3.symm upd_same), moe, p, mo, rfl, p3, by omega, by omega, fun H4 d4 b4 p4 d40 d41 => ?_⟩
    have B4 : But p H H4 := ((b1.trans (But.new n3)).trans b3).trans b4
    refine ⟨d4, rfl, by omega, by omega, for_range (lo := 0) (n := d4.toNat) (fun i σ H' => But p H H' ∧ Pot H' p ∧ ∃ (y : Str) (x3 : Option V), σ = [some (.ref p), some (.str nameSet), some (.str y), x3] ∧ 0 < y.length ∧ Tq P8 (1 + i) y)
      ⟨B4, p4, _, none, rfl, (by show 0 < 1; decide), t1⟩ ?_ ?_⟩
    · rintro i σ H5 hi ⟨b5, p5, y, x3, rfl, y0, ty⟩
      refine ⟨.str y, rfl, .str nameSet, rfl, .ref p, rfl, p, 37, rfl, p5, by decide, by decide, fun H6 d6 b6 p6 d60 d61 => ?_⟩
      obtain ⟨c6, m6, e6⟩ := at_sig nameSet d6 d60 (by rw [sN]; omega)
      refine ⟨nameSet, d6, c6, rfl, rfl, by omega, e6, y, _, rfl, rfl, ?_, ?_⟩
      · have := ty.le
        show y.length + 1 ≤ _
        omega
      · refine ⟨b5.trans b6, p6, _, _, rfl, ?_, ty.app (Tq.sign (lit8 nameSet List.mem_cons_self c6 m6))⟩
        rw [Str.length_append]
        omega
    · rintro σ H5 ⟨b5, p5, y, x3, rfl, y0, ty⟩
      have ly : y.length ≤ 10 := by
        have := ty.le
        omega
      have ty10 : Tq P8 10 y := ⟨ly, ty.pl⟩
      obtain ⟨c7, m7, g7, e7⟩ := at_last y y0
      dsimp only [tSeq]
      refine ts_gen (t := tIfS _ _ _) (fun σ' H' => H' = H5 ∧ ∃ z, Tq P8 11 z ∧ σ' = [some (.ref p), some (.str nameSet), some (.str z), x3]) (fun κ kc => ?_) ?_
      · refine ⟨.str y, rfl, 1, rfl, y, -1, c7, rfl, rfl, by omega, e7, rfl, _, rfl, ite2 (fun e => ?_) (fun e => kc _ _ ⟨rfl, y, ty10.mono (by decide) (fun _ h => h), rfl⟩)⟩
        refine ⟨.str y, rfl, 1, rfl, -1, rfl, y, rfl, by omega, _, _, rfl, rfl, ?_, kc _ _ ⟨rfl, _, (ty10.cut none (some (-1))).app (m := 1) ⟨by decide +kernel, lit8 _ (by simp)⟩, rfl⟩⟩
        have := cutS_length y none (some (-1))
        have e1 : (Str.ofString "x").length = 1 := by decide +kernel
        rw [e1]
        omega
      · rintro σ' H' ⟨rfl, z, tz, rfl⟩
        have lz := tz.le
        dsimp only [tSeq]
        refine ts_gen (t := tIfS _ _ _) (fun σ' H'' => H'' = H' ∧ ∃ z, Tq P8 20 z ∧ σ' = [some (.ref p), some (.str nameSet), some (.str z), x3]) (fun κ kc => ?_) ?_
        · refine ⟨.str z, rfl, 3, rfl, z, rfl, by omega, rfl, _, rfl, ite2 (fun e => ?_) (fun e => kc _ _ ⟨rfl, z, tz.mono (by decide) (fun _ h => h), rfl⟩)⟩
          have e1 : (Str.ofString "x").length = 1 := by decide +kernel
          refine ⟨.str z, rfl, 1, rfl, z, rfl, by omega, _, _, rfl, rfl, ?_, kc _ _ ⟨rfl, _, Tq.mono (Tq.app (n := 1) (m := 11) ⟨by rw [e1]; decide, lit8 _ (by simp)⟩ (tz.cut (some 1) none)) (by decide) (fun _ h => h), rfl⟩⟩
          have := cutS_length z (some 1) none
          rw [e1]
          omega
        · rintro σ' H'' ⟨rfl, z2, tz2, rfl⟩
          exact ⟨.str z2, rfl, q _ _ b5 p5 tz2⟩
end
/-! ### rows -/
structure Rw where
  nm : Str
  bad : Nat
  smp : Str
  tp : Addr
abbrev tpOf (r : Rw) : HO := .tup [.str r.nm, .str (sgn r.bad), .str r.smp]
abbrev refsOf (rs : List Rw) : List V := rs.map fun r => V.ref r.tp
structure RwOk (H : Hp) (r : Rw) : Prop where
  tp : H r.tp = some (tpOf r)
  n : Tq P8 20 r.nm
  s : Tq P8 70 r.smp
  b : r.bad < 256
theorem RwOk.same {H H' : Hp} {r : Rw} (h : RwOk H r) (s : Same H H') : RwOk H' r := ⟨s _ _ h.tp, h.n, h.s, h.b⟩
theorem RwOk.but {H H' : Hp} {r : Rw} {p : Addr} {xs : List V} (h : RwOk H r) (e : H p = some (.lst xs)) (b : But p H H') : RwOk H' r := ⟨b _ _ (fun z => by
  have t := h.tp
  rw [z, e] at t
  cases t) h.tp, h.n, h.s, h.b⟩
theorem RwOk.pot {H H' : Hp} {r : Rw} {p : Addr} (h : RwOk H r) (pt : Pot H p) (b : But p H H') : RwOk H' r := by
  obtain ⟨_, _, e, _⟩ := pt
  exact h.but e b
structure Rws (H : Hp) (l : Addr) (rs : List Rw) : Prop where
  e : H l = some (.lst (refsOf rs))
  ok : ∀ r ∈ rs, RwOk H r
  nd : (rs.map (·.nm)).Nodup
  le : rs.length ≤ 12
theorem Rws.same {H H' : Hp} {l : Addr} {rs : List Rw} (h : Rws H l rs) (s : Same H H') : Rws H' l rs := ⟨s _ _ h.e, fun r hr => (h.ok r hr).same s, h.nd, h.le⟩
theorem Rws.pot {H H' : Hp} {l p : Addr} {rs : List Rw} (h : Rws H l rs) (pt : Pot H p) (n : l ≠ p) (b : But p H H') : Rws H' l rs := ⟨b _ _ n h.e, fun r hr => (h.ok r hr).pot pt b, h.nd, h.le⟩
/-- [row[0] for row in rows] -/
theorem lc_names {K : PySem.W.Frag} {rs : List Rw} {a D : Addr} {j : Nat} {vs : List Nat} {σ : L2.St} {H1 : Hp} {Qd : Hp → Prop} (el : H1 a = some (.lst (refsOf rs))) (ok : ∀ r ∈ rs, H1 r.tp = some (tpOf r)) (le : rs.length ≤ 100) (nD : H1 D = none)
    (w1 : ∀ x, wipe ((wipe σ vs).set j (some x)) vs = wipe σ vs) (w2 : ∀ x, ((wipe σ vs).set j (some x))[j]? = some (some x)) (q : ∀ H', Same H1 H' → H' D = some (.lst ((rs.map (·.nm)).map V.str)) → Qd H') :
    ∃ W : Nat → Nat → Hp → Prop, (∃ m, W 0 m (upd H1 D (.lst []))) ∧ ∀ i m H, W i m H →
      ((Itl K a).stop i H ∧ Qd H) ∨ ((Itl K a).go i H ∧ ∃ Nx : Hp → Prop, (∀ H', Nx H' → ∃ m', m' < m ∧ W (i + 1) m' H') ∧ ∀ x H', (Itl K a).yld i H x H' → gName j x (wipe σ vs) H' fun σ2 H2 => wipe σ2 vs = wipe σ vs ∧ tYes σ2 H2 fun b H3 =>
        if b = true then tOp (rIxT K) (tVar j) (tC (.int 0)) σ2 H3 fun y H4 => ∃ acc, H4 D = some (.lst acc) ∧ acc.length < sizeLine ∧ Nx (upd H4 D (.lst (acc ++ [y]))) else Nx H3) := by
  refine lc_list (K := K) (a := a) (xs := refsOf rs) (fun i Hc => Same H1 Hc ∧ Hc D = some (.lst (((rs.take i).map (·.nm)).map V.str))) ⟨same_upd nD, upd_same⟩ (fun i Hc _ ⟨sc, _⟩ => SqL.of (sc _ _ el)) (fun i x Hc hx ⟨sc, eD⟩ => ?_) (fun Hc ⟨sc, eD⟩ => ?_)
  · rw [List.getElem?_map] at hx
    obtain ⟨z, ez, rfl⟩ := Option.map_eq_some_iff.mp hx
    refine ⟨w1 _, ?_⟩
    show tOp (rIxT K) (tVar j) (tC (.int 0)) _ _ _
    refine ⟨_, w2 _, z.tp, _, 0, .str z.nm, rfl, rfl, SqT.of (sc _ _ (ok z (List.mem_of_getElem? ez))), rfl, _, eD, ?_, ?_, ?_⟩
    · rw [List.length_map, List.length_map, List.length_take]
      exact small1000 (by omega)
    · intro b o e
      rw [upd_ne (ne_of_none e nD)]
      exact sc b o e
    · rw [upd_same, List.take_add_one, ez, List.map_append, List.map_append]
      rfl
  · rw [show (refsOf rs).length = rs.length from by rw [List.length_map], List.take_length] at eD
    exact q Hc sc eD
theorem row_dp {K : PySem.W.Frag} {H : Hp} : ∀ rs : List Rw, (∀ r ∈ rs, RwOk H r) → DpAll K H (refsOf rs) (rs.map fun r => .tuple [.str r.nm, .str (sgn r.bad), .str r.smp])
  | [], _ => .nil
  | r :: l, h => .cons (.tup (SqT.of (h r List.mem_cons_self).tp) (.cons (.str _) (.cons (.str _) (.cons (.str _) .nil)))) (row_dp l fun x hx => h x (List.mem_cons_of_mem _ hx))
theorem sgn_ok {c : Nat} (h : c < 256) : PyData.strOk (sgn c) = true := strOk_of (fun d hd => by
  have e : d ∈ [c] := hd
  rw [List.mem_singleton.mp e]
  exact h)
theorem row_lay {H : Hp} : ∀ rs : List Rw, (∀ r ∈ rs, RwOk H r) → PyData.canLayAll0 (rs.map fun r => PyData.tuple [.str r.nm, .str (sgn r.bad), .str r.smp]) = true ∧ PyData.depthAll (rs.map fun r => PyData.tuple [.str r.nm, .str (sgn r.bad), .str r.smp]) ≤ 1
  | [], _ => ⟨by simp [PyData.canLayAll0], by simp [PyData.depthAll]⟩
  | r :: l, h => by
    obtain ⟨h1, h2⟩ := row_lay l fun x hx => h x (List.mem_cons_of_mem _ hx)
    have o := h r List.mem_cons_self
    rw [List.map_cons]
    refine ⟨by simp [PyData.canLayAll0, PyData.canLay0, h1, strOk_of o.n.pl, strOk_of o.s.pl, sgn_ok o.b], ?_⟩
    simp only [PyData.depthAll, PyData.depth]
    omega
theorem row_shaped {H : Hp} (rs : List Rw) (h : ∀ r ∈ rs, RwOk H r) : SeqAt.shaped (.list (rs.map fun r => PyData.tuple [.str r.nm, .str (sgn r.bad), .str r.smp])) = true := by
  obtain ⟨h1, h2⟩ := row_lay rs h
  unfold SeqAt.shaped
  rw [Bool.and_eq_true]
  refine ⟨by simp [PyData.canLay0, h1], decide_eq_true ?_⟩
  simp only [PyData.depth]
  omega
theorem nodup_app {l : List Str} {y : Str} (h : l.Nodup) (n : y ∉ l) : (l ++ [y]).Nodup := by
  rw [List.nodup_append]
  refine ⟨h, by simp, fun a ha b hb => ?_⟩
  rw [List.mem_singleton.mp hb]
  exact fun e => n (e ▸ ha)
def smps (z : Str) : List Str := [Str.ofString "", Str.ofString "b", Str.ofString "b=b", Str.ofString "b b", Str.ofString "bb-b", z]
theorem smps_ok {z : Str} (hz : Tq P8 60 z) : ∀ y ∈ smps z, Tq P8 60 y := by
  have h : ∀ y ∈ [Str.ofString "", Str.ofString "b", Str.ofString "b=b", Str.ofString "b b", Str.ofString "bb-b"], y.length ≤ 60 ∧ ∀ c ∈ tl y, c < 256 := by decide +kernel
  intro y hy
  have hy' : y ∈ [Str.ofString "", Str.ofString "b", Str.ofString "b=b", Str.ofString "b b", Str.ofString "bb-b"] ++ [z] := hy
  rcases List.mem_append.mp hy' with m | m
  · exact ⟨(h y m).1, (h y m).2⟩
  · rw [List.mem_singleton.mp m]
    exact hz
theorem repl_tq {x : Str} {c n : Nat} (h : Tq P8 n x) : Tq P8 n (Txt.replace x (sgn c) (Str.ofString "")) := by
  refine ⟨?_, fun d hd => ?_⟩
  · rw [TL.len_tl, repl_tl]
    exact Nat.le_trans (List.length_filter_le _ _) (by rw [← TL.len_tl]; exact h.le)
  · rw [repl_tl] at hd
    exact h.pl d (List.mem_filter.mp hd).1
section
variable {P : Program} {w : World} {K : PySem.W.Frag} {mg : Str → Option Value} {base : Heap}
def spRows : Sp := fun vs H Q _ => ∃ p : Addr, vs = [.ref p] ∧ Pot H p ∧ ∀ H' l (rs : List Rw), But p H H' → Pot H' p → l ≠ p → Rws H' l rs → rs ≠ [] → Q (.ref l) H'
theorem ok_rows {f fD fN : Addr} {fd fdD fdN : FuncData} {k : Nat} (F : Fun K "_law_rows" "_law_rows" st_rows f fd) (D_draw : Df K mg "_law_draw" sDraw ["_law_pot_here", "_law_many"] fD fdD) (D_name : Df K mg "_law_name" st_name ["_law_pot_here"] fN fdN) (m_divmod : mg "divmod" = none) (m_range : mg "range" = none) :
    FnOk P w K mg base CX0 (k + 3) f fd ["_law_pot_here"] spRows := by
  have G_draw : FnOk P w K mg base CX0 (k + 2) fD fdD ["_law_pot_here", "_law_many"] spDraw := ok_draw D_draw.F m_divmod
  have G_name : FnOk P w K mg base CX0 (k + 2) fN fdN ["_law_pot_here"] spLName := ok_lname D_name.F D_draw m_divmod m_range
  refine F.ok sc_rows (fun vs H Q E h => ?_) (fun cdv A outer s H vs Q E hr h => ?_)
  · obtain ⟨p, rfl, _⟩ := h
    rfl
  · obtain ⟨p, rfl, hp, q⟩ := h
    refine ⟨_, (pss_cons (ps_set (i := 1) sc_rows.nd rfl (.inl rfl) (pe_lst pa_nil))
      (pss_cons (ps_for PassesOwn.never rfl (pi_range1 rfl m_range (pa_cons (pe_op op_add pe_int (pe_call G_draw hr (by rfl) D_draw.g D_draw.F.kp D_draw.b .nil pass0 (pa_cons (pv 0) (pa_cons pe_int pa_nil)))) pa_nil)) (pg_name (i := 2) sc_rows.nd rfl (Or.inl rfl)) (pss_cons (ps_set (i := 3) sc_rows.nd rfl (.inl rfl) (pe_call G_name hr (by rfl) D_name.g D_name.F.kp D_name.b .nil pass0 (pa_cons (pv 0) pa_nil)))
      (pss_kr (i := 4) (iz := 5) sc_rows.nd rfl rfl rfl (.inl rfl) (pe_call G_draw hr (by rfl) D_draw.g D_draw.F.kp D_draw.b .nil pass0 (pa_cons (pv 0) (pa_cons pe_int pa_nil))) (fun _ _ => rfl)
        (pek_ixL (pek_lst (pak_cons pek_str (pak_cons pek_str (pak_cons pek_str (pak_cons pek_str (pak_cons pek_str (pak_cons (pek_mul (n := 60) (by decide +kernel) (by decide)) pak_nil)))))))
          (pek_call G_draw hr (by rfl) D_draw.g D_draw.F.kp D_draw.b (pak_cons (pek_var (i := 0) rfl (by first | exact .inl rfl | exact rfl | decide)) (pak_cons pek_int pak_nil))) (fun _ _ => rfl))
      (pss_one (ps_if (pt_cmpR op_notIn_seq (pv 3) (pe_lc (own := [("_law_row", 6)]) (g := gName 6) (tt := tYes) rfl sc_rows.nd (pi_list (pv 1)) (blkOk_by (N := ["_law_pot_here", "_law_rows_here", "_law_k", "_law_name_here", "_law_bad", "_law_sample", "_law_row"]) (sc := defScope st_rows) (by decide +kernel)) (fun _ _ _ _ _ => (pg_name (i := 6) sc_rows.nd rfl (Or.inl rfl))) (fun _ _ _ _ _ => pts_nil) (fun _ _ _ _ _ => (pe_ix (r := rIxT K) ix_tup (pv 6) pe_int (fun _ _ => rfl)))) (by rfl)) (pss_one (ps_expr (pe_bm PySem.F.plainAttrs_list PySem.F.slot_list_append PySem.F.type_list_append mt_append (pv 1) (pa_cons (pe_tup (pa_cons (pv 3) (pa_cons (pv 4) (pa_cons (pv 5) pa_nil)))) pa_nil)))) pss_nil)))))
      (pss_one (ps_ret (pe_ifExp (pt_cmpR (op_neD hr.units) (pv 1) (pe_lst pa_nil) (nomark _)) (pv 1) (pe_lst (pa_cons (pe_tup (pa_cons pe_str (pa_cons pe_str (pa_cons pe_str pa_nil)))) pa_nil))))))), ?_⟩
    have sl : sizeLine = 16777216 := sizeLine_eq
    refine ⟨Nat.zero_le _, fun l nl => ?_⟩
    have nlp : l ≠ p := (hp.ne nl).symm
    have p0 := hp.new (o := .lst ([] : List V)) nl
    have b0 : But p H (upd H l (.lst ([] : List V))) := But.new nl
    have r0 : Rws (upd H l (.lst ([] : List V))) l [] := ⟨upd_same, fun r h => (by cases h), List.nodup_nil, Nat.zero_le _⟩
    revert p0 b0 r0
    generalize upd H l (.lst ([] : List V)) = H0
    intro p0 b0 r0
    refine ⟨.ref p, rfl, p, 12, rfl, p0, by decide, by decide, fun H1 d1 b1 p1 d10 d11 => ?_⟩
    refine ⟨1, d1, rfl, rfl, 1 + d1, rfl, by omega, by omega, for_range (lo := 0) (n := (1 + d1).toNat) (fun i σ H' => But p H H' ∧ Pot H' p ∧ ∃ (rs : List Rw) (x2 x3 x4 x5 x6 : Option V), σ = [some (.ref p), some (.ref l), x2, x3, x4, x5, x6] ∧ Rws H' l rs ∧ rs.length ≤ i)
      ⟨b0.trans b1, p1, [], none, none, none, none, none, rfl, r0.pot p0 nlp b1, Nat.le_refl _⟩ ?_ ?_⟩
    · rintro i σ H2 hi ⟨b2, p2, rs, x2, x3, x4, x5, x6, rfl, R2, li⟩
      refine ⟨.ref p, rfl, p, rfl, p2, fun H3 y b3 p3 ty => ?_⟩
      have R3 := R2.pot p2 nlp b3
      refine ⟨.ref p, rfl, p, 8, rfl, p3, by decide, by decide, fun H4 d4 b4 p4 d40 d41 => ?_⟩
      have R4 := R3.pot p3 nlp b4
      have s8 : (Str.ofString "ax-,: '0").length = 8 := by decide +kernel
      obtain ⟨c, cm, ce⟩ := at_sig (Str.ofString "ax-,: '0") d4 d40 (by rw [s8]; omega)
      have c8 : c < 256 := lit8 _ (by simp) c cm
      refine ⟨Str.ofString "ax-,: '0", d4, c, rfl, rfl, by omega, ce, c, rfl, fun z hz => ?_⟩
      have tz : Tq P8 60 z := by
        have ex : tl (Str.ofString "q") = [113] := by decide +kernel
        rw [ex] at hz
        refine ⟨?_, fun d hd => ?_⟩
        · rw [TL.len_tl, hz]
          decide
        · rw [hz] at hd
          exact (by decide : ∀ d ∈ (List.replicate 60 [113]).flatten, d < 256) d hd
      refine ⟨by show 6 ≤ sizeLine; decide, fun l5 n5 => ?_⟩
      have p5 := p4.new (o := .lst ((smps z).map V.str)) n5
      have nl5 := p4.ne n5
      refine ⟨.ref p, rfl, p, 6, rfl, p5, by decide, by decide, fun H6 d6 b6 p6 d60 d61 => ?_⟩
      obtain ⟨x, xm, xe⟩ := at_strs (smps z) d6 d60 (by show d6 < 6; exact d61)
      have tx := smps_ok tz x xm
      have R6 := (R4.same (same_upd (o := .lst ((smps z).map V.str)) n5)).pot p5 nlp b6
      have B6 : But p H H6 := ((((b2.trans b3).trans b4).trans (But.new n5)).trans b6)
      refine ⟨l5, _, d6, .str x, rfl, rfl, SqL.of (b6 _ _ nl5.symm upd_same), xe, x, rfl, by have := tx.le; omega, ?_⟩
      refine ⟨.str y, rfl, .ref l, rfl, l, rfl, ⟨_, SqL.of R6.e⟩, fun D nD => lc_names R6.e (fun r h => (R6.ok r h).tp) (Nat.le_trans R6.le (by decide)) nD (fun _ => rfl) (fun _ => rfl) fun H7 s7 e7 => ?_⟩
      have R7 := R6.same s7
      have p7 : Pot H7 p := by
        obtain ⟨a, b, e, h⟩ := p6
        exact ⟨a, b, s7 _ _ e, h⟩
      have B7 : But p H H7 := B6.trans (But.of_same s7)
      refine ⟨D, _, rfl, .inl (SqL.of e7), rfl, strs_flat _, _, rfl, ite2 (fun e => ?_) (fun e => ?_)⟩
      · have ny : y ∉ rs.map (·.nm) := fun hm => by
          have e' : (!inV (.str y) ((rs.map (·.nm)).map V.str)) = true := e
          rw [inV_strs, decide_eq_true hm] at e'
          cases e'
        refine ⟨.ref l, rfl, .inl ⟨rfl, _, SqL.of R7.e⟩, _, rfl, _, rfl, _, rfl, by show 3 ≤ sizeLine; decide, fun t nt => ?_⟩
        have s8 : Same H7 (upd H7 t (tpOf ⟨y, c, Txt.replace x (sgn c) (Str.ofString ""), t⟩)) := same_upd nt
        have e8 : (upd H7 t (tpOf ⟨y, c, Txt.replace x (sgn c) (Str.ofString ""), t⟩)) t = some (tpOf ⟨y, c, Txt.replace x (sgn c) (Str.ofString ""), t⟩) := upd_same
        have R8 := R7.same s8
        have nl8 := ne_of_none R7.e nt
        revert s8 e8 R8
        show (∀ _ _ _, _)
        generalize upd H7 t (tpOf ⟨y, c, Txt.replace x (sgn c) (Str.ofString ""), t⟩) = H8
        intro s8 e8 R8
        refine ⟨l, _, _, rfl, rfl, R8.e, ?_, ?_⟩
        · rw [List.length_map]
          exact small1000 (by have := R8.le; omega)
        · have p8 : Pot H8 p := by
            obtain ⟨a, b, e, h⟩ := p7
            exact ⟨a, b, s8 _ _ e, h⟩
          have np : p ≠ l := nlp.symm
          have p9 : Pot (upd H8 l (.lst (refsOf rs ++ [.ref t]))) p := by
            obtain ⟨a, b, e, h⟩ := p8
            exact ⟨a, b, by rw [upd_ne np]; exact e, h⟩
          have okB : ∀ r, RwOk H8 r → RwOk (upd H8 l (.lst (refsOf rs ++ [.ref t]))) r := fun r h => h.but R8.e (But.upd _ _ _)
          refine ⟨fun b o nb e => ?_, p9, rs ++ [⟨y, c, Txt.replace x (sgn c) (Str.ofString ""), t⟩], _, _, _, _, _, rfl, ⟨?_, fun r hr => ?_, ?_, ?_⟩, ?_⟩
          · have nb2 : b ≠ l := ne_of_none e nl
            rw [upd_ne nb2]
            exact s8 _ _ (B7 b o nb e)
          · rw [upd_same]
            show _ = some (HO.lst (List.map _ _))
            rw [List.map_append]
            rfl
          · rcases List.mem_append.mp hr with h | h
            · exact okB r (R8.ok r h)
            · rw [List.mem_singleton.mp h]
              exact okB _ ⟨e8, ty, (repl_tq tx).mono (by decide) (fun _ h => h), c8⟩
          · rw [List.map_append]
            exact nodup_app R8.nd ny
          · rw [List.length_append]
            show rs.length + 1 ≤ 12
            omega
          · rw [List.length_append]
            show rs.length + 1 ≤ i + 1
            omega
      · exact ⟨B7, p7, rs, _, _, _, _, _, rfl, R7, by omega⟩
    · rintro σ H2 ⟨b2, p2, rs, x2, x3, x4, x5, x6, rfl, R2, li⟩
      refine ⟨.ref l, rfl, Nat.zero_le _, fun o no => ?_⟩
      have s3 : Same H2 (upd H2 o (.lst ([] : List V))) := same_upd no
      have e3 : (upd H2 o (.lst ([] : List V))) o = some (.lst []) := upd_same
      have R3 := R2.same s3
      have p3 := p2.new (o := .lst ([] : List V)) no
      revert s3 e3 R3 p3
      generalize upd H2 o (.lst ([] : List V)) = H3
      intro s3 e3 R3 p3
      refine ⟨_, _, .lst (SqL.of R3.e) (row_dp rs R3.ok), .lst (SqL.of e3) .nil, row_shaped rs R3.ok, (by decide +kernel), _, rfl, ?_⟩
      rw [eqv_nil]
      cases rs with
      | nil =>
        refine ⟨by show 3 ≤ sizeLine; decide, fun t nt => ?_⟩
        have s4 : Same H3 (upd H3 t (tpOf ⟨Str.ofString "a", 120, Str.ofString "b", t⟩)) := same_upd nt
        have e4 : (upd H3 t (tpOf ⟨Str.ofString "a", 120, Str.ofString "b", t⟩)) t = some (tpOf ⟨Str.ofString "a", 120, Str.ofString "b", t⟩) := upd_same
        have ex : Str.ofString "x" = sgn 120 := by decide +kernel
        rw [ex]
        have p4 := p3.new (o := tpOf ⟨Str.ofString "a", 120, Str.ofString "b", t⟩) nt
        revert s4 e4 p4
        generalize upd H3 t (tpOf ⟨Str.ofString "a", 120, Str.ofString "b", t⟩) = H4
        intro s4 e4 p4
        refine ⟨by show 1 ≤ sizeLine; decide, fun l2 nl2 => ?_⟩
        have la : ∀ y ∈ [Str.ofString "a", Str.ofString "b"], y.length ≤ 20 ∧ ∀ c ∈ tl y, c < 256 := by decide +kernel
        refine q _ l2 [⟨Str.ofString "a", 120, Str.ofString "b", t⟩] ((b2.trans (But.of_same s3)).trans ((But.of_same s4).trans (But.new nl2))) (p4.new nl2) (p4.ne nl2).symm ⟨upd_same, fun r hr => ?_, by simp, by show 1 ≤ 12; decide⟩ (by simp)
        rw [List.mem_singleton.mp hr]
        refine RwOk.same (H := H4) ⟨e4, ⟨(la _ (by simp)).1, (la _ (by simp)).2⟩, ⟨Nat.le_trans (la _ (by simp)).1 (by decide), (la (Str.ofString "b") (by simp)).2⟩, (by show 120 < 256; decide)⟩ (same_upd nl2)
      | cons r rest => exact ⟨.ref l, rfl, q _ l _ (b2.trans (But.of_same s3)) p3 nlp R3 (by simp)⟩
end
end WB

set_option Elab.async false
set_option linter.all false
set_option maxRecDepth 100000
set_option maxHeartbeats 4000000
namespace WB
open PySem PySem.Spec PyProof.Rows L2 WG
open TL (tl)
abbrev st_w_is_name : Stmt := topS 33
theorem sc_w_is_name : FnScope ["_law_text", "_law_signs", "_law_sign"] ["_law_text"] (defScope st_w_is_name) := ⟨rfl, rfl, rfl, by decide +kernel, rfl, by decide +kernel, by decide +kernel⟩
abbrev st_first : Stmt := topS 34
theorem sc_first : FnScope ["_law_rows_here", "_law_name_here", "_law_bad", "_law_sample"] ["_law_rows_here"] (defScope st_first) := ⟨rfl, rfl, rfl, by decide +kernel, rfl, by decide +kernel, by decide +kernel⟩
abbrev st_spoilt : Stmt := topS 32
theorem sc_spoilt : FnScope ["_law_pot_here", "_law_rows_here", "_law_at", "_law_name_here", "_law_bad", "_law_sample", "_law_way", "_law_some", "_law_row"] ["_law_pot_here", "_law_rows_here"] (defScope st_spoilt) := ⟨rfl, rfl, rfl, by decide +kernel, rfl, by decide +kernel, by decide +kernel⟩
theorem neLit (x : Str) (s : String) {l : List Nat} (hl : tl (Str.ofString s) = l) : (!decide (V.str x = V.str (Str.ofString s))) = !decide (tl x = l) := by rw [dec_lit x s hl]
theorem take_one {l : List Nat} {c : Nat} (h : atI l 0 = some c) : l.take 1 = [c] := by
  obtain ⟨j, h1, h2, h3, _⟩ := atI_get h
  cases l with
  | nil => exact absurd h3 (Nat.not_lt_zero _)
  | cons a r =>
    have e : seqIndex? 0 (a :: r).length = some 0 := by simp [seqIndex?]
    rw [e] at h1
    cases h1
    cases h2
    rfl
section
variable {P : Program} {w : World} {K : PySem.W.Frag} {mg : Str → Option Value} {base : Heap}
def spWName : Sp := fun vs H Q _ => ∃ z : Str, vs = [.str z] ∧ Tq P8 20 z ∧ ∀ H', Same H H' → Q (.bl (nm (tl z))) H'
theorem ok_wName {f : Addr} {fd : FuncData} {k : Nat} (F : Fun K "_law_is_name" "_law_is_name" st_w_is_name f fd) (m_len : mg "len" = none) : FnOk P w K mg base CX0 (k + 1) f fd ["_law_text"] spWName := by
  refine F.ok sc_w_is_name (fun vs H Q E h => ?_) (fun cdv A outer s H vs Q E hr h => ?_)
  · obtain ⟨z, rfl, _⟩ := h
    rfl
  · obtain ⟨z, rfl, tz, q⟩ := h
    refine ⟨_, pss_cons (ps_set (i := 1) sc_w_is_name.nd rfl (.inr rfl) pe_str)
      (pss_cons (ps_if (PW.pt (pw_or (pt_not (pt_chain op_le op_le pe_int (pe_callB call_len_str (by rfl) m_len PySem.boot_len (pa_cons (pv 0) pa_nil)) pe_int)) (pw_or1 (pt_cmpR (op_neD hr.units) (pe_lc (own := [("_law_sign", 2)]) (g := gName 2) rfl sc_w_is_name.nd (pi_str (pv 0)) (blkOk_by (N := ["_law_text", "_law_signs", "_law_sign"]) (sc := defScope st_w_is_name) (by decide +kernel)) (fun _ _ _ _ _ => (pg_name (i := 2) sc_w_is_name.nd rfl (Or.inl rfl))) (fun _ _ _ _ _ => pts_one (pt_cmpR op_notIn_sign (pv 2) (pv 1) (by rfl))) (fun _ _ _ _ _ => (pv 2))) (pe_lst pa_nil) (nomark _))))) (pss_one (ps_ret pe_bl)) pss_nil)
      (pss_one (ps_ret (pe_and (pe_cmpR op_ne (pe_ix ix_str (pv 0) pe_int (fun _ _ => rfl)) pe_str (nomark _)) (pe_and (pe_cmpR op_ne (pe_ix ix_str (pv 0) (pe_un un_neg pe_int) (fun _ _ => rfl)) pe_str (nomark _)) (pe_one (pe_cmpR op_ne (pe_slice sl_str (pv 0) po_none (po_some pe_int)) pe_str (nomark _)))))))), ?_⟩
    have lz := tz.le
    have sl : sizeLine = 16777216 := sizeLine_eq
    have ez := TL.len_tl z
    have hzl : z.length ≤ sizeLine := by omega
    dsimp only [tSeq, tAsg, tC, gName]
    refine ⟨.str z, rfl, z, rfl, hzl, 1, _, rfl, rfl, _, rfl, ?_⟩
    by_cases h1 : 1 ≤ z.length
    · rw [decide_eq_true (show (1 : Int) ≤ (z.length : Int) by omega)]
      refine ⟨_, 10, rfl, rfl, _, rfl, ?_⟩
      by_cases h2 : z.length ≤ 10
      · rw [decide_eq_true (show (z.length : Int) ≤ 10 by omega)]
        have ne : tl z ≠ [] := fun e => by
          rw [e] at ez
          have : ([] : List Nat).length = 0 := rfl
          omega
        have nmE : nm (tl z) = (!decide ((tl z).take 1 = [45]) && !decide ((tl z).getLast? = some 45) && !decide ((tl z).take 3 = [110, 111, 45]) && (tl z).all fun c => decide (c ∈ tl nameSet)) := by
          unfold nm
          rw [decide_eq_true ne, decide_eq_true (show (tl z).length ≤ 10 by omega)]
          simp
        refine ⟨.str z, rfl, z, rfl, fun D nD => ?_⟩
        refine lc_it walk_str (fun i Hc => Same H Hc ∧ Hc D = some (.lst ((((tl z).take i).filter fun c => !decide (c ∈ tl nameSet)).map fun c => V.str ⟨#[c]⟩))) ⟨same_upd nD, upd_same⟩ (fun _ _ _ _ => True.intro) (fun i x Hc H' hi ⟨sc, eD⟩ ⟨eH, c, ec, ex⟩ => ?_) (fun Hc ⟨sc, eD⟩ => ?_)
        · subst eH ex
          have ec' : (tl z)[i]? = some c := by
            rw [Array.getElem?_toList]
            exact ec
          refine ⟨rfl, ?_⟩
          refine ⟨_, rfl, _, rfl, c, nameSet, rfl, rfl, _, rfl, ?_⟩
          have et : (tl z).take (i + 1) = (tl z).take i ++ [c] := by
            rw [List.take_add_one, ec']
            rfl
          show if (!decide (c ∈ tl nameSet)) = true then _ else _
          cases hc : decide (c ∈ tl nameSet) with
          | true =>
            refine ⟨sc, ?_⟩
            rw [et, List.filter_append, List.filter_cons_of_neg (by rw [hc]; decide), List.filter_nil, List.append_nil]
            exact eD
          | false =>
            refine ⟨_, rfl, _, eD, ?_, ?_, ?_⟩
            · rw [List.length_map]
              refine Nat.lt_of_le_of_lt (List.length_filter_le _ _) ?_
              rw [List.length_take]
              exact small1000 (by omega)
            · intro b o e
              rw [upd_ne (ne_of_none e nD)]
              exact sc b o e
            · rw [upd_same, et, List.filter_append, List.filter_cons_of_pos (by rw [hc]; rfl), List.filter_nil, List.map_append]
              rfl
        have el : z.cps.size = (tl z).length := by simp
        rw [el, List.take_length] at eD
        refine ⟨Nat.zero_le _, fun p np => ?_⟩
        have eD' : (upd Hc p (.lst [])) D = some (.lst ((((tl z).filter fun c => !decide (c ∈ tl nameSet)).map fun c => (⟨#[c]⟩ : Str)).map V.str)) := by
          rw [upd_ne (ne_of_none eD np), eD, List.map_map]
          rfl
        have S2 : Same H (upd Hc p (.lst [])) := sc.trans (same_upd np)
        refine ⟨_, _, .lst (SqL.of eD') (dp_strs _), .lst (SqL.of upd_same) .nil, shaped_strs _ ?_, by decide +kernel, _, rfl, ?_⟩
        · intro y hy
          obtain ⟨c, hc, rfl⟩ := List.mem_map.mp hy
          exact strOk_of (Tq.sign (p := P8) (tz.pl c (List.mem_filter.mp hc).1)).pl
        rw [eqv_nil, List.isEmpty_map, List.isEmpty_map]
        revert S2
        generalize upd Hc p (.lst []) = H2
        intro S2
        refine ite2 (fun e => ?_) (fun e => ?_)
        · have hx : ((tl z).all fun c => decide (c ∈ tl nameSet)) = false := by
            refine Bool.eq_false_iff.mpr fun h => ?_
            have h' := List.all_eq_true.mp h
            rw [List.isEmpty_iff.mpr (List.filter_eq_nil_iff.mpr fun c hc => by rw [h' c hc]; decide)] at e
            cases e
          have q' := q _ S2
          rw [nmE, hx, Bool.and_false] at q'
          exact q'
        have hall : ((tl z).all fun c => decide (c ∈ tl nameSet)) = true := by
          refine List.all_eq_true.mpr fun c hc => ?_
          cases h : decide (c ∈ tl nameSet) with
          | true => rfl
          | false =>
            refine absurd ?_ e
            cases hf : (tl z).filter (fun c => !decide (c ∈ tl nameSet)) with
            | nil =>
              have := List.filter_eq_nil_iff.mp hf c hc
              rw [h] at this
              exact absurd rfl this
            | cons a r => rfl
        obtain ⟨c0, m0, e0⟩ := at_sig z 0 (by decide) (by omega)
        obtain ⟨c1, m1, g1, e1⟩ := at_last z (by omega)
        have d0 : decide (V.str ⟨#[c0]⟩ = V.str (Str.ofString "-")) = decide ((tl z).take 1 = [45]) := by
          rw [dec_lit _ "-" (l := [45]) (by decide +kernel), take_one e0]
        have d1 : decide (V.str ⟨#[c1]⟩ = V.str (Str.ofString "-")) = decide ((tl z).getLast? = some 45) := by
          rw [dec_lit _ "-" (l := [45]) (by decide +kernel), g1]
          refine decide_eq_decide.mpr ⟨fun h => ?_, fun h => ?_⟩
          · have h' : [c1] = [45] := h
            rw [(List.cons.inj h').1]
          · rw [Option.some.inj h]
        have d2 : decide (V.str (cutS z none (some 3)) = V.str (Str.ofString "no-")) = decide ((tl z).take 3 = [110, 111, 45]) := by
          rw [dec_lit _ "no-" (l := [110, 111, 45]) (by decide +kernel)]
          have := tl_cut_to z 3
          rw [show ((3 : Nat) : Int) = 3 from rfl] at this
          rw [this]
        refine ⟨.str z, rfl, z, 0, c0, rfl, rfl, hzl, e0, rfl, _, rfl, ?_⟩
        rw [d0]
        cases hA : decide ((tl z).take 1 = [45]) with
        | true =>
          have q' := q _ S2
          rw [nmE, hA] at q'
          exact q'
        | false =>
          refine ⟨.str z, rfl, 1, rfl, z, -1, c1, rfl, rfl, hzl, e1, rfl, _, rfl, ?_⟩
          rw [d1]
          cases hB : decide ((tl z).getLast? = some 45) with
          | true =>
            have q' := q _ S2
            rw [nmE, hA, hB] at q'
            exact q'
          | false =>
            refine ⟨.str z, rfl, 3, rfl, z, rfl, hzl, rfl, ?_⟩
            rw [d2]
            have q' := q _ S2
            rw [nmE, hA, hB, hall, Bool.and_true] at q'
            exact q'
      · rw [decide_eq_false (show ¬ (z.length : Int) ≤ 10 by omega)]
        have e : nm (tl z) = false := by
          unfold nm
          rw [decide_eq_false (p := (tl z).length ≤ 10) (by omega)]
          simp
        rw [e] at q
        exact q _ (Same.refl _)
    · rw [decide_eq_false (show ¬ (1 : Int) ≤ (z.length : Int) by omega)]
      have e : nm (tl z) = false := by
        have e0 : tl z = [] := List.length_eq_zero_iff.mp (by omega)
        rw [e0]
        rfl
      rw [e] at q
      exact ⟨false, rfl, q _ (Same.refl _)⟩
/-! ### _law_first -/
def okR (r : Rw) : Bool := nm (tl r.nm) && (plainW (tl r.smp) && !decide (r.bad ∈ tl r.smp))
theorem findR_at : ∀ {rs : List Rw} {i : Nat} {r : Rw}, rs[i]? = some r → (∀ j r', j < i → rs[j]? = some r' → okR r' = true) → okR r = false → rs.find? (fun r => !okR r) = some r
  | [], i, e, h, _, _ => by cases h
  | a :: r, 0, e, h, _, k => by
    have : a = e := Option.some.inj h
    subst this
    rw [List.find?_cons, k]
    rfl
  | a :: r, i + 1, e, h, p, k => by
    rw [List.find?_cons, p 0 a (Nat.zero_lt_succ _) rfl]
    exact findR_at (rs := r) (i := i) h (fun j e' hj he => p (j + 1) e' (Nat.succ_lt_succ hj) he) k
def spFirst : Sp := fun vs H Q _ => ∃ (l : Addr) (rs : List Rw), vs = [.ref l] ∧ Rws H l rs ∧ ((∀ r ∈ rs, okR r = true) → ∀ H', Same H H' → Q .non H') ∧ ∀ r, rs.find? (fun r => !okR r) = some r → ∀ H', Same H H' → Q (.str r.nm) H'
theorem ok_first {f fW : Addr} {fd fdW : FuncData} {k : Nat} (F : Fun K "_law_first" "_law_first" st_first f fd) (D_w_is_name : Df K mg "_law_is_name" st_w_is_name ["_law_text"] fW fdW) (m_len : mg "len" = none) : FnOk P w K mg base CX0 (k + 2) f fd ["_law_rows_here"] spFirst := by
  have G_w_is_name : FnOk P w K mg base CX0 (k + 1) fW fdW ["_law_text"] spWName := ok_wName D_w_is_name.F m_len
  refine F.ok sc_first (fun vs H Q E h => ?_) (fun cdv A outer s H vs Q E hr h => ?_)
  · obtain ⟨l, rs, rfl, _⟩ := h
    rfl
  · obtain ⟨l, rs, rfl, R, qok, qbad⟩ := h
    refine ⟨_, pss_cons (ps_for PassesOwn.never rfl (pi_list (pv 0)) (pg_tup rfl (pgs_cons (pg_name (i := 1) sc_first.nd rfl (Or.inl rfl)) (pgs_cons (pg_name (i := 2) sc_first.nd rfl (Or.inl rfl)) (pgs_cons (pg_name (i := 3) sc_first.nd rfl (Or.inl rfl)) pgs_nil)))) (pss_one (ps_if (PW.pt (pw_or (pt_not (pt_val (pe_call G_w_is_name hr (by rfl) D_w_is_name.g D_w_is_name.F.kp D_w_is_name.b .nil pass0 (pa_cons (pv 1) pa_nil)))) (pw_or (PW.pt (pw_and (pt_cmpR op_gt (pe_callB call_len_str (by rfl) m_len PySem.boot_len (pa_cons (pv 3) pa_nil)) pe_int (nomark _)) (pw_and1 (pt_cmpR op_eq (pe_ix ix_str (pv 3) pe_int (fun _ _ => rfl)) pe_str (nomark _))))) (pw_or1 (pt_cmpR op_in_sign (pv 2) (pv 3) (by rfl)))))) (pss_one (ps_ret (pv 1))) pss_nil)))
      (pss_one (ps_ret pe_non)), ?_⟩
    have sl : sizeLine = 16777216 := sizeLine_eq
    refine ⟨.ref l, rfl, l, rfl, ⟨_, SqL.of R.e⟩, for_list (K := K) (a := l) (xs := refsOf rs) (fun i σ H' => Same H H' ∧ (∀ j r, j < i → rs[j]? = some r → okR r = true) ∧ ∃ x1 x2 x3, σ = [some (.ref l), x1, x2, x3])
      ⟨Same.refl _, fun j e h => absurd h (Nat.not_lt_zero _), _, _, _, rfl⟩ (fun i σ H' _ h => SqL.of (h.1 _ _ R.e)) ?_ ?_⟩
    · rintro i x σ H1 hx ⟨s1, b4, x1, x2, x3, rfl⟩
      rw [List.getElem?_map] at hx
      obtain ⟨r, er, rfl⟩ := Option.map_eq_some_iff.mp hx
      have o := (R.ok r (List.mem_of_getElem? er)).same s1
      have ls := o.s.le
      refine ⟨r.tp, _, rfl, SqT.of o.tp, rfl, _, _, rfl, _, _, rfl, _, _, rfl, rfl, ?_⟩
      refine ⟨.str r.nm, rfl, r.nm, rfl, o.n, fun H2 s2 => ⟨_, rfl, ?_⟩⟩
      have s12 := s1.trans s2
      cases hn : nm (tl r.nm) with
      | false =>
        have ho : okR r = false := by
          unfold okR
          rw [hn]
          rfl
        exact ⟨_, rfl, qbad r (findR_at er b4 ho) _ s12⟩
      | true =>
        dsimp only
        rw [if_neg (show ¬ ((!true) = true) from by decide)]
        dsimp only [tOr]
        have ez := TL.len_tl r.smp
        refine tt_use (t := tAnd _ _) (b := !plainW (tl r.smp)) (fun R c => ?_) ?_
        · refine ⟨.str r.smp, rfl, r.smp, rfl, by omega, _, 1, rfl, rfl, _, rfl, ?_⟩
          by_cases h1 : 1 < r.smp.length
          · rw [decide_eq_true (show (1 : Int) < (r.smp.length : Int) by omega)]
            obtain ⟨c0, m0, e0⟩ := at_sig r.smp 0 (by decide) (by omega)
            refine ⟨.str r.smp, rfl, r.smp, 0, c0, rfl, rfl, by omega, e0, rfl, _, rfl, ?_⟩
            have ep : (!plainW (tl r.smp)) = decide (V.str ⟨#[c0]⟩ = V.str (Str.ofString "-")) := by
              rw [dec_lit _ "-" (l := [45]) (by decide +kernel)]
              unfold plainW
              rw [take_one e0, decide_eq_true (show 1 < (tl r.smp).length by omega), Bool.true_and, Bool.not_not]
            rw [ep] at c
            exact c
          · rw [decide_eq_false (show ¬ (1 : Int) < (r.smp.length : Int) by omega)]
            have ep : (!plainW (tl r.smp)) = false := by
              unfold plainW
              rw [decide_eq_false (show ¬ 1 < (tl r.smp).length by omega)]
              rfl
            rw [ep] at c
            exact c
        cases hp : plainW (tl r.smp) with
        | false =>
          have ho : okR r = false := by
            unfold okR
            rw [hn, hp]
            rfl
          exact ⟨_, rfl, qbad r (findR_at er b4 ho) _ s12⟩
        | true =>
          refine ⟨_, rfl, _, rfl, r.bad, r.smp, rfl, rfl, _, rfl, ite2 (fun e => ?_) (fun e => ?_)⟩
          · have ho : okR r = false := by
              unfold okR
              rw [hn, hp, e]
              rfl
            exact ⟨_, rfl, qbad r (findR_at er b4 ho) _ s12⟩
          · have ho : okR r = true := by
              unfold okR
              have e' : decide (r.bad ∈ tl r.smp) = false := Bool.eq_false_iff.mpr e
              rw [hn, hp, e']
              rfl
            refine ⟨s12, fun j r' hj he' => ?_, _, _, _, rfl⟩
            by_cases hji : j < i
            · exact b4 j r' hji he'
            · have : j = i := by omega
              subst this
              rw [er] at he'
              cases he'
              exact ho
    · rintro σ H1 ⟨s1, b4, x1, x2, x3, rfl⟩
      refine qok (fun r hr => ?_) _ s1
      obtain ⟨j, hj, ej⟩ := List.getElem_of_mem hr
      have hj' : j < (refsOf rs).length := by rw [List.length_map]; exact hj
      exact b4 j r hj' (by rw [List.getElem?_eq_getElem hj, ej])
end
end WB

set_option Elab.async false
set_option linter.all false
set_option maxRecDepth 100000
set_option maxHeartbeats 4000000
namespace WB
open PySem PySem.Spec PyProof.Rows L2 WG
open TL (tl)
theorem cutV_to (xs : List V) (j : Nat) (h : j ≤ xs.length) : cutV xs none (some (j : Int)) = xs.take j := by
  unfold cutV
  rw [HT.sIx_none, HT.sIx_nat, Nat.min_eq_left h, List.drop_zero, Nat.sub_zero]
theorem cutV_from (xs : List V) (j : Nat) (h : j ≤ xs.length) : cutV xs (some (j : Int)) none = xs.drop j := by
  unfold cutV
  rw [HT.sIx_none, HT.sIx_nat, Nat.min_eq_left h]
  refine List.take_of_length_le ?_
  rw [List.length_drop]
  exact Nat.le_refl _
theorem cut_to (rs : List Rw) (j : Nat) (h : j ≤ rs.length) : cutV (refsOf rs) none (some (j : Int)) = refsOf (rs.take j) :=
  (cutV_to _ _ (by rw [List.length_map]; exact h)).trans List.map_take.symm
theorem cut_from (rs : List Rw) (j : Nat) (h : j + 1 ≤ rs.length) : cutV (refsOf rs) (some ((j : Int) + 1)) none = refsOf (rs.drop (j + 1)) :=
  (cutV_from (refsOf rs) (j + 1) (by rw [List.length_map]; exact h)).trans List.map_drop.symm
theorem lits2 : ∀ y ∈ [Str.ofString "", Str.ofString "-a", Str.ofString "a-", Str.ofString "no-a", Str.ofString "no-", Str.ofString "A", Str.ofString "a b", Str.ofString "a_b", Str.ofString "abcdefghijk", Str.ofString "a."], y.length ≤ 20 ∧ ∀ c ∈ tl y, c < 256 := by decide +kernel
theorem lits3 : ∀ y ∈ [Str.ofString "--", Str.ofString "-b", Str.ofString "--b", Str.ofString "--=", Str.ofString "-bb", Str.ofString "---"], y.length ≤ 70 ∧ ∀ c ∈ tl y, c < 256 := by decide +kernel
section
variable {P : Program} {w : World} {K : PySem.W.Frag} {mg : Str → Option Value} {base : Heap}
def spSpoilt : Sp := fun vs H Q _ => ∃ (p l : Addr) (rs : List Rw), vs = [.ref p, .ref l] ∧ Pot H p ∧ l ≠ p ∧ Rws H l rs ∧ rs ≠ [] ∧ ∀ H' l' (rs' : List Rw), But p H H' → Pot H' p → l' ≠ p → Rws H' l' rs' → rs' ≠ [] → Q (.ref l') H'
theorem Pot.sm {H H' : Hp} {p : Addr} (h : Pot H p) (s : Same H H') : Pot H' p := by
  obtain ⟨a, b, e, k⟩ := h
  exact ⟨a, b, s _ _ e, k⟩
theorem ok_spoilt {f fD : Addr} {fd fdD : FuncData} {k : Nat} (F : Fun K "_law_spoilt" "_law_spoilt" st_spoilt f fd) (D_draw : Df K mg "_law_draw" sDraw ["_law_pot_here", "_law_many"] fD fdD) (m_divmod : mg "divmod" = none) (m_len : mg "len" = none) :
    FnOk P w K mg base CX0 (k + 2) f fd ["_law_pot_here", "_law_rows_here"] spSpoilt := by
  have G_draw : FnOk P w K mg base CX0 (k + 1) fD fdD ["_law_pot_here", "_law_many"] spDraw := ok_draw D_draw.F m_divmod
  refine F.ok sc_spoilt (fun vs H Q E h => ?_) (fun cdv A outer s H vs Q E hr h => ?_)
  · obtain ⟨p, l, rs, rfl, _⟩ := h
    rfl
  · obtain ⟨p, l, rs, rfl, hp, nlp, R, ner, q⟩ := h
    refine ⟨_, pss_cons (ps_set (i := 2) sc_spoilt.nd rfl (.inl rfl) (pe_call G_draw hr (by rfl) D_draw.g D_draw.F.kp D_draw.b .nil pass0 (pa_cons (pv 0) (pa_cons (pe_callB call_len_seq (by rfl) m_len PySem.boot_len (pa_cons (pv 1) pa_nil)) pa_nil))))
      (pss_cons (ps_asg (pe_ix ix_list (pv 1) (pv 2) (fun _ _ => rfl)) (pg_tup rfl (pgs_cons (pg_name (i := 3) sc_spoilt.nd rfl (Or.inl rfl)) (pgs_cons (pg_name (i := 4) sc_spoilt.nd rfl (Or.inl rfl)) (pgs_cons (pg_name (i := 5) sc_spoilt.nd rfl (Or.inl rfl)) pgs_nil)))))
      (pss_cons (ps_set (i := 6) sc_spoilt.nd rfl (.inl rfl) (pe_call G_draw hr (by rfl) D_draw.g D_draw.F.kp D_draw.b .nil pass0 (pa_cons (pv 0) (pa_cons pe_int pa_nil))))
      (pss_cons (ps_if (pt_cmpR op_eq (pv 6) pe_int (nomark _)) (pss_cons (ps_set (i := 7) sc_spoilt.nd rfl (.inl rfl) (pe_lst (pa_cons pe_str (pa_cons pe_str (pa_cons pe_str (pa_cons pe_str (pa_cons pe_str (pa_cons pe_str (pa_cons pe_str (pa_cons pe_str (pa_cons pe_str (pa_cons pe_str pa_nil))))))))))))
      (pss_one (ps_set (i := 3) sc_spoilt.nd rfl (.inl rfl) (pe_ix ix_list (pv 7) (pe_call G_draw hr (by rfl) D_draw.g D_draw.F.kp D_draw.b .nil pass0 (pa_cons (pv 0) (pa_cons pe_int pa_nil))) (fun _ _ => rfl))))) pss_nil)
      (pss_cons (ps_if (pt_cmpR op_eq (pv 6) pe_int (nomark _)) (pss_one (ps_set (i := 5) sc_spoilt.nd rfl (.inl rfl) (pe_ix ix_list (pe_lst (pa_cons pe_str (pa_cons pe_str (pa_cons pe_str (pa_cons pe_str (pa_cons pe_str (pa_cons pe_str pa_nil))))))) (pe_call G_draw hr (by rfl) D_draw.g D_draw.F.kp D_draw.b .nil pass0 (pa_cons (pv 0) (pa_cons pe_int pa_nil))) (fun _ _ => rfl)))) pss_nil)
      (pss_cons (ps_if (pt_cmpR op_eq (pv 6) pe_int (nomark _)) (pss_one (ps_set (i := 5) sc_spoilt.nd rfl (.inl rfl) (pe_op op_add_str pe_str (pv 4)))) pss_nil)
      (pss_cons (ps_if (pt_cmpR op_in_seq (pv 3) (pe_lc (own := [("_law_row", 8)]) (g := gName 8) (tt := tYes) rfl sc_spoilt.nd (pi_list (pe_op op_cat (pe_slice sl_list (pv 1) po_none (po_some (pv 2))) (pe_slice sl_list (pv 1) (po_some (pe_op op_add (pv 2) pe_int)) po_none))) (blkOk_by (N := ["_law_pot_here", "_law_rows_here", "_law_at", "_law_name_here", "_law_bad", "_law_sample", "_law_way", "_law_some", "_law_row"]) (sc := defScope st_spoilt) (by decide +kernel)) (fun _ _ _ _ _ => (pg_name (i := 8) sc_spoilt.nd rfl (Or.inl rfl))) (fun _ _ _ _ _ => pts_nil) (fun _ _ _ _ _ => (pe_ix (r := rIxT K) ix_tup (pv 8) pe_int (fun _ _ => rfl)))) (by rfl)) (pss_one (ps_ret (pv 1))) pss_nil)
      (pss_one (ps_ret (pe_op op_cat (pe_op op_cat (pe_slice sl_list (pv 1) po_none (po_some (pv 2))) (pe_lst (pa_cons (pe_tup (pa_cons (pv 3) (pa_cons (pv 4) (pa_cons (pv 5) pa_nil)))) pa_nil))) (pe_slice sl_list (pv 1) (po_some (pe_op op_add (pv 2) pe_int)) po_none)))))))))), ?_⟩
    have sl : sizeLine = 16777216 := sizeLine_eq
    have lp : 0 < rs.length := List.length_pos_iff.mpr ner
    have le := R.le
    refine ⟨.ref p, rfl, .ref l, rfl, l, _, rfl, .inl (SqL.of R.e), p, _, rfl, hp, by rw [List.length_map]; omega, by rw [List.length_map]; omega, fun H1 d b1 p1 d0 d1 => ?_⟩
    rw [List.length_map] at d1
    obtain ⟨j, rfl⟩ := Int.eq_ofNat_of_zero_le d0
    have hj : j < rs.length := by omega
    have R1 := R.pot hp nlp b1
    obtain ⟨r, er⟩ : ∃ r, rs[j]? = some r := ⟨_, List.getElem?_eq_getElem hj⟩
    have o := R1.ok r (List.mem_of_getElem? er)
    refine ⟨.ref l, rfl, .int j, rfl, l, _, j, .ref r.tp, rfl, rfl, SqL.of R1.e, atI_nat (by rw [List.getElem?_map, er]; rfl), r.tp, _, rfl, SqT.of o.tp, rfl, _, _, rfl, _, _, rfl, _, _, rfl, rfl, ?_⟩
    refine ⟨.ref p, rfl, p, 3, rfl, p1, by decide, by decide, fun H2 e b2 p2 e0 e1 => ?_⟩
    have R2 := R1.pot p1 nlp b2
    let Dn : L2.St → Hp → Prop := fun σ' H' => But p H H' ∧ Pot H' p ∧ Rws H' l rs ∧ ∃ (y z : Str) (x7 : Option V), Tq P8 20 y ∧ Tq P8 70 z ∧ σ' = [some (.ref p), some (.ref l), some (.int j), some (.str y), some (.str (sgn r.bad)), some (.str z), some (.int e), x7, none]
    dsimp only [tSeq]
    refine ts_gen (t := tIfS _ _ _) Dn (fun κ kc => ?_) ?_
    · refine ⟨.int e, rfl, rfl, _, rfl, ite2 (fun _ => ?_) (fun _ => ?_)⟩
      · refine ⟨by show 10 ≤ sizeLine; decide, fun l3 n3 => ?_⟩
        have p3 := p2.new (o := .lst ([Str.ofString "", Str.ofString "-a", Str.ofString "a-", Str.ofString "no-a", Str.ofString "no-", Str.ofString "A", Str.ofString "a b", Str.ofString "a_b", Str.ofString "abcdefghijk", Str.ofString "a."].map V.str)) n3
        have nl3 := p2.ne n3
        refine ⟨.ref l3, rfl, .ref p, rfl, p, 10, rfl, p3, by decide, by decide, fun H4 d4 b4 p4 d40 d41 => ?_⟩
        obtain ⟨y, ym, ye⟩ := at_strs [Str.ofString "", Str.ofString "-a", Str.ofString "a-", Str.ofString "no-a", Str.ofString "no-", Str.ofString "A", Str.ofString "a b", Str.ofString "a_b", Str.ofString "abcdefghijk", Str.ofString "a."] d4 d40 (by show d4 < 10; exact d41)
        refine ⟨l3, _, d4, .str y, rfl, rfl, SqL.of (b4 _ _ nl3.symm upd_same), ye, kc _ _ ⟨((b1.trans b2).trans (But.new n3)).trans b4, p4, (R2.same (same_upd n3)).pot p3 nlp b4, y, r.smp, _, ⟨(lits2 y ym).1, (lits2 y ym).2⟩, o.s, rfl⟩⟩
      · exact kc _ _ ⟨b1.trans b2, p2, R2, r.nm, r.smp, none, o.n, o.s, rfl⟩
    rintro σ3 H3 ⟨b3, p3, R3, y, z, x7, ty, tz, rfl⟩
    dsimp only [tSeq]
    refine ts_gen (t := tIfS _ _ _) Dn (fun κ kc => ?_) ?_
    · refine ⟨.int e, rfl, rfl, _, rfl, ite2 (fun _ => ?_) (fun _ => ?_)⟩
      · refine ⟨by show 6 ≤ sizeLine; decide, fun l3 n3 => ?_⟩
        have p4 := p3.new (o := .lst ([Str.ofString "--", Str.ofString "-b", Str.ofString "--b", Str.ofString "--=", Str.ofString "-bb", Str.ofString "---"].map V.str)) n3
        have nl3 := p3.ne n3
        refine ⟨.ref p, rfl, p, 6, rfl, p4, by decide, by decide, fun H5 d5 b5 p5 d50 d51 => ?_⟩
        obtain ⟨z2, zm, ze⟩ := at_strs [Str.ofString "--", Str.ofString "-b", Str.ofString "--b", Str.ofString "--=", Str.ofString "-bb", Str.ofString "---"] d5 d50 (by show d5 < 6; exact d51)
        refine ⟨l3, _, d5, .str z2, rfl, rfl, SqL.of (b5 _ _ nl3.symm upd_same), ze, kc _ _ ⟨(b3.trans (But.new n3)).trans b5, p5, (R3.same (same_upd n3)).pot p4 nlp b5, y, z2, _, ty, ⟨(lits3 z2 zm).1, (lits3 z2 zm).2⟩, rfl⟩⟩
      · exact kc _ _ ⟨b3, p3, R3, y, z, _, ty, tz, rfl⟩
    clear tz ty
    rintro σ4 H4 ⟨b4, p4, R4, y, z, x7, ty, tz, rfl⟩
    dsimp only [tSeq]
    refine ts_gen (t := tIfS _ _ _) Dn (fun κ kc => ?_) ?_
    · refine ⟨.int e, rfl, rfl, _, rfl, ite2 (fun _ => ?_) (fun _ => ?_)⟩
      · have l1 : (Str.ofString "b").length = 1 := by decide +kernel
        have l2 : (sgn r.bad).length = 1 := rfl
        refine ⟨.str (sgn r.bad), rfl, _, _, rfl, rfl, by rw [l1, l2]; omega, kc _ _ ⟨b4, p4, R4, y, _, _, ty, ?_, rfl⟩⟩
        exact Tq.mono (Tq.app (n := 1) (m := 1) ⟨by rw [l1]; decide, lit8 _ (by simp)⟩ (Tq.sign o.b)) (by decide) (fun _ h => h)
      · exact kc _ _ ⟨b4, p4, R4, y, z, _, ty, tz, rfl⟩
    clear tz ty
    rintro σ5 H5 ⟨b5, p5, R5, y, z, x7, ty, tz, rfl⟩
    have jj : ((j : Int) + 1) = ((j + 1 : Nat) : Int) := rfl
    have restN : ((rs.take j ++ rs.drop (j + 1)).map (·.nm)).Nodup := by
      refine List.Nodup.sublist (List.Sublist.map _ ?_) R.nd
      have h1 : List.Sublist (rs.drop (j + 1)) (rs.drop j) := by
        rw [List.drop_eq_getElem_cons hj]
        exact List.sublist_cons_self _ _
      have h2 := List.Sublist.append (List.Sublist.refl (rs.take j)) h1
      rw [List.take_append_drop] at h2
      exact h2
    dsimp only [tSeq]
    have cat : ∀ {Ha : Hp}, Rws Ha l rs → ∀ (Rr : VK), (∀ t1 Hb, Ha t1 = none → Same Ha Hb → Hb t1 = some (.lst (refsOf (rs.take j))) → Rr (.ref t1) Hb) → tSl (rSlL K) (tVar 1) tNoPart (tPart (tVar 2)) [some (V.ref p), some (V.ref l), some (V.int j), some (V.str y), some (V.str (sgn r.bad)), some (V.str z), some (V.int e), x7, none] Ha Rr := fun {Ha} Ra Rr c => by
      refine ⟨.ref l, rfl, .int j, rfl, j, rfl, l, _, rfl, SqL.of Ra.e, fun t1 n1 => ?_⟩
      rw [cut_to rs j (by omega)]
      exact c t1 _ n1 (same_upd n1) upd_same
    have cat2 : ∀ {Ha : Hp}, Rws Ha l rs → ∀ (Rr : VK), (∀ t1 Hb, Ha t1 = none → Same Ha Hb → Hb t1 = some (.lst (refsOf (rs.drop (j + 1)))) → Rr (.ref t1) Hb) → tSl (rSlL K) (tVar 1) (tPart (tOp (rI0 fun i j => V.int (i + j)) (tVar 2) (tC (.int 1)))) tNoPart [some (V.ref p), some (V.ref l), some (V.int j), some (V.str y), some (V.str (sgn r.bad)), some (V.str z), some (V.int e), x7, none] Ha Rr := fun {Ha} Ra Rr c => by
      refine ⟨.ref l, rfl, .int j, rfl, j, 1, rfl, rfl, _, rfl, l, _, rfl, SqL.of Ra.e, fun t1 n1 => ?_⟩
      rw [cut_from rs j (by omega)]
      exact c t1 _ n1 (same_upd n1) upd_same
    have lt1 : (rs.take j).length ≤ 12 := Nat.le_trans (List.length_take_le' _ _) le
    have lt2 : (rs.drop (j + 1)).length ≤ 12 := by
      rw [List.length_drop]
      omega
    have lt3 : (rs.take j).length + (rs.drop (j + 1)).length + 1 = rs.length := by
      rw [List.length_take, List.length_drop]
      omega
    refine ⟨.str y, rfl, ?_⟩
    refine cat R5 _ fun t1 Ha n1 sa ea => ?_
    refine cat2 (R5.same sa) _ fun t2 Hb n2 sb eb => ?_
    refine ⟨t1, t2, _, _, rfl, rfl, sb _ _ ea, eb, ?_, fun t3 n3 => ?_⟩
    · rw [List.length_map, List.length_map]
      omega
    have sc : Same Hb (upd Hb t3 (.lst (refsOf (rs.take j) ++ refsOf (rs.drop (j + 1))))) := same_upd n3
    have ec : (upd Hb t3 (.lst (refsOf (rs.take j) ++ refsOf (rs.drop (j + 1))))) t3 = some (.lst (refsOf (rs.take j ++ rs.drop (j + 1)))) := by
      rw [upd_same]
      exact congrArg (fun z => some (HO.lst z)) List.map_append.symm
    revert sc ec
    generalize upd Hb t3 (.lst (refsOf (rs.take j) ++ refsOf (rs.drop (j + 1)))) = Hc
    intro sc ec
    have S := (sa.trans sb).trans sc
    have R6 := R5.same S
    have memR : ∀ r' ∈ rs.take j ++ rs.drop (j + 1), r' ∈ rs := fun r' h => (List.mem_append.mp h).elim List.mem_of_mem_take List.mem_of_mem_drop
    refine ⟨t3, rfl, ⟨_, SqL.of ec⟩, fun D nD => lc_names ec (fun r' h => (R6.ok r' (memR r' h)).tp) (by rw [List.length_append]; omega) nD (fun _ => rfl) (fun _ => rfl) fun H7 s7 e7 => ?_⟩
    have S7 := S.trans s7
    have R7 := R6.same s7
    have p7 := p5.sm S7
    have B7 : But p H H7 := b5.trans (But.of_same S7)
    refine ⟨D, _, rfl, .inl (SqL.of e7), rfl, strs_flat _, _, rfl, ite2 (fun e => ?_) (fun e => ?_)⟩
    · exact ⟨.ref l, rfl, q _ l rs B7 p7 nlp R7 ner⟩
    · have ny : y ∉ (rs.take j ++ rs.drop (j + 1)).map (·.nm) := fun hm => e (by
        show inV (.str y) (((rs.take j ++ rs.drop (j + 1)).map (·.nm)).map V.str) = true
        rw [inV_strs]
        exact decide_eq_true hm)
      refine cat R7 _ fun u1 Hd n1 sd ed => ?_
      refine ⟨_, rfl, _, rfl, _, rfl, by show 3 ≤ sizeLine; decide, fun t nt => ?_⟩
      let nr : Rw := ⟨y, r.bad, z, t⟩
      have s8 : Same Hd (upd Hd t (tpOf nr)) := same_upd nt
      have e8 : (upd Hd t (tpOf nr)) t = some (tpOf nr) := upd_same
      revert s8 e8
      show (∀ _ _, _)
      generalize upd Hd t (tpOf nr) = He
      intro s8 e8
      refine ⟨by show 1 ≤ sizeLine; decide, fun u2 n2 => ?_⟩
      have s9 : Same He (upd He u2 (.lst [.ref t])) := same_upd n2
      have e9 : (upd He u2 (.lst [.ref t])) u2 = some (.lst [.ref t]) := upd_same
      revert s9 e9
      generalize upd He u2 (.lst [.ref t]) = Hf
      intro s9 e9
      refine ⟨u1, u2, _, _, rfl, rfl, s9 _ _ (s8 _ _ ed), e9, ?_, fun u3 n3 => ?_⟩
      · rw [List.length_map]
        show _ + 1 ≤ _
        omega
      have s10 : Same Hf (upd Hf u3 (.lst (refsOf (rs.take j) ++ [.ref t]))) := same_upd n3
      have e10 : (upd Hf u3 (.lst (refsOf (rs.take j) ++ [.ref t]))) u3 = some (.lst (refsOf (rs.take j) ++ [.ref t])) := upd_same
      revert s10 e10
      generalize upd Hf u3 (.lst (refsOf (rs.take j) ++ [.ref t])) = Hg
      intro s10 e10
      have S10 := ((sd.trans s8).trans s9).trans s10
      refine cat2 (R7.same S10) _ fun u4 Hh n4 s11 e11 => ?_
      refine ⟨u3, u4, _, _, rfl, rfl, s11 _ _ e10, e11, ?_, fun u5 n5 => ?_⟩
      · rw [List.length_append, List.length_map, List.length_map]
        show _ + 1 + _ ≤ _
        omega
      have s12 : Same Hh (upd Hh u5 (.lst (refsOf (rs.take j) ++ [.ref t] ++ refsOf (rs.drop (j + 1))))) := same_upd n5
      have e12 : (upd Hh u5 (.lst (refsOf (rs.take j) ++ [.ref t] ++ refsOf (rs.drop (j + 1))))) u5 = some (.lst (refsOf (rs.take j ++ [nr] ++ rs.drop (j + 1)))) := by
        rw [upd_same]
        refine congrArg (fun z => some (HO.lst z)) ?_
        show _ = List.map _ _
        rw [List.map_append, List.map_append]
        rfl
      revert s12 e12
      generalize upd Hh u5 (.lst (refsOf (rs.take j) ++ [.ref t] ++ refsOf (rs.drop (j + 1)))) = Hi
      intro s12 e12
      have S12 := (S10.trans s11).trans s12
      have p12 := p7.sm S12
      have n5p : u5 ≠ p := ((p7.sm (S10.trans s11)).ne n5).symm
      refine q _ u5 _ (B7.trans (But.of_same S12)) p12 n5p ⟨e12, fun r' hr' => ?_, ?_, ?_⟩ (by simp)
      · rcases List.mem_append.mp hr' with h | h
        · rcases List.mem_append.mp h with h | h
          · exact (R7.ok r' (List.mem_of_mem_take h)).same S12
          · rw [List.mem_singleton.mp h]
            exact RwOk.same (H := He) ⟨e8, ty, tz, o.b⟩ (((s9.trans s10).trans s11).trans s12)
        · exact (R7.ok r' (List.mem_of_mem_drop h)).same S12
      · rw [List.map_append] at restN ny
        rw [List.map_append, List.map_append]
        show ((rs.take j).map (·.nm) ++ [y] ++ (rs.drop (j + 1)).map (·.nm)).Nodup
        have perm : ((rs.take j).map (·.nm) ++ [y] ++ (rs.drop (j + 1)).map (·.nm)).Perm (y :: ((rs.take j).map (·.nm) ++ (rs.drop (j + 1)).map (·.nm))) := by
          rw [List.append_assoc]
          exact List.perm_middle
        exact perm.nodup_iff.mpr (List.nodup_cons.mpr ⟨ny, restN⟩)
      · rw [List.length_append, List.length_append]
        show _ + 1 + _ ≤ 12
        omega
end
end WB

set_option Elab.async false
set_option linter.all false
set_option maxRecDepth 100000
set_option maxHeartbeats 4000000
namespace WB
open PySem PySem.Spec PyProof.Rows L2 WG
open NdefX (TabN)
open LamX (TabB ExtN)
open TL (tl)
abbrev st_right : Stmt := topS 38
theorem sc_right : FnScope ["_law_rows_here", "_law_table", "_law_name_here", "_law_bad", "_law_sample", "_law_kept", "_law_told_here", "_law_first_here", "_law_row"] ["_law_rows_here"] (defScope st_right) := ⟨rfl, rfl, rfl, by decide +kernel, rfl, by decide +kernel, by decide +kernel⟩
/-! ### one way to be sorted -/
def leS (a b : Str) : Prop := ¬ b.cps.toList < a.cps.toList
theorem leS_anti {a b : Str} (h : leS a b) (k : leS b a) : a = b := by
  have e : a.cps.toList = b.cps.toList := List.le_antisymm (List.not_lt.mp h) (List.not_lt.mp k)
  cases a; cases b
  exact congrArg Str.mk (Array.toList_inj.mp e)
theorem leS_trans {a b c : Str} (h : leS a b) (k : leS b c) : leS a c := List.not_lt.mpr (List.le_trans (List.not_lt.mp h) (List.not_lt.mp k))
theorem rising_all : ∀ (l : List Str) (p : Str), risingS p l = true → (∀ x ∈ l, leS p x) ∧ l.Pairwise leS
  | [], p, _ => ⟨fun x hx => (by cases hx), .nil⟩
  | y :: r, p, h => by
    have h' : (!ltCps y.cps.toList p.cps.toList && risingS y r) = true := h
    obtain ⟨h1, h2⟩ := Bool.and_eq_true_iff.mp h'
    have py : leS p y := by
      rw [ltCps_eq] at h1
      intro c
      rw [decide_eq_true c] at h1
      cases h1
    obtain ⟨k1, k2⟩ := rising_all r y h2
    refine ⟨fun x hx => ?_, .cons k1 k2⟩
    rcases List.mem_cons.mp hx with e | e
    · rw [e]
      exact py
    · exact leS_trans py (k1 x e)
theorem sorted_pw {l : List Str} (h : sortedS l = true) : l.Pairwise leS := by
  cases l with
  | nil => exact .nil
  | cons x r =>
    obtain ⟨k1, k2⟩ := rising_all r x h
    exact .cons k1 k2
theorem pw_eq : ∀ {l m : List Str}, l.Perm m → l.Pairwise leS → m.Pairwise leS → l = m
  | [], m, h, _, _ => by rw [List.nil_perm.mp h]
  | a :: r, [], h, _, _ => by cases List.perm_nil.mp h
  | a :: r, b :: t, h, k1, k2 => by
    obtain ⟨a1, a2⟩ := List.pairwise_cons.mp k1
    obtain ⟨b1, b2⟩ := List.pairwise_cons.mp k2
    have e : a = b := by
      rcases List.mem_cons.mp (h.mem_iff.mp List.mem_cons_self : a ∈ b :: t) with e | e
      · exact e
      · rcases List.mem_cons.mp (h.mem_iff.mpr List.mem_cons_self : b ∈ a :: r) with e2 | e2
        · exact e2.symm
        · exact leS_anti (a1 b e2) (b1 a e)
    subst e
    rw [pw_eq (List.perm_cons a |>.mp h) a2 b2]
theorem sorted_one {l m : List Str} (h : l.Perm m) (k1 : sortedS l = true) (k2 : sortedS m = true) : l = m := pw_eq h (sorted_pw k1) (sorted_pw k2)
/-! ### two lists of pairs that are the same -/
def rNeP (K : PySem.W.Frag) : R2 := fun x y H Q => ∃ (a b : Addr) (ts us : List Addr), x = .ref a ∧ y = .ref b ∧ SqL K H a (ts.map V.ref) ∧ SqL K H b (us.map V.ref) ∧ ts.length = us.length ∧
  (∀ (j : Nat) (t u : Addr), ts[j]? = some t → us[j]? = some u → ∃ (z : Str) (g : Addr), H t = some (.tup [.str z, .ref g]) ∧ H u = some (.tup [.str z, .ref g])) ∧ Q (.bl false) H
theorem vals_ref {ts : List Addr} {us : List Value} (r : Vals (ts.map V.ref) us) : us = ts.map Value.ref := by
  induction ts generalizing us with
  | nil => cases r; rfl
  | cons t l ih =>
    cases r with
    | cons a b =>
      cases (show _ = Value.ref t from a)
      rw [ih b]
      rfl
theorem pair_eq {X : Cx} {pins : List (Addr × Obj)} {σ : L2.St} {H : Hp} {s : Shared} (I : Inv X pins σ H s) {A : Around} (hu : A.units + 1 < cLine) {t u g : Addr} {z : Str} (et : H t = some (.tup [.str z, .ref g])) (eu : H u = some (.tup [.str z, .ref g])) : SeqAt.EqAt A s (.ref t) (.ref u) true := by
  by_cases e : t = u
  · subst e
    exact SeqAt.EqAt.same _
  · obtain ⟨i1, r1, p1, _⟩ := I.tuple (SqT.of (K := X.K) et)
    obtain ⟨i2, r2, p2, _⟩ := I.tuple (SqT.of (K := X.K) eu)
    cases r1 with
    | cons a1 b1 =>
      cases b1 with
      | cons a2 b2 =>
        cases b2
        obtain ⟨k1, rfl⟩ := a1
        cases (show _ = Value.ref g from a2)
        cases r2 with
        | cons c1 d1 =>
          cases d1 with
          | cons c2 d2 =>
            cases d2
            obtain ⟨k2, rfl⟩ := c1
            cases (show _ = Value.ref g from c2)
            have h := SeqAt.RcAt.tuples (A := A) (e := fun _ => true) p1 p2 (by omega) (fun j h1 h2 => by
              have hj : j = 0 ∨ j = 1 := by
                have : j < 2 := h1
                omega
              rcases hj with rfl | rfl
              · have q := SeqAt.EqAt.str_str (A := A.in1) (s := s) z k1 z k2
                rw [beq_self_eq_true] at q
                exact q
              · exact SeqAt.EqAt.same _)
            exact SeqAt.EqAt.of_refs e h
theorem op_neP {X : Cx} (hu : X.A.units + 64 < cLine) : OpR X (compareOp .NotEq) (rNeP X.K) := by
  intro pins s σ H x y v u Q I rx ry h
  obtain ⟨a, b, ts, us, rfl, rfl, ha, hb, hl, hp, q⟩ := h
  cases (show v = Value.ref a from rx)
  cases (show u = Value.ref b from ry)
  obtain ⟨i1, r1, p1, _⟩ := I.list ha
  obtain ⟨i2, r2, p2, _⟩ := I.list hb
  have e1 := vals_ref r1
  have e2 := vals_ref r2
  subst e1 e2
  have hsz : (ts.map Value.ref).toArray.size = (us.map Value.ref).toArray.size := by simp [hl]
  have k := SeqAt.RcNeAt.lists (A := X.A) (e := fun _ => true) p1.isList p2.isList hsz (by omega) (fun j h1 h2 => by
    have j1 : j < ts.length := by simpa using h1
    have j2 : j < us.length := by simpa using h2
    obtain ⟨z, g, et, eu⟩ := hp j ts[j] us[j] (List.getElem?_eq_getElem j1) (List.getElem?_eq_getElem j2)
    have w := pair_eq I (A := X.A.in1) (by show X.A.units + 1 + 1 < cLine; omega) et eu
    simpa using w)
  refine k _ _ _ _ ?_
  rw [show (!(List.range (ts.map Value.ref).toArray.size).all fun _ => true) = false from by
    rw [show ((List.range (ts.map Value.ref).toArray.size).all fun _ => true) = true from List.all_eq_true.mpr fun _ _ => rfl]
    rfl]
  exact ⟨.bl false, H, I, rfl, q⟩
/-! ### heaps -/
theorem MkA.ext {H H' : Hp} {g d : Addr} {c n : Nat} (h : MkA H g d c n) (s : ExtN H H') : MkA H' g d c n := by
  obtain ⟨F, c1, c2, kvs, h1, h2, h3, h4, h5, e1, e2, e3, e4, e5, l⟩ := h
  exact ⟨F, c1, c2, kvs, h1, h2, h3, h4, h5, s _ _ e1 (fun _ z => by cases z), s _ _ e2 (fun _ z => by cases z), s _ _ e3 (fun _ z => by cases z), s _ _ e4 (fun _ z => by cases z), s _ _ e5 (fun _ z => by cases z), l⟩
theorem MkA.upd {H : Hp} {g d t : Addr} {c n : Nat} {kvs : List (Key × V)} {o : HO} (h : MkA H g d c n) (et : H t = some (.dK kvs)) (nd : d ≠ t) : MkA (L2.upd H t o) g d c n := by
  obtain ⟨F, c1, c2, kvs, h1, h2, h3, h4, h5, e1, e2, e3, e4, e5, l⟩ := h
  have ap : ∀ {x : Addr} {φ : Heap → Prop}, H x = some (.ext φ) → x ≠ t := fun {x φ} z y => by
    rw [y, et] at z
    cases z
  have k : ∀ {x : Addr} {φ : Heap → Prop}, H x = some (.ext φ) → L2.upd H t o x = some (.ext φ) := fun {x φ} z => by
    rw [upd_ne (ap z)]
    exact z
  exact ⟨F, c1, c2, kvs, h1, h2, h3, h4, h5, k e1, k e2, k e3, k e4, by rw [upd_ne nd]; exact e5, l⟩
theorem EntOk.ext {H H' : Hp} {n : Nat} {e : Ent} (h : EntOk H n e) (s : ExtN H H') : EntOk H' n e := ⟨s _ _ h.tp (fun _ z => by cases z), h.ma.ext s, h.nl, h.sl⟩
theorem EntOk.upd {H : Hp} {n : Nat} {e : Ent} {t : Addr} {kvs : List (Key × V)} {o : HO} (h : EntOk H n e) (et : H t = some (.dK kvs)) (nd : e.dc ≠ t) : EntOk (L2.upd H t o) n e := ⟨by
  rw [upd_ne (fun z => by have := h.tp; rw [z, et] at this; cases this)]
  exact h.tp, h.ma.upd et nd, h.nl, h.sl⟩
theorem Rws.ext {H H' : Hp} {l : Addr} {rs : List Rw} (h : Rws H l rs) (s : ExtN H H') : Rws H' l rs := ⟨s _ _ h.e (fun _ z => by cases z), fun r hr => ⟨s _ _ (h.ok r hr).tp (fun _ z => by cases z), (h.ok r hr).n, (h.ok r hr).s, (h.ok r hr).b⟩, h.nd, h.le⟩
theorem ext_grow {S : List Addr} {m : Nat} {H H1 H2 : Hp} (e : ExtN H H1) (g : Grow S m H1 H2) (f : ∀ b ∈ S, ∀ o, H b = some o → ∃ ps, o = .tbl ps) : ExtN H H2 := fun b o h n => g.keep b o (e b o h n) (.inl fun hb => by
  obtain ⟨ps, z⟩ := f b hb o h
  exact n ps z)
/-! ### rows and entries -/
abbrev Ky : Type := Str × Nat × Str
def okK (k : Ky) : Bool := nm (tl k.1) && (plainW (tl k.2.2) && !decide (k.2.1 ∈ tl k.2.2))
def kyE (e : Ent) : Ky := (e.nmE, e.bad, e.smp)
def kyR (r : Rw) : Ky := (r.nm, r.bad, r.smp)
theorem okE_ky (e : Ent) : okE e = okK (kyE e) := rfl
theorem okR_ky (r : Rw) : okR r = okK (kyR r) := rfl
theorem find_map {α : Type} (f : α → Ky) : ∀ l : List α, (l.map f).find? (fun k => !okK k) = (l.find? fun x => !okK (f x)).map f
  | [] => rfl
  | a :: r => by
    rw [List.map_cons, List.find?_cons, List.find?_cons, find_map f r]
    cases (!okK (f a)) <;> rfl
theorem made_shaped (ys : List Str) (h : ∀ y ∈ ys, PyData.strOk y = true) : SeqAt.shaped (.tuple [.str (Str.ofString "made"), .list (ys.map PyData.str)]) = true := by
  obtain ⟨h1, h2⟩ := lay_strs ys h
  have h3 : PyData.strOk (Str.ofString "made") = true := by decide +kernel
  unfold SeqAt.shaped
  simp [PyData.canLay0, PyData.canLayAll0, PyData.depth, PyData.depthAll, h1, h2, h3]
theorem made_eqv (ys : List Str) : PyData.eqv (.tuple [.str (Str.ofString "made"), .list (ys.map PyData.str)]) (.tuple [.str (Str.ofString "made"), .list (ys.map PyData.str)]) = true := by
  have e := eqv_strs ys ys
  rw [decide_eq_true rfl] at e
  simp only [PyData.eqv, PyData.eqvAll, Bool.and_true] at e ⊢
  simp [e]
theorem put_new {es : List Ent} {e : Ent} (h : e.nmE ∉ es.map (·.nmE)) : putK (kvsOf es) (Sum.inr e.nmE) (V.ref e.tp) = kvsOf (es ++ [e]) := by
  unfold putK
  rw [if_neg]
  · unfold kvsOf
    rw [List.map_append]
    rfl
  · intro z
    obtain ⟨kv, hk, hz⟩ := List.any_eq_true.mp z
    obtain ⟨e', he', rfl⟩ := List.mem_map.mp hk
    have := of_decide_eq_true hz
    exact h (List.mem_map.mpr ⟨e', he', Sum.inr.inj this⟩)
section
variable {P : Program} {w : World} {K : PySem.W.Frag} {mg : Str → Option Value} {base : Heap}
def spRight (T : Addr) : Sp := fun vs H Q _ => ∃ (l : Addr) (rs : List Rw), vs = [.ref l] ∧ Rws H l rs ∧ TabN H T nmT ∧ ∀ H', ExtN H H' → TabN H' T nmT → Q (.bl true) H'
theorem ok_right {T f fOw fT fF fW fN : Addr} {fd fdOw fdT fdF fdW fdN : FuncData} {k : Nat} (F : Fun K "_law_right" "_law_right" st_right f fd)
    (G_own : FnOk P w K mg base CX0 (k + 8) fOw fdOw ["_law_kept", "_law_bad"] (spOwn T)) (g_own : mg "_law_own" = some (.ref fOw)) (kp_own : PySem.W.keepIn K (.ref fOw) = true) (b_own : Binds K fdOw ["_law_kept", "_law_bad"] [])
    (D_told : Df K mg "_law_told" st_told ["_law_table"] fT fdT) (G_told : FnOk P w K mg base CX0 (k + 8) fT fdT ["_law_table"] spTold) (D_who : Df K mg "_law_who" st_who ["_law_table"] fW fdW) (G_who : FnOk P w K mg base CX0 (k + 8) fW fdW ["_law_table"] spWho)
    (D_first : Df K mg "_law_first" st_first ["_law_rows_here"] fF fdF) (D_w_is_name : Df K mg "_law_is_name" st_w_is_name ["_law_text"] fN fdN) (m_len : mg "len" = none) (m_list : mg "list" = none) (m_sorted : mg "sorted" = none) :
    FnOk P w K mg base CX0 (k + 9) f fd ["_law_rows_here"] (spRight T) := by
  have G_first : FnOk P w K mg base CX0 (k + 8) fF fdF ["_law_rows_here"] spFirst := ok_first D_first.F D_w_is_name m_len
  refine F.ok sc_right (fun vs H Q E h => ?_) (fun cdv A outer s H vs Q E hr h => ?_)
  · obtain ⟨l, rs, rfl, _⟩ := h
    rfl
  · obtain ⟨l, rs, rfl, R, tab, q⟩ := h
    refine ⟨_, pss_cons (ps_set (i := 1) sc_right.nd rfl (.inl rfl) pe_dnewK)
      (pss_cons (ps_for PassesOwn.never rfl (pi_list (pv 0)) (pg_tup rfl (pgs_cons (pg_name (i := 2) sc_right.nd rfl (Or.inl rfl)) (pgs_cons (pg_name (i := 3) sc_right.nd rfl (Or.inl rfl)) (pgs_cons (pg_name (i := 4) sc_right.nd rfl (Or.inl rfl)) pgs_nil)))) (pss_one (ps_asg (pe_tup (pa_cons (pe_call G_own hr (by rfl) g_own kp_own b_own .nil pass0 (pa_cons pe_dnewK (pa_cons (pv 3) pa_nil))) (pa_cons (pv 4) pa_nil))) (pg_sub (pv 1) (pv 2) (set_dict (Nat.lt_of_le_of_lt (Nat.add_le_add_left (by decide) _) hr.units))))))
      (pss_cons (ps_set (i := 5) sc_right.nd rfl (.inl rfl) (LiI.pe_listItems rfl (pv 1) (by rfl) m_list (by decide +kernel)))
      (pss_cons (ps_set (i := 6) sc_right.nd rfl (.inl rfl) (pe_call G_told hr (by rfl) D_told.g D_told.F.kp D_told.b .nil pass0 (pa_cons (pv 1) pa_nil)))
      (pss_cons (ps_if (pt_cmpR (op_neP hr.units) (LiI.pe_listItems rfl (pv 1) (by rfl) m_list (by decide +kernel)) (pv 5) (nomark _)) (pss_one (ps_ret pe_bl)) pss_nil)
      (pss_cons (ps_set (i := 7) sc_right.nd rfl (.inl rfl) (pe_call G_first hr (by rfl) D_first.g D_first.F.kp D_first.b .nil pass0 (pa_cons (pv 0) pa_nil)))
      (pss_cons (ps_if (pt_cmpR op_isN (pv 7) pe_non (nomark _)) (pss_one (ps_ret (pe_cmpR (op_eqD hr.units) (pv 6) (pe_tup (pa_cons pe_str (pa_cons (pe_callB cr_sortedS (by rfl) m_sorted (by decide +kernel) (pa_cons (pe_lc (own := [("_law_row", 8)]) (g := gName 8) (tt := tYes) rfl sc_right.nd (pi_list (pv 0)) (blkOk_by (N := ["_law_rows_here", "_law_table", "_law_name_here", "_law_bad", "_law_sample", "_law_kept", "_law_told_here", "_law_first_here", "_law_row"]) (sc := defScope st_right) (by decide +kernel)) (fun _ _ _ _ _ => (pg_name (i := 8) sc_right.nd rfl (Or.inl rfl))) (fun _ _ _ _ _ => pts_nil) (fun _ _ _ _ _ => (pe_ix (r := rIxT K) ix_tup (pv 8) pe_int (fun _ _ => rfl)))) pa_nil)) pa_nil))) (nomark _)))) pss_nil)
      (pss_one (ps_ret (pe_and (pe_cmpR (op_eqD hr.units) (pv 6) (pe_tup (pa_cons pe_str (pa_cons pe_bl (pa_cons pe_bl (pa_cons pe_bl pa_nil))))) (nomark _)) (pe_one (pe_cmpR op_eq (pe_call G_who hr (by rfl) D_who.g D_who.F.kp D_who.b .nil pass0 (pa_cons (pv 1) pa_nil)) (pv 7) (nomark _)))))))))))), ?_⟩
    have sl : sizeLine = 16777216 := sizeLine_eq
    have le := R.le
    intro t nt
    have x0 : ExtN H (upd H t (.dK [])) := ExtN.of (same_upd nt)
    have e0 : (upd H t (.dK [])) t = some (.dK (kvsOf [])) := upd_same
    have tab0 : TabN (upd H t (.dK [])) T nmT := tab.ext (same_upd nt)
    revert x0 e0 tab0
    generalize upd H t (.dK []) = H0
    intro x0 e0 tab0
    refine ⟨.ref l, rfl, l, rfl, ⟨_, SqL.of (R.ext x0).e⟩, for_list (K := K) (a := l) (xs := refsOf rs) (fun i σ H' => ExtN H H' ∧ TabN H' T nmT ∧ ∃ (es : List Ent) (x2 x3 x4 : Option V), σ = [some (.ref l), some (.ref t), x2, x3, x4, none, none, none, none] ∧ es.map kyE = (rs.take i).map kyR ∧ H' t = some (.dK (kvsOf es)) ∧ (∀ e ∈ es, EntOk H' 0 e) ∧ (∀ e ∈ es, e.dc ≠ t) ∧ ∀ e ∈ es, ∀ o, H e.dc = some o → ∃ ps, o = .tbl ps)
      ⟨x0, tab0, [], none, none, none, rfl, rfl, e0, (fun _ h => by cases h), (fun _ h => by cases h), (fun _ h => by cases h)⟩ (fun i σ H' _ h => SqL.of (R.ext h.1).e) ?_ ?_⟩
    · rintro i x σ H1 hx ⟨x1, tab1, es, y2, y3, y4, rfl, ek, et1, ok1, nd1, fr1⟩
      rw [List.getElem?_map] at hx
      obtain ⟨r, er, rfl⟩ := Option.map_eq_some_iff.mp hx
      have hil : i < rs.length := (List.getElem?_eq_some_iff.mp er).1
      have R1 := R.ext x1
      have o := R1.ok r (List.mem_of_getElem? er)
      have les : es.length ≤ 12 := by
        have := congrArg List.length ek
        rw [List.length_map, List.length_map, List.length_take] at this
        omega
      have enm : es.map (·.nmE) = (rs.take i).map (·.nm) := by
        have := congrArg (List.map Prod.fst) ek
        rw [List.map_map, List.map_map] at this
        exact this
      refine ⟨r.tp, _, rfl, SqT.of o.tp, rfl, _, _, rfl, _, _, rfl, _, _, rfl, rfl, fun d nd => ?_⟩
      have s2 : Same H1 (upd H1 d (.dK [])) := same_upd nd
      have ed : (upd H1 d (.dK [])) d = some (.dK []) := upd_same
      have ndt : d ≠ t := fun z => by
        rw [z, et1] at nd
        cases nd
      revert s2 ed
      generalize upd H1 d (.dK []) = H2
      intro s2 ed
      refine ⟨_, rfl, d, r.bad, rfl, ed, tab1.ext s2, fun H3 g x3 tab3 ng mk => ?_⟩
      refine ⟨_, rfl, by show 2 ≤ sizeLine; decide, fun tp ntp => ?_⟩
      have s4 : Same H3 (upd H3 tp (.tup [.ref g, .str r.smp])) := same_upd ntp
      have e4 : (upd H3 tp (.tup [.ref g, .str r.smp])) tp = some (.tup [.ref g, .str r.smp]) := upd_same
      revert s4 e4
      generalize upd H3 tp (.tup [.ref g, .str r.smp]) = H4
      intro s4 e4
      have x14 : ExtN H1 H4 := ((ExtN.of s2).trans x3).trans (ExtN.of s4)
      have et4 : H4 t = some (.dK (kvsOf es)) := x14 _ _ et1 (fun _ z => by cases z)
      let ne : Ent := ⟨r.nm, r.bad, r.smp, tp, g, d⟩
      have nw : ne.nmE ∉ es.map (·.nmE) := by
        rw [enm]
        intro hm
        have hnd := R.nd
        obtain ⟨r', hr', hz⟩ := List.mem_map.mp hm
        obtain ⟨j, hj, ej⟩ := List.getElem_of_mem hr'
        rw [List.length_take] at hj
        rw [List.getElem_take] at ej
        have hji : j < i := by omega
        have h1 : (rs.map (·.nm))[j]? = some r.nm := by
          rw [List.getElem?_map, List.getElem?_eq_getElem (by omega), ej]
          exact congrArg some hz
        have h2 : (rs.map (·.nm))[i]? = some r.nm := by
          rw [List.getElem?_map, er]
          rfl
        have := nodup_ix hnd h1 h2
        omega
      have o4 : EntOk H4 0 ne := ⟨e4, mk.ext (ExtN.of s4), Nat.le_trans o.n.le (by show 20 ≤ 100; decide), Nat.le_trans o.s.le (by show 70 ≤ 100; decide)⟩
      refine ⟨.ref t, rfl, .str r.nm, rfl, t, _, rfl, DPut.k (k := Sum.inr r.nm) et4 ?_, ?_⟩
      · unfold kvsOf
        rw [List.length_map]
        omega
      rw [show putK (kvsOf es) (Sum.inr r.nm) (V.ref tp) = kvsOf (es ++ [ne]) from put_new (e := ne) nw]
      have ntT : t ≠ T := fun z => by
        obtain ⟨ps, hT, _⟩ := tab
        rw [← z, nt] at hT
        cases hT
      refine ⟨fun b u eb nb => ?_, ?_, es ++ [ne], _, _, _, rfl, ?_, upd_same, fun e he => ?_, fun e he => ?_, fun e he => ?_⟩
      · rw [upd_ne (ne_of_none eb nt)]
        exact x14 _ _ (x1 _ _ eb nb) nb
      · have tab4 := tab3.ext s4
        obtain ⟨ps, h1, h2, h3⟩ := tab4
        refine ⟨ps, by rw [upd_ne ntT.symm]; exact h1, h2, fun pos cv hc => ?_⟩
        obtain ⟨c, e1, e2⟩ := h3 pos cv hc
        exact ⟨c, e1, by rw [upd_ne (fun z => by rw [z, et4] at e2; cases e2)]; exact e2⟩
      · rw [List.map_append, ek, List.take_add_one, er, List.map_append]
        rfl
      · rcases List.mem_append.mp he with h | h
        · exact ((ok1 e h).ext x14).upd et4 (nd1 e h)
        · rw [List.mem_singleton.mp h]
          exact o4.upd et4 ndt
      · rcases List.mem_append.mp he with h | h
        · exact nd1 e h
        · rw [List.mem_singleton.mp h]
          exact ndt
      · rcases List.mem_append.mp he with h | h
        · exact fr1 e h
        · rw [List.mem_singleton.mp h]
          intro u hd
          by_cases hb : ∃ ps, u = .tbl ps
          · exact hb
          · have := x1 d u hd (fun ps z => hb ⟨ps, z⟩)
            rw [this] at nd
            cases nd
    · rintro σ H1 ⟨x1, tab1, es, y2, y3, y4, rfl, ek, et1, ok1, nd1, fr1⟩
      rw [show (refsOf rs).length = rs.length from by rw [List.length_map], List.take_length] at ek
      have les : es.length ≤ 12 := by
        have := congrArg List.length ek
        rw [List.length_map, List.length_map] at this
        omega
      have enm : es.map (·.nmE) = rs.map (·.nm) := by
        have := congrArg (List.map Prod.fst) ek
        rw [List.map_map, List.map_map] at this
        exact this
      have tnS : t ∉ dcs es := fun h => by
        obtain ⟨e, he, z⟩ := List.mem_map.mp h
        exact nd1 e he z
      have frS : ∀ b ∈ dcs es, ∀ o, H b = some o → ∃ ps, o = .tbl ps := fun b hb o ho => by
        obtain ⟨e, he, z⟩ := List.mem_map.mp hb
        exact fr1 e he o (by rw [z]; exact ho)
      have kR : (rs.find? fun r => !okR r).map kyR = (es.find? fun e => !okE e).map kyE := by
        have h1 := find_map kyR rs
        have h2 := find_map kyE es
        rw [ek] at h2
        exact h1.symm.trans h2
      have hstr : ∀ y ∈ rs.map (·.nm), PyData.strOk y = true := fun y hy => by
        obtain ⟨r, hr', rfl⟩ := List.mem_map.mp hy
        exact strOk_of (R.ok r hr').n.pl
      refine ⟨.ref t, rfl, t, _, rfl, et1, fun H2 p2 ts2 s2 np2 nts2 npts2 ep2 pr2 => ?_⟩
      have x2 : ExtN H H2 := x1.trans (ExtN.of s2)
      refine ⟨.ref t, rfl, t, es, 0, rfl, s2 _ _ et1, fun e h => (ok1 e h).grow (S := dcs es) (m := 0) (Grow.of_same s2 0), by omega, fun hall H3 p l3 ys g3 np ep el hperm hsort => ?_, fun e hfe H3 p g3 np ep => ?_⟩
      · have noE : (es.find? fun e => !okE e) = none := List.find?_eq_none.mpr fun e he => by
          rw [hall e he]
          decide
        rw [noE] at kR
        have x3 : ExtN H H3 := ext_grow x2 g3 frS
        have et3 : H3 t = some (.dK (kvsOf es)) := g3.keep t _ (s2 _ _ et1) (.inl tnS)
        have tab3 : TabN H3 T nmT := TabN.grow (tab1.ext s2) g3
        refine ⟨.ref t, rfl, t, _, rfl, et3, fun H4 p4 ts4 s4 np4 nts4 npts4 ep4 pr4 => ?_⟩
        refine ⟨.ref p2, rfl, p4, p2, ts4, ts2, rfl, rfl, SqL.of ep4, SqL.of (s4 _ _ (g3.keep _ _ ep2 (.inr fun _ z => by cases z))), ?_, ?_, _, rfl, ?_⟩
        · exact (Paired.length pr4).trans (Paired.length pr2).symm
        · intro j a b ha hb
          obtain ⟨q1, h1, h2⟩ := LiI.paired_get pr4 ha
          obtain ⟨q2, h3, h4⟩ := LiI.paired_get pr2 hb
          have hq : q1 = q2 := Option.some.inj (h1.symm.trans h3)
          subst hq
          obtain ⟨e', he', rfl⟩ := List.mem_map.mp (List.mem_of_getElem? h1)
          exact ⟨e'.nmE, e'.tp, h2, s4 _ _ (g3.keep _ _ h4 (.inr fun _ z => by cases z))⟩
        have x4 : ExtN H H4 := x3.trans (ExtN.of s4)
        have tab4 : TabN H4 T nmT := tab3.ext s4
        have ep4' := s4 _ _ ep
        have el4 := s4 _ _ el
        refine ⟨.ref l, rfl, l, rs, rfl, R.ext x4, fun _ H5 s5 => ?_, fun r hr' => by rw [hr'] at kR; cases kR⟩
        refine ⟨.non, rfl, rfl, _, rfl, ?_⟩
        rw [decide_eq_true rfl]
        have R5 := (R.ext x4).same s5
        refine ⟨.ref p, rfl, .ref l, rfl, l, rfl, ⟨_, SqL.of R5.e⟩, fun D nD => lc_names R5.e (fun r h => (R5.ok r h).tp) (Nat.le_trans R5.le (by decide)) nD (fun _ => rfl) (fun _ => rfl) fun H6 s6 e6 => ?_⟩
        refine ⟨D, rs.map (·.nm), rfl, SqL.of e6, by rw [List.length_map]; omega, fun zs q7 hp7 hs7 nq7 => ?_⟩
        have ez : zs = ys := sorted_one (hp7.trans (by rw [← enm]; exact hperm.symm)) hs7 hsort
        subst ez
        have s7 : Same H6 (upd H6 q7 (.lst (zs.map V.str))) := same_upd nq7
        have e7 : (upd H6 q7 (.lst (zs.map V.str))) q7 = some (.lst (zs.map V.str)) := upd_same
        revert s7 e7
        generalize upd H6 q7 (.lst (zs.map V.str)) = H7
        intro s7 e7
        refine ⟨by show 2 ≤ sizeLine; decide, fun p8 np8 => ?_⟩
        have s8 : Same H7 (upd H7 p8 (.tup [.str (Str.ofString "made"), .ref q7])) := same_upd np8
        have S := ((s5.trans s6).trans s7).trans s8
        have sh := made_shaped zs (fun y hy => hstr y (hp7.mem_iff.mp hy))
        refine ⟨_, _, .tup (SqT.of (S _ _ ep4')) (.cons (.str _) (.cons (.lst (SqL.of (S _ _ el4)) (dp_strs _)) .nil)), .tup (SqT.of upd_same) (.cons (.str _) (.cons (.lst (SqL.of (s8 _ _ e7)) (dp_strs _)) .nil)), sh, sh, ?_⟩
        rw [made_eqv]
        exact q _ (x4.trans (ExtN.of S)) (tab4.ext S)
      · rw [hfe] at kR
        have x3 : ExtN H H3 := ext_grow x2 g3 frS
        have et3 : H3 t = some (.dK (kvsOf es)) := g3.keep t _ (s2 _ _ et1) (.inl tnS)
        have tab3 : TabN H3 T nmT := TabN.grow (tab1.ext s2) g3
        refine ⟨.ref t, rfl, t, _, rfl, et3, fun H4 p4 ts4 s4 np4 nts4 npts4 ep4 pr4 => ?_⟩
        refine ⟨.ref p2, rfl, p4, p2, ts4, ts2, rfl, rfl, SqL.of ep4, SqL.of (s4 _ _ (g3.keep _ _ ep2 (.inr fun _ z => by cases z))), ?_, ?_, _, rfl, ?_⟩
        · exact (Paired.length pr4).trans (Paired.length pr2).symm
        · intro j a b ha hb
          obtain ⟨q1, h1, h2⟩ := LiI.paired_get pr4 ha
          obtain ⟨q2, h3, h4⟩ := LiI.paired_get pr2 hb
          have hq : q1 = q2 := Option.some.inj (h1.symm.trans h3)
          subst hq
          obtain ⟨e', he', rfl⟩ := List.mem_map.mp (List.mem_of_getElem? h1)
          exact ⟨e'.nmE, e'.tp, h2, s4 _ _ (g3.keep _ _ h4 (.inr fun _ z => by cases z))⟩
        have x4 : ExtN H H4 := x3.trans (ExtN.of s4)
        have tab4 : TabN H4 T nmT := tab3.ext s4
        have ep4' := s4 _ _ ep
        obtain ⟨r, hr', hky⟩ : ∃ r, (rs.find? fun r => !okR r) = some r ∧ kyR r = kyE e := by
          cases h : (rs.find? fun r => !okR r) with
          | none => rw [h] at kR; cases kR
          | some r => rw [h] at kR; exact ⟨r, rfl, Option.some.inj kR⟩
        have hnm : r.nm = e.nmE := (Prod.mk.inj hky).1
        refine ⟨.ref l, rfl, l, rs, rfl, R.ext x4, fun hal => ?_, fun r' hr2 H5 s5 => ?_⟩
        · exfalso
          have := List.find?_some hr'
          rw [hal r (List.mem_of_find?_eq_some hr')] at this
          cases this
        have er : r' = r := Option.some.inj (hr2.symm.trans hr')
        subst er
        refine ⟨.str r'.nm, rfl, rfl, _, rfl, ?_⟩
        rw [decide_eq_false (show ¬ V.str r'.nm = V.non from fun z => by cases z)]
        refine ⟨.ref p, rfl, by show 4 ≤ sizeLine; decide, fun p6 np6 => ?_⟩
        have s6 : Same H5 (upd H5 p6 (.tup refT)) := same_upd np6
        have S : Same H3 (upd H5 p6 (.tup refT)) := fun b o z => s6 b o (s5 b o (s4 b o z))
        have ev : PyData.eqv (.tuple [.str (Str.ofString "refused"), .bool true, .bool true, .bool false]) (.tuple [.str (Str.ofString "refused"), .bool true, .bool true, .bool false]) = true := by decide +kernel
        have shp : SeqAt.shaped (.tuple [.str (Str.ofString "refused"), .bool true, .bool true, .bool false]) = true := by decide +kernel
        refine ⟨_, _, .tup (SqT.of (S _ _ ep)) (.cons (.str _) (.cons (.bl _) (.cons (.bl _) (.cons (.bl _) .nil)))), .tup (SqT.of upd_same) (.cons (.str _) (.cons (.bl _) (.cons (.bl _) (.cons (.bl _) .nil)))), shp, shp, _, rfl, ?_⟩
        rw [ev]
        refine ⟨.ref t, rfl, t, es, _, e, rfl, S _ _ et3, fun e' h => (((ok1 e' h).grow (S := dcs es) (m := 0) (Grow.of_same s2 0)).grow g3).grow (S := dcs es) (m := 0) (Grow.of_same S 0), by omega, hfe, fun H7 g7 => ⟨.str r'.nm, rfl, rfl, ?_⟩⟩
        rw [decide_eq_true (show V.str e.nmE = V.str r'.nm by rw [hnm])]
        exact q _ (ext_grow (x3.trans (ExtN.of S)) g7 frS) (TabN.grow (tab3.ext S) g7)
end
end WB

set_option Elab.async false
set_option linter.all false
set_option maxRecDepth 100000
set_option maxHeartbeats 4000000
namespace WB
open PySem PySem.Spec PyProof.Rows L2 WG
open NdefX (TabN)
open LamX (TabB ExtN)
open TL (tl)
abbrev st_law : Stmt := topS 39
theorem sc_law : FnScope ["_law_script", "_law_k", "_law_pot_here", "_law_turns", "_law_rows_here", "_law_spoilt_here", "_law_turn"] ["_law_script"] (defScope st_law) := ⟨rfl, rfl, rfl, by decide +kernel, rfl, by decide +kernel, by decide +kernel⟩
theorem sq_ext {K : PySem.W.Frag} {H H' : Hp} {a : Addr} {xs : List V} (h : SqL K H a xs) (s : ExtN H H') : SqL K H' a xs := by
  rcases h with h | h
  · rcases h with h | ⟨o, h⟩
    · exact .inl (.inl (s _ _ h (fun _ z => by cases z)))
    · exact .inl (.inr ⟨o, s _ _ h (fun _ z => by cases z)⟩)
  · exact .inr h
theorem sq_but {K : PySem.W.Frag} {H H' : Hp} {a p : Addr} {xs : List V} (h : SqL K H a xs) (b : But p H H') (n : a ≠ p) : SqL K H' a xs := by
  rcases h with h | h
  · rcases h with h | ⟨o, h⟩
    · exact .inl (.inl (b _ _ n h))
    · exact .inl (.inr ⟨o, b _ _ n h⟩)
  · exact .inr h
theorem tab_but {H H' : Hp} {T o : Addr} {nm : Nat → Nat → Str} (t : TabN H T nm) (b : But o H H') (pt : Pot H o) : TabN H' T nm := by
  obtain ⟨_, _, e, _⟩ := pt
  obtain ⟨ps, h1, h2, h3⟩ := t
  refine ⟨ps, b _ _ (fun z => by rw [z, e] at h1; cases h1) h1, h2, fun pos cv hc => ?_⟩
  obtain ⟨c, e1, e2⟩ := h3 pos cv hc
  exact ⟨c, e1, b _ _ (fun z => by rw [z, e] at e2; cases e2) e2⟩
section
variable {P : Program} {w : World} {K : PySem.W.Frag} {mg : Str → Option Value} {base : Heap}
def spLaw (K : PySem.W.Frag) (T : Addr) : Sp := fun vs H Q _ => ∃ (a : Addr) (ns : List Int), vs = [.ref a] ∧ H T = some (.tbl #[]) ∧ SqL K H a (ns.map V.int) ∧ ns.length ≤ 63 ∧ ∀ H', Q (.bl true) H'
theorem ok_law {T f fC fP fD fN fR fS fG fT : Addr} {fd fdC fdP fdD fdN fdR fdS fdG fdT : FuncData} {k : Nat} (F : Fun K "law" "law" st_law f fd)
    (D_cell : Df K mg "_law_cell" sCell ["_law_script", "_law_k"] fC fdC) (D_pot : Df K mg "_law_pot" sPot ["_law_script", "_law_k"] fP fdP) (D_draw : Df K mg "_law_draw" sDraw ["_law_pot_here", "_law_many"] fD fdD) (D_name : Df K mg "_law_name" st_name ["_law_pot_here"] fN fdN)
    (D_rows : Df K mg "_law_rows" st_rows ["_law_pot_here"] fR fdR) (D_spoilt : Df K mg "_law_spoilt" st_spoilt ["_law_pot_here", "_law_rows_here"] fS fdS) (D_right : Df K mg "_law_right" st_right ["_law_rows_here"] fG fdG) (G_right : FnOk P w K mg base CX0 (k + 9) fG fdG ["_law_rows_here"] (spRight T))
    (D_told : Df K mg "_law_told" st_told ["_law_table"] fT fdT) (G_told : FnOk P w K mg base CX0 (k + 8) fT fdT ["_law_table"] spTold)
    (m_len : mg "len" = none) (m_max : mg "max" = none) (m_min : mg "min" = none) (m_divmod : mg "divmod" = none) (m_range : mg "range" = none) (m_list : mg "list" = none) :
    FnOk P w K mg base CX0 (k + 10) f fd ["_law_script"] (spLaw K T) := by
  have G_pot : FnOk P w K mg base CX0 (k + 9) fP fdP ["_law_script", "_law_k"] (spPot K) := ok_pot D_pot.F D_cell m_len m_max
  have G_draw : FnOk P w K mg base CX0 (k + 9) fD fdD ["_law_pot_here", "_law_many"] spDraw := ok_draw D_draw.F m_divmod
  have G_rows : FnOk P w K mg base CX0 (k + 9) fR fdR ["_law_pot_here"] spRows := ok_rows D_rows.F D_draw D_name m_divmod m_range
  have G_spoilt : FnOk P w K mg base CX0 (k + 9) fS fdS ["_law_pot_here", "_law_rows_here"] spSpoilt := ok_spoilt D_spoilt.F D_draw m_divmod m_len
  refine F.ok sc_law (fun vs H Q E h => ?_) (fun cdv A outer s H vs Q E hr h => ?_)
  · obtain ⟨a, ns, rfl, _⟩ := h
    rfl
  · obtain ⟨a, ns, rfl, hT, hS, hlen, q⟩ := h
    refine ⟨_, pss_cons (ps_for PassesOwn.never rfl (pi_range1 rfl m_range (pa_cons (pe_callB (call_max2 rfl) (by rfl) m_max (by decide +kernel) (pa_cons pe_int (pa_cons (pe_callB (call_min2 rfl) (by rfl) m_min (by decide +kernel) (pa_cons (pe_callB call_len_seq (by rfl) m_len PySem.boot_len (pa_cons (pv 0) pa_nil)) (pa_cons pe_int pa_nil))) pa_nil))) pa_nil)) (pg_name (i := 1) sc_law.nd rfl (Or.inl rfl)) (pss_cons (ps_set (i := 2) sc_law.nd rfl (.inl rfl) (pe_call G_pot hr (by rfl) D_pot.g D_pot.F.kp D_pot.b .nil pass0 (pa_cons (pv 0) (pa_cons (pv 1) pa_nil))))
      (pss_cons (ps_set (i := 3) sc_law.nd rfl (.inl rfl) (pe_call G_draw hr (by rfl) D_draw.g D_draw.F.kp D_draw.b .nil pass0 (pa_cons (pv 2) (pa_cons pe_int pa_nil))))
      (pss_cons (ps_set (i := 4) sc_law.nd rfl (.inl rfl) (pe_call G_rows hr (by rfl) D_rows.g D_rows.F.kp D_rows.b .nil pass0 (pa_cons (pv 2) pa_nil)))
      (pss_cons (ps_set (i := 5) sc_law.nd rfl (.inl rfl) (pe_callTy call_list_of (by rfl) m_list (by decide +kernel) (pa_cons (pv 4) pa_nil)))
      (pss_cons (ps_for PassesOwn.never rfl (pi_range1 rfl m_range (pa_cons (pv 3) pa_nil)) (pg_name (i := 6) sc_law.nd rfl (Or.inl rfl)) (pss_one (ps_set (i := 5) sc_law.nd rfl (.inl rfl) (pe_call G_spoilt hr (by rfl) D_spoilt.g D_spoilt.F.kp D_spoilt.b .nil pass0 (pa_cons (pv 2) (pa_cons (pv 5) pa_nil))))))
      (pss_one (ps_if (PW.pt (pw_or (pt_not (pt_val (pe_call G_right hr (by rfl) D_right.g D_right.F.kp D_right.b .nil pass0 (pa_cons (pv 5) pa_nil)))) (pw_or1 (pt_not (pt_val (pe_call G_right hr (by rfl) D_right.g D_right.F.kp D_right.b .nil pass0 (pa_cons (pv 4) pa_nil))))))) (pss_one (ps_ret pe_bl)) pss_nil))))))))
      (pss_one (ps_ret (pe_cmpR (op_eqD hr.units) (pe_call G_told (hr.mono (by omega)) (by rfl) D_told.g D_told.F.kp D_told.b .nil pass0 (pa_cons pe_dnewK pa_nil)) (pe_tup (pa_cons pe_str (pa_cons (pe_lst pa_nil) pa_nil))) (nomark _)))), ?_⟩
    have sl : sizeLine = 16777216 := sizeLine_eq
    have tab0 : TabN H T nmT := NdefX.TabN.nil hT
    refine ⟨.ref a, rfl, a, _, rfl, .inl hS, _, 10, rfl, 1, _, rfl, _, rfl, ?_, ?_, for_range (lo := 0) (n := _) (fun i σ H' => SqL K H' a (ns.map V.int) ∧ TabN H' T nmT ∧ ∃ x1 x2 x3 x4 x5 x6, σ = [some (.ref a), x1, x2, x3, x4, x5, x6])
      ⟨hS, tab0, none, none, none, none, none, none, rfl⟩ ?_ ?_⟩
    · split <;> split <;> omega
    · split <;> split <;> omega
    · rintro i σ H3 hi ⟨hS3, tab3, x1, x2, x3, x4, x5, x6, rfl⟩
      refine ⟨.ref a, rfl, .int (0 + (i : Int)), rfl, a, ns, _, rfl, hS3, by omega, fun H4 p s4 np p4 => ?_⟩
      have hA : ∀ {Ha Hb : Hp}, But p Ha Hb → SqL K Ha a (ns.map V.int) → SqL K Hb a (ns.map V.int) := by
        rcases hS3 with h | h
        · have n : a ≠ p := by
            rcases h with h | ⟨_, h⟩
            · exact ne_of_none h np
            · exact ne_of_none h np
          exact fun {_ _} b h => sq_but h b n
        · exact fun {_ _} _ _ => .inr h
      refine ⟨.ref p, rfl, p, 3, rfl, p4, by decide, by decide, fun H5 d b5 p5 d0 d1 => ?_⟩
      refine ⟨.ref p, rfl, p, rfl, p5, fun H6 l rs b6 p6 nlp R6 ner => ?_⟩
      have b46 := b5.trans b6
      have hS6 := hA b46 (s4.seq hS3)
      have tab6 : TabN H6 T nmT := tab_but (tab3.ext s4) b46 p4
      refine ⟨.ref l, rfl, l, _, rfl, .inl (SqL.of R6.e), fun l2 nl2 => ?_⟩
      have s7 : Same H6 (upd H6 l2 (.lst (refsOf rs))) := same_upd nl2
      have e7 : (upd H6 l2 (.lst (refsOf rs))) l2 = some (.lst (refsOf rs)) := upd_same
      have p7 := p6.new (o := .lst (refsOf rs)) nl2
      have nl2p : l2 ≠ p := (p6.ne nl2).symm
      revert s7 e7 p7
      generalize upd H6 l2 (.lst (refsOf rs)) = H7
      intro s7 e7 p7
      have R7 := R6.same s7
      have Q7 : Rws H7 l2 rs := ⟨e7, R7.ok, R7.nd, R7.le⟩
      refine ⟨.int d, rfl, d, rfl, by omega, by omega, for_range (lo := 0) (n := d.toNat) (fun j σ H' => But p H7 H' ∧ Pot H' p ∧ ∃ (lx : Addr) (rx : List Rw) (y6 : Option V), lx ≠ p ∧ Rws H' lx rx ∧ rx ≠ [] ∧ σ = [some (.ref a), some (.int (0 + (i : Int))), some (.ref p), some (.int d), some (.ref l), some (.ref lx), y6])
        ⟨But.refl _ _, p7, l2, rs, x6, nl2p, Q7, ner, rfl⟩ ?_ ?_⟩
      · rintro j σ H8 hj ⟨b8, p8, lx, rx, y6, nlx, Rx, nex, rfl⟩
        refine ⟨.ref p, rfl, .ref lx, rfl, p, lx, rx, rfl, p8, nlx, Rx, nex, fun H9 l9 rs9 b9 p9 n9 R9 ne9 => ?_⟩
        exact ⟨b8.trans b9, p9, l9, rs9, _, n9, R9, ne9, rfl⟩
      · rintro σ H8 ⟨b8, p8, lx, rx, y6, nlx, Rx, nex, rfl⟩
        have hS8 := hA b8 (s7.seq hS6)
        have tab8 : TabN H8 T nmT := tab_but (tab6.ext s7) b8 p7
        have R8 := R7.pot p7 nlp b8
        refine ⟨.ref lx, rfl, lx, rx, rfl, Rx, tab8, fun H9 x9 tab9 => ⟨_, rfl, ?_⟩⟩
        refine ⟨.ref l, rfl, l, rs, rfl, R8.ext x9, tab9, fun H10 x10 tab10 => ⟨_, rfl, ?_⟩⟩
        exact ⟨sq_ext (sq_ext hS8 x9) x10, tab10, _, _, _, _, _, _, rfl⟩
    · rintro σ H3 ⟨hS3, tab3, x1, x2, x3, x4, x5, x6, rfl⟩
      intro t nt
      refine ⟨t, [], 0, rfl, upd_same, (fun e h => by cases h), by decide, fun _ H4 p l ys g np ep el hperm hs => ?_, fun e h => by cases h⟩
      have ey : ys = [] := List.perm_nil.mp hperm
      subst ey
      refine ⟨Nat.zero_le _, fun l2 nl2 => ?_⟩
      have s5 : Same H4 (upd H4 l2 (.lst ([] : List V))) := same_upd nl2
      have e5 : (upd H4 l2 (.lst ([] : List V))) l2 = some (.lst []) := upd_same
      revert s5 e5
      generalize upd H4 l2 (.lst ([] : List V)) = H5
      intro s5 e5
      refine ⟨by show 2 ≤ sizeLine; decide, fun t2 nt2 => ?_⟩
      have s6 : Same H5 (upd H5 t2 (.tup [.str (Str.ofString "made"), .ref l2])) := same_upd nt2
      have sh := made_shaped [] (fun y hy => by cases hy)
      refine ⟨_, _, .tup (SqT.of (s6 _ _ (s5 _ _ ep))) (.cons (.str _) (.cons (.lst (SqL.of (s6 _ _ (s5 _ _ el))) (dp_strs [])) .nil)), .tup (SqT.of upd_same) (.cons (.str _) (.cons (.lst (SqL.of (s6 _ _ e5)) (dp_strs [])) .nil)), sh, sh, ?_⟩
      rw [made_eqv []]
      exact q _
end
end WB

set_option Elab.async false
set_option linter.all false
set_option maxRecDepth 100000
set_option maxHeartbeats 4000000
namespace WB
open PySem PySem.Spec PyProof.Rows L2 WG
open TL (tl)
theorem df_mk {K : PySem.W.Frag} {h : Heap} {mg : Str → Option Value} {x : Str} {st : Stmt} {ps : List Str} {f : Addr} {oc : Value} {od an : Option Addr} {osl : Array (Option Value)} {kV doc pm cdv ct : Value} (X : K.In h) (G : h.Ns mainGlobals mg)
    (a : PySem.W.nsIn K mainGlobals x = some (some (.ref f))) (l : K.lookup f = some ⟨oc, od, .func (PySem.W.fnOf x x (defArgs st) (defBody st) (defScope st) .none kV doc pm an cdv ct), osl⟩)
    (c : PySem.W.codeIn K cdv x = true) (k : PySem.W.keepIn K (.ref f) = true)
    (b : ∀ (kV doc pm : Value) (an : Option Addr) (cdv ct : Value) (us : List Value), us.length = ps.length → bindArgs (PySem.W.fnOf x x (defArgs st) (defBody st) (defScope st) .none kV doc pm an cdv ct) ⟨us, []⟩ = pure (ps.zip us)) :
    Df K mg x st ps f (PySem.W.fnOf x x (defArgs st) (defBody st) (defScope st) .none kV doc pm an cdv ct) := by
  have F := fun_mk (st := st) l c k
  exact ⟨F, F.binds b, PySem.W.mg_of X G a⟩
theorem all_mk {l : PySem.W.OpenLaw} {w : World} {K : PySem.W.Frag} {h : Heap} {mg : Str → Option Value} {fa T : Addr} (X : K.In h) (G : h.Ns mainGlobals mg) (hfa : mg "law" = some (.ref fa))
    {fCell : Addr} {odCell anCell : Option Addr} {slCell : Array (Option Value)} {ocCell kVCell dcCell pmCell cdCell ctCell : Value} {fPot : Addr} {odPot anPot : Option Addr} {slPot : Array (Option Value)} {ocPot kVPot dcPot pmPot cdPot ctPot : Value} {fDraw : Addr} {odDraw anDraw : Option Addr} {slDraw : Array (Option Value)} {ocDraw kVDraw dcDraw pmDraw cdDraw ctDraw : Value} {fName : Addr} {odName anName : Option Addr} {slName : Array (Option Value)} {ocName kVName dcName pmName cdName ctName : Value} {fRows : Addr} {odRows anRows : Option Addr} {slRows : Array (Option Value)} {ocRows kVRows dcRows pmRows cdRows ctRows : Value} {fSpoilt : Addr} {odSpoilt anSpoilt : Option Addr} {slSpoilt : Array (Option Value)} {ocSpoilt kVSpoilt dcSpoilt pmSpoilt cdSpoilt ctSpoilt : Value} {fWName : Addr} {odWName anWName : Option Addr} {slWName : Array (Option Value)} {ocWName kVWName dcWName pmWName cdWName ctWName : Value} {fFirst : Addr} {odFirst anFirst : Option Addr} {slFirst : Array (Option Value)} {ocFirst kVFirst dcFirst pmFirst cdFirst ctFirst : Value} {fOther : Addr} {odOther anOther : Option Addr} {slOther : Array (Option Value)} {ocOther kVOther dcOther pmOther cdOther ctOther : Value} {fTold : Addr} {odTold anTold : Option Addr} {slTold : Array (Option Value)} {ocTold kVTold dcTold pmTold cdTold ctTold : Value} {fWho : Addr} {odWho anWho : Option Addr} {slWho : Array (Option Value)} {ocWho kVWho dcWho pmWho cdWho ctWho : Value} {fRight : Addr} {odRight anRight : Option Addr} {slRight : Array (Option Value)} {ocRight kVRight dcRight pmRight cdRight ctRight : Value} {fWithin : Addr} {odWithin anWithin : Option Addr} {slWithin : Array (Option Value)} {ocWithin kVWithin dcWithin pmWithin cdWithin ctWithin : Value} {fIsName : Addr} {odIsName anIsName : Option Addr} {slIsName : Array (Option Value)} {ocIsName kVIsName dcIsName pmIsName cdIsName ctIsName : Value} {fSample : Addr} {odSample anSample : Option Addr} {slSample : Array (Option Value)} {ocSample kVSample dcSample pmSample cdSample ctSample : Value} {fKind : Addr} {odKind anKind : Option Addr} {slKind : Array (Option Value)} {ocKind kVKind dcKind pmKind cdKind ctKind : Value} {fMakes : Addr} {odMakes anMakes : Option Addr} {slMakes : Array (Option Value)} {ocMakes kVMakes dcMakes pmMakes cdMakes ctMakes : Value} {CU BE : Addr} {nmU qU : Str} {NU : Addr} {bsU : List Value} {snU : List Str} {subU : List Value} {abU : Bool} {colU : Option Bool} {ddU : Option Addr} {m0 m1 m2 m3 m5 : Option Value} {TD : Addr} {odTD : Option Addr} {ocTD : Value} {tTD : Tok} {nTD : Nat} {slTD : Array (Option Value)} {fE : Addr} {odE anE : Option Addr} {slE : Array (Option Value)} {ocE kVE dcE pmE cdE ctE : Value} {fOwn cO : Addr} {odOwn anOwn : Option Addr} {slOwn : Array (Option Value)} {ocOwn kVOwn dcOwn pmOwn ctOwn : Value} {CN : Addr} {nmM qM : Str} {NM : Addr} {bsM : List Value} {snM : List Str} {subM : List Value} {abM : Bool} {colM : Option Bool} {ddM : Option Addr} {n0 n1 n2 n3 n5 : Option Value} {fEM : Addr} {odEM anEM : Option Addr} {slEM : Array (Option Value)} {ocEM kVEM dcEM pmEM cdEM ctEM : Value} {C1 C2 C3 C4 C5 C6 C7 C8 C9 : Addr} {C : Addr} {fI : Addr} {odI anI : Option Addr} {slI : Array (Option Value)} {ocI kVI dcI pmI cdI ctI : Value} {fNA : Addr} {odNA anNA : Option Addr} {slNA : Array (Option Value)} {ocNA kVNA dcNA pmNA cdNA ctNA : Value} {u1 u2 u3 : Tok} {fLaw : Addr} {odLaw anLaw : Option Addr} {slLaw : Array (Option Value)} {ocLaw kVLaw dcLaw pmLaw cdLaw ctLaw : Value}
    (aCell : PySem.W.nsIn K mainGlobals "_law_cell" = some (some (.ref fCell)))
    (lCell : K.lookup fCell = some ⟨ocCell, odCell, .func (PySem.W.fnOf "_law_cell" "_law_cell" (defArgs sCell) (defBody sCell) (defScope sCell) .none kVCell dcCell pmCell anCell cdCell ctCell), slCell⟩)
    (cCell : PySem.W.codeIn K cdCell "_law_cell" = true)
    (kCell : PySem.W.keepIn K (.ref fCell) = true)
    (aPot : PySem.W.nsIn K mainGlobals "_law_pot" = some (some (.ref fPot)))
    (lPot : K.lookup fPot = some ⟨ocPot, odPot, .func (PySem.W.fnOf "_law_pot" "_law_pot" (defArgs sPot) (defBody sPot) (defScope sPot) .none kVPot dcPot pmPot anPot cdPot ctPot), slPot⟩)
    (cPot : PySem.W.codeIn K cdPot "_law_pot" = true)
    (kPot : PySem.W.keepIn K (.ref fPot) = true)
    (aDraw : PySem.W.nsIn K mainGlobals "_law_draw" = some (some (.ref fDraw)))
    (lDraw : K.lookup fDraw = some ⟨ocDraw, odDraw, .func (PySem.W.fnOf "_law_draw" "_law_draw" (defArgs sDraw) (defBody sDraw) (defScope sDraw) .none kVDraw dcDraw pmDraw anDraw cdDraw ctDraw), slDraw⟩)
    (cDraw : PySem.W.codeIn K cdDraw "_law_draw" = true)
    (kDraw : PySem.W.keepIn K (.ref fDraw) = true)
    (aName : PySem.W.nsIn K mainGlobals "_law_name" = some (some (.ref fName)))
    (lName : K.lookup fName = some ⟨ocName, odName, .func (PySem.W.fnOf "_law_name" "_law_name" (defArgs st_name) (defBody st_name) (defScope st_name) .none kVName dcName pmName anName cdName ctName), slName⟩)
    (cName : PySem.W.codeIn K cdName "_law_name" = true)
    (kName : PySem.W.keepIn K (.ref fName) = true)
    (aRows : PySem.W.nsIn K mainGlobals "_law_rows" = some (some (.ref fRows)))
    (lRows : K.lookup fRows = some ⟨ocRows, odRows, .func (PySem.W.fnOf "_law_rows" "_law_rows" (defArgs st_rows) (defBody st_rows) (defScope st_rows) .none kVRows dcRows pmRows anRows cdRows ctRows), slRows⟩)
    (cRows : PySem.W.codeIn K cdRows "_law_rows" = true)
    (kRows : PySem.W.keepIn K (.ref fRows) = true)
    (aSpoilt : PySem.W.nsIn K mainGlobals "_law_spoilt" = some (some (.ref fSpoilt)))
    (lSpoilt : K.lookup fSpoilt = some ⟨ocSpoilt, odSpoilt, .func (PySem.W.fnOf "_law_spoilt" "_law_spoilt" (defArgs st_spoilt) (defBody st_spoilt) (defScope st_spoilt) .none kVSpoilt dcSpoilt pmSpoilt anSpoilt cdSpoilt ctSpoilt), slSpoilt⟩)
    (cSpoilt : PySem.W.codeIn K cdSpoilt "_law_spoilt" = true)
    (kSpoilt : PySem.W.keepIn K (.ref fSpoilt) = true)
    (aWName : PySem.W.nsIn K mainGlobals "_law_is_name" = some (some (.ref fWName)))
    (lWName : K.lookup fWName = some ⟨ocWName, odWName, .func (PySem.W.fnOf "_law_is_name" "_law_is_name" (defArgs st_w_is_name) (defBody st_w_is_name) (defScope st_w_is_name) .none kVWName dcWName pmWName anWName cdWName ctWName), slWName⟩)
    (cWName : PySem.W.codeIn K cdWName "_law_is_name" = true)
    (kWName : PySem.W.keepIn K (.ref fWName) = true)
    (aFirst : PySem.W.nsIn K mainGlobals "_law_first" = some (some (.ref fFirst)))
    (lFirst : K.lookup fFirst = some ⟨ocFirst, odFirst, .func (PySem.W.fnOf "_law_first" "_law_first" (defArgs st_first) (defBody st_first) (defScope st_first) .none kVFirst dcFirst pmFirst anFirst cdFirst ctFirst), slFirst⟩)
    (cFirst : PySem.W.codeIn K cdFirst "_law_first" = true)
    (kFirst : PySem.W.keepIn K (.ref fFirst) = true)
    (aOther : PySem.W.nsIn K mainGlobals "_law_is_other" = some (some (.ref fOther)))
    (lOther : K.lookup fOther = some ⟨ocOther, odOther, .func (PySem.W.fnOf "_law_is_other" "_law_is_other" (defArgs st_is_other) (defBody st_is_other) (defScope st_is_other) .none kVOther dcOther pmOther anOther cdOther ctOther), slOther⟩)
    (cOther : PySem.W.codeIn K cdOther "_law_is_other" = true)
    (kOther : PySem.W.keepIn K (.ref fOther) = true)
    (aTold : PySem.W.nsIn K mainGlobals "_law_told" = some (some (.ref fTold)))
    (lTold : K.lookup fTold = some ⟨ocTold, odTold, .func (PySem.W.fnOf "_law_told" "_law_told" (defArgs st_told) (defBody st_told) (defScope st_told) .none kVTold dcTold pmTold anTold cdTold ctTold), slTold⟩)
    (cTold : PySem.W.codeIn K cdTold "_law_told" = true)
    (kTold : PySem.W.keepIn K (.ref fTold) = true)
    (aWho : PySem.W.nsIn K mainGlobals "_law_who" = some (some (.ref fWho)))
    (lWho : K.lookup fWho = some ⟨ocWho, odWho, .func (PySem.W.fnOf "_law_who" "_law_who" (defArgs st_who) (defBody st_who) (defScope st_who) .none kVWho dcWho pmWho anWho cdWho ctWho), slWho⟩)
    (cWho : PySem.W.codeIn K cdWho "_law_who" = true)
    (kWho : PySem.W.keepIn K (.ref fWho) = true)
    (aRight : PySem.W.nsIn K mainGlobals "_law_right" = some (some (.ref fRight)))
    (lRight : K.lookup fRight = some ⟨ocRight, odRight, .func (PySem.W.fnOf "_law_right" "_law_right" (defArgs st_right) (defBody st_right) (defScope st_right) .none kVRight dcRight pmRight anRight cdRight ctRight), slRight⟩)
    (cRight : PySem.W.codeIn K cdRight "_law_right" = true)
    (kRight : PySem.W.keepIn K (.ref fRight) = true)
    (aWithin : PySem.W.nsIn K mainGlobals "is_text_within" = some (some (.ref fWithin)))
    (lWithin : K.lookup fWithin = some ⟨ocWithin, odWithin, .func (PySem.W.fnOf "is_text_within" "is_text_within" (defArgs st_is_text_within) (defBody st_is_text_within) (defScope st_is_text_within) .none kVWithin dcWithin pmWithin anWithin cdWithin ctWithin), slWithin⟩)
    (cWithin : PySem.W.codeIn K cdWithin "is_text_within" = true)
    (kWithin : PySem.W.keepIn K (.ref fWithin) = true)
    (aIsName : PySem.W.nsIn K mainGlobals "is_name" = some (some (.ref fIsName)))
    (lIsName : K.lookup fIsName = some ⟨ocIsName, odIsName, .func (PySem.W.fnOf "is_name" "is_name" (defArgs st_is_name) (defBody st_is_name) (defScope st_is_name) .none kVIsName dcIsName pmIsName anIsName cdIsName ctIsName), slIsName⟩)
    (cIsName : PySem.W.codeIn K cdIsName "is_name" = true)
    (kIsName : PySem.W.keepIn K (.ref fIsName) = true)
    (aSample : PySem.W.nsIn K mainGlobals "is_sample" = some (some (.ref fSample)))
    (lSample : K.lookup fSample = some ⟨ocSample, odSample, .func (PySem.W.fnOf "is_sample" "is_sample" (defArgs st_is_sample) (defBody st_is_sample) (defScope st_is_sample) .none kVSample dcSample pmSample anSample cdSample ctSample), slSample⟩)
    (cSample : PySem.W.codeIn K cdSample "is_sample" = true)
    (kSample : PySem.W.keepIn K (.ref fSample) = true)
    (aKind : PySem.W.nsIn K mainGlobals "kind_of" = some (some (.ref fKind)))
    (lKind : K.lookup fKind = some ⟨ocKind, odKind, .func (PySem.W.fnOf "kind_of" "kind_of" (defArgs st_kind_of) (defBody st_kind_of) (defScope st_kind_of) .none kVKind dcKind pmKind anKind cdKind ctKind), slKind⟩)
    (cKind : PySem.W.codeIn K cdKind "kind_of" = true)
    (kKind : PySem.W.keepIn K (.ref fKind) = true)
    (aMakes : PySem.W.nsIn K mainGlobals "makes_of" = some (some (.ref fMakes)))
    (lMakes : K.lookup fMakes = some ⟨ocMakes, odMakes, .func (PySem.W.fnOf "makes_of" "makes_of" (defArgs st_makes_of) (defBody st_makes_of) (defScope st_makes_of) .none kVMakes dcMakes pmMakes anMakes cdMakes ctMakes), slMakes⟩)
    (cMakes : PySem.W.codeIn K cdMakes "makes_of" = true)
    (kMakes : PySem.W.keepIn K (.ref fMakes) = true)
    (aB : PySem.W.nsIn K mainGlobals "BenchError" = some (some (.ref BE)))
    (aN : PySem.W.nsIn K mainGlobals "Unmade" = some (some (.ref CU)))
    (xN : K.lookup CU = some (excClassObj nmU qU CU NU bsU [.type "ValueError", .type "Exception", .type "BaseException", .type "object"] true snU subU abU colU ddU m0 m1 m2 m3 m5 "ValueError.__new__"))
    (aE : PySem.W.findIn K (.ref CU) "__init__" = some (some (.ref fE)))
    (lE : K.lookup fE = some ⟨ocE, odE, .func (PySem.W.fnOf "__init__" "Unmade.__init__" (defArgs st_err) (defBody st_err) (defScope st_err) (.ref TD) kVE dcE pmE anE cdE ctE), slE⟩)
    (cE : PySem.W.codeIn K cdE "Unmade.__init__" = true)
    (kE : PySem.W.keepIn K (.ref fE) = true)
    (lTD : K.lookup TD = some ⟨ocTD, odTD, .seq [.str (Str.ofString "") tTD].toArray nTD, slTD⟩)
    (tE : PySem.W.typeIn K (.ref fE) = some (.type "function"))
    (saN : PySem.W.findIn K (.ref CU) "__setattr__" = some (some (.builtin "object.__setattr__")))
    (gaN : PySem.W.findIn K (.ref CU) "__getattribute__" = some (some (.builtin "BaseException.__getattribute__")))
    (ggN : PySem.W.findIn K (.ref CU) "__getattr__" = some none)
    (nfN : PySem.W.findIn K (.ref CU) "why" = some none)
    (hcN : PySem.W.findIn K (.ref CU) "__class__" = some (some (.builtin "object.__class__")))
    (kN : PySem.W.keepIn K (.ref CU) = true)
    (eN : PySem.W.subIn K (.ref CU) (.type "BaseException") = some true)
    (tN : PySem.W.typeIn K (.ref CU) = some (.type "type"))
    (hdN : PySem.W.hasDictIn K CU = true)
    (sN : PySem.W.subIn K (.ref CU) (.ref CU) = some true)
    (spN : PySem.W.specialIn K (.builtin "object.__class__") "__get__" = some (some (.builtin "getset_descriptor.__get__")))
    (tkN : PySem.W.takesIn K (.builtin "object.__class__") = some true)
    (moN : PySem.W.mroIn K CU (.type "object") = some true)
    (tB : PySem.W.typeIn K (.ref BE) = some (.type "type"))
    (hdB : PySem.W.hasDictIn K BE = true)
    (sB : PySem.W.subIn K (.ref CU) (.ref BE) = some false)
    (sV : PySem.W.subIn K (.ref CU) (.type "ValueError") = some true)
    (aOwn : PySem.W.nsIn K mainGlobals "_law_own" = some (some (.ref fOwn)))
    (lOwn : K.lookup fOwn = some ⟨ocOwn, odOwn, .func (PySem.W.fnOf "_law_own" "_law_own" (defArgs st_own) (defBody st_own) (defScope st_own) .none kVOwn dcOwn pmOwn anOwn (.ref cO) ctOwn), slOwn⟩)
    (cOwn : PySem.W.codeIn K (.ref cO) "_law_own" = true)
    (kOwn : PySem.W.keepIn K (.ref fOwn) = true)
    (tabK : K.lookup T = none)
    (tabH : PySem.W.codeHdIn K cO T = true)
    (aM : PySem.W.nsIn K mainGlobals "NoMaker" = some (some (.ref CN)))
    (xM : K.lookup CN = some (excClassObj nmM qM CN NM bsM [.ref BE, .type "ValueError", .type "Exception", .type "BaseException", .type "object"] true snM subM abM colM ddM n0 n1 n2 n3 n5 "ValueError.__new__"))
    (aEM : PySem.W.findIn K (.ref CN) "__init__" = some (some (.ref fEM)))
    (lEM : K.lookup fEM = some ⟨ocEM, odEM, .func (PySem.W.fnOf "__init__" "NoMaker.__init__" (defArgs st_NoMaker_init) (defBody st_NoMaker_init) (defScope st_NoMaker_init) .none kVEM dcEM pmEM anEM cdEM ctEM), slEM⟩)
    (cEM : PySem.W.codeIn K cdEM "NoMaker.__init__" = true)
    (kEM : PySem.W.keepIn K (.ref fEM) = true)
    (tEM : PySem.W.typeIn K (.ref fEM) = some (.type "function"))
    (saM : PySem.W.findIn K (.ref CN) "__setattr__" = some (some (.builtin "object.__setattr__")))
    (gaM : PySem.W.findIn K (.ref CN) "__getattribute__" = some (some (.builtin "BaseException.__getattribute__")))
    (ggM : PySem.W.findIn K (.ref CN) "__getattr__" = some none)
    (nfM : PySem.W.findIn K (.ref CN) "who" = some none)
    (hcM : PySem.W.findIn K (.ref CN) "__class__" = some (some (.builtin "object.__class__")))
    (kM : PySem.W.keepIn K (.ref CN) = true)
    (eM : PySem.W.subIn K (.ref CN) (.type "BaseException") = some true)
    (eB : PySem.W.subIn K (.ref BE) (.type "BaseException") = some true)
    (tM : PySem.W.typeIn K (.ref CN) = some (.type "type"))
    (hdM : PySem.W.hasDictIn K CN = true)
    (sM : PySem.W.subIn K (.ref CN) (.ref CN) = some true)
    (moM : PySem.W.mroIn K CN (.type "object") = some true)
    (sMB : PySem.W.subIn K (.ref CN) (.ref BE) = some true)
    (sMV : PySem.W.subIn K (.ref CN) (.type "ValueError") = some true)
    (oa1 : PySem.W.nsIn K mainGlobals "BadDefault" = some (some (.ref C1)))
    (oh1 : PySem.W.hasDictIn K C1 = true)
    (ot1 : PySem.W.typeIn K (.ref C1) = some (.type "type"))
    (os1 : PySem.W.subIn K (.ref CN) (.ref C1) = some false)
    (oa2 : PySem.W.nsIn K mainGlobals "Clash" = some (some (.ref C2)))
    (oh2 : PySem.W.hasDictIn K C2 = true)
    (ot2 : PySem.W.typeIn K (.ref C2) = some (.type "type"))
    (os2 : PySem.W.subIn K (.ref CN) (.ref C2) = some false)
    (oa3 : PySem.W.nsIn K mainGlobals "Fault" = some (some (.ref C3)))
    (oh3 : PySem.W.hasDictIn K C3 = true)
    (ot3 : PySem.W.typeIn K (.ref C3) = some (.type "type"))
    (os3 : PySem.W.subIn K (.ref CN) (.ref C3) = some false)
    (oa4 : PySem.W.nsIn K mainGlobals "NoCommand" = some (some (.ref C4)))
    (oh4 : PySem.W.hasDictIn K C4 = true)
    (ot4 : PySem.W.typeIn K (.ref C4) = some (.type "type"))
    (os4 : PySem.W.subIn K (.ref CN) (.ref C4) = some false)
    (oa5 : PySem.W.nsIn K mainGlobals "NoName" = some (some (.ref C5)))
    (oh5 : PySem.W.hasDictIn K C5 = true)
    (ot5 : PySem.W.typeIn K (.ref C5) = some (.type "type"))
    (os5 : PySem.W.subIn K (.ref CN) (.ref C5) = some false)
    (oa6 : PySem.W.nsIn K mainGlobals "NoOption" = some (some (.ref C6)))
    (oh6 : PySem.W.hasDictIn K C6 = true)
    (ot6 : PySem.W.typeIn K (.ref C6) = some (.type "type"))
    (os6 : PySem.W.subIn K (.ref CN) (.ref C6) = some false)
    (oa7 : PySem.W.nsIn K mainGlobals "NoPlace" = some (some (.ref C7)))
    (oh7 : PySem.W.hasDictIn K C7 = true)
    (ot7 : PySem.W.typeIn K (.ref C7) = some (.type "type"))
    (os7 : PySem.W.subIn K (.ref CN) (.ref C7) = some false)
    (oa8 : PySem.W.nsIn K mainGlobals "NoRow" = some (some (.ref C8)))
    (oh8 : PySem.W.hasDictIn K C8 = true)
    (ot8 : PySem.W.typeIn K (.ref C8) = some (.type "type"))
    (os8 : PySem.W.subIn K (.ref CN) (.ref C8) = some false)
    (oa9 : PySem.W.nsIn K mainGlobals "Unmade" = some (some (.ref C9)))
    (oh9 : PySem.W.hasDictIn K C9 = true)
    (ot9 : PySem.W.typeIn K (.ref C9) = some (.type "type"))
    (os9 : PySem.W.subIn K (.ref CN) (.ref C9) = some false)
    (aC : PySem.W.nsIn K mainGlobals "Makers" = some (some (.ref C)))
    (aI : PySem.W.findIn K (.ref C) "__init__" = some (some (.ref fI)))
    (lI : K.lookup fI = some ⟨ocI, odI, .func (PySem.W.fnOf "__init__" "Makers.__init__" (defArgs st_minit) (defBody st_minit) (defScope st_minit) .none kVI dcI pmI anI cdI ctI), slI⟩)
    (cI : PySem.W.codeIn K cdI "Makers.__init__" = true)
    (kI : PySem.W.keepIn K (.ref fI) = true)
    (iI : PySem.W.isFn K (.ref fI) = true)
    (aNA : PySem.W.findIn K (.ref C) "names" = some (some (.ref fNA)))
    (lNA : K.lookup fNA = some ⟨ocNA, odNA, .func (PySem.W.fnOf "names" "Makers.names" (defArgs st_mnames) (defBody st_mnames) (defScope st_mnames) .none kVNA dcNA pmNA anNA cdNA ctNA), slNA⟩)
    (cNA : PySem.W.codeIn K cdNA "Makers.names" = true)
    (kNA : PySem.W.keepIn K (.ref fNA) = true)
    (iNA : PySem.W.isFn K (.ref fNA) = true)
    (pgC : PySem.W.plainGet K C Str.empty = true)
    (hdC : PySem.W.hasDictIn K C = true)
    (poC : PySem.W.plainOver K C = true)
    (saC : PySem.W.findIn K (.ref C) "__setattr__" = some (some (.builtin "object.__setattr__")))
    (nhC : PySem.W.findIn K (.ref C) "table" = some none)
    (mkC : PySem.W.makesIn K C = true)
    (kC : PySem.W.keepIn K (.ref C) = true)
    (v1 : PySem.W.nsIn K mainGlobals "MOST_NAME_SIGNS" = some (some (.int 10 u1)))
    (v2 : PySem.W.nsIn K mainGlobals "NAME_SIGNS" = some (some (.str nameSet u2)))
    (v3 : PySem.W.nsIn K mainGlobals "DIVIDER" = some (some (.str (Str.ofString "--") u3)))
    (z_len : PySem.W.nsIn K mainGlobals "len" = some none)
    (z_max : PySem.W.nsIn K mainGlobals "max" = some none)
    (z_min : PySem.W.nsIn K mainGlobals "min" = some none)
    (z_divmod : PySem.W.nsIn K mainGlobals "divmod" = some none)
    (z_range : PySem.W.nsIn K mainGlobals "range" = some none)
    (z_str : PySem.W.nsIn K mainGlobals "str" = some none)
    (z_isinstance : PySem.W.nsIn K mainGlobals "isinstance" = some none)
    (z_ValueError : PySem.W.nsIn K mainGlobals "ValueError" = some none)
    (z_sorted : PySem.W.nsIn K mainGlobals "sorted" = some none)
    (z_list : PySem.W.nsIn K mainGlobals "list" = some none)
    (z_dict : PySem.W.nsIn K mainGlobals "dict" = some none)
    (z_all : PySem.W.nsIn K mainGlobals "all" = some none)
    (aLaw : PySem.W.nsIn K mainGlobals "law" = some (some (.ref fLaw)))
    (lLaw : K.lookup fLaw = some ⟨ocLaw, odLaw, .func (PySem.W.fnOf "law" "law" (defArgs st_law) (defBody st_law) (defScope st_law) .none kVLaw dcLaw pmLaw anLaw cdLaw ctLaw), slLaw⟩)
    (cLaw : PySem.W.codeIn K cdLaw "law" = true)
    (kLaw : PySem.W.keepIn K (.ref fLaw) = true) :
    ∃ (fd : FuncData) (c cd : Addr), K.lookup T = none ∧ PySem.W.codeHdIn K c T = true ∧ (∀ (s : Shared) (v : Value), BindsTo s fd ⟨[v], []⟩ [("_law_script", v)]) ∧ ∀ base : Heap, K.In base → base.Ns mainGlobals mg → LamX.TabB base mg c T → GOk l.prog w K mg base CX0 10 fa fd ["_law_script"] (spLaw K T) := by
  have e := hfa.symm.trans (PySem.W.mg_of X G aLaw)
  cases e
  have g0 : ∀ {x : Str}, PySem.W.nsIn K mainGlobals x = some none → mg x = none := fun {x} z => PySem.W.mg_none_of X G z
  have DCell := df_mk (st := sCell) (ps := ["_law_script", "_law_k"]) X G aCell lCell cCell kCell fun _ _ _ _ _ _ us hl => match us, hl with | [_, _], _ => rfl
  have DPot := df_mk (st := sPot) (ps := ["_law_script", "_law_k"]) X G aPot lPot cPot kPot fun _ _ _ _ _ _ us hl => match us, hl with | [_, _], _ => rfl
  have DDraw := df_mk (st := sDraw) (ps := ["_law_pot_here", "_law_many"]) X G aDraw lDraw cDraw kDraw fun _ _ _ _ _ _ us hl => match us, hl with | [_, _], _ => rfl
  have DName := df_mk (st := st_name) (ps := ["_law_pot_here"]) X G aName lName cName kName fun _ _ _ _ _ _ us hl => match us, hl with | [_], _ => rfl
  have DRows := df_mk (st := st_rows) (ps := ["_law_pot_here"]) X G aRows lRows cRows kRows fun _ _ _ _ _ _ us hl => match us, hl with | [_], _ => rfl
  have DSpoilt := df_mk (st := st_spoilt) (ps := ["_law_pot_here", "_law_rows_here"]) X G aSpoilt lSpoilt cSpoilt kSpoilt fun _ _ _ _ _ _ us hl => match us, hl with | [_, _], _ => rfl
  have DWName := df_mk (st := st_w_is_name) (ps := ["_law_text"]) X G aWName lWName cWName kWName fun _ _ _ _ _ _ us hl => match us, hl with | [_], _ => rfl
  have DFirst := df_mk (st := st_first) (ps := ["_law_rows_here"]) X G aFirst lFirst cFirst kFirst fun _ _ _ _ _ _ us hl => match us, hl with | [_], _ => rfl
  have DOther := df_mk (st := st_is_other) (ps := ["_law_e"]) X G aOther lOther cOther kOther fun _ _ _ _ _ _ us hl => match us, hl with | [_], _ => rfl
  have DTold := df_mk (st := st_told) (ps := ["_law_table"]) X G aTold lTold cTold kTold fun _ _ _ _ _ _ us hl => match us, hl with | [_], _ => rfl
  have DWho := df_mk (st := st_who) (ps := ["_law_table"]) X G aWho lWho cWho kWho fun _ _ _ _ _ _ us hl => match us, hl with | [_], _ => rfl
  have DRight := df_mk (st := st_right) (ps := ["_law_rows_here"]) X G aRight lRight cRight kRight fun _ _ _ _ _ _ us hl => match us, hl with | [_], _ => rfl
  have DWithin := df_mk (st := st_is_text_within) (ps := ["value", "most"]) X G aWithin lWithin cWithin kWithin fun _ _ _ _ _ _ us hl => match us, hl with | [_, _], _ => rfl
  have DIsName := df_mk (st := st_is_name) (ps := ["value"]) X G aIsName lIsName cIsName kIsName fun _ _ _ _ _ _ us hl => match us, hl with | [_], _ => rfl
  have DSample := df_mk (st := st_is_sample) (ps := ["value", "maker"]) X G aSample lSample cSample kSample fun _ _ _ _ _ _ us hl => match us, hl with | [_, _], _ => rfl
  have DKind := df_mk (st := st_kind_of) (ps := ["word"]) X G aKind lKind cKind kKind fun _ _ _ _ _ _ us hl => match us, hl with | [_], _ => rfl
  have DMakes := df_mk (st := st_makes_of) (ps := ["maker", "word"]) X G aMakes lMakes cMakes kMakes fun _ _ _ _ _ _ us hl => match us, hl with | [_, _], _ => rfl
  have FLaw := fun_mk (st := st_law) lLaw cLaw kLaw
  have FE : ErrD K fE _ := ⟨⟨_, _, _, _, _, _, _, _, _, _, rfl, lE, cE, .inr ⟨by simp, TD, _, _, _, rfl, lTD, rfl, .cons ⟨_, rfl⟩ .nil⟩, .inl rfl⟩, kE⟩
  have TE : ErrT K mg "Unmade" CU fE _ := ⟨⟨⟨nmU, qU, NU, bsU, _, snU, subU, abU, colU, ddU, m0, m1, m2, m3, m5, xN, rfl⟩, saN, eN, tN, kN⟩, aE, tE, nfN, PySem.W.mg_of X G aN, err_b2 FE⟩
  have CT : CaughtT K CU BE := ⟨⟨gaN, ggN, eN, hdN⟩, ⟨gaN, ggN, eN, hdN, hcN, spN, tkN, moN⟩, PySem.W.exm_ref eN hdN tN sN, kit_subT (by decide +kernel) sV, kit_subR hdB tB sB sN⟩
  have DOwn := df_mk (st := st_own) (ps := ["_law_kept", "_law_bad"]) X G aOwn lOwn cOwn kOwn fun _ _ _ _ _ _ us hl => match us, hl with | [_, _], _ => rfl
  have FM := fun_mk (st := st_NoMaker_init) lEM cEM kEM
  have bM := FM.binds (ps := ["self", "who"]) fun _ _ _ _ _ _ us hl => match us, hl with | [_, _], _ => rfl
  have TM : ErrM K mg CN fEM _ := ⟨⟨⟨nmM, qM, NM, bsM, _, snM, subM, abM, colM, ddM, n0, n1, n2, n3, n5, xM, rfl⟩, saM, eM, tM, kM⟩, aEM, tEM, nfM, PySem.W.mg_of X G aM, bM⟩
  have TC : ExcC K CN := ⟨gaM, ggM, eM, hdM, hcM, spN, tkN, moM⟩
  have CM : CaughtM K CN BE := ⟨⟨gaM, ggM, eM, hdM⟩, TC, PySem.W.exm_ref eM hdM tM sM, PySem.W.exm_ref eB hdB tB sMB, kit_subT (by decide +kernel) sMV, kit_subR hdM tM sM sM⟩
  have OO : Others K mg CN C1 C2 C3 C4 C5 C6 C7 C8 C9 := ⟨PySem.W.mg_of X G oa1, PySem.W.mg_of X G oa2, PySem.W.mg_of X G oa3, PySem.W.mg_of X G oa4, PySem.W.mg_of X G oa5, PySem.W.mg_of X G oa6, PySem.W.mg_of X G oa7, PySem.W.mg_of X G oa8, PySem.W.mg_of X G oa9, fun c hc => by
    simp only [List.mem_cons, List.not_mem_nil, or_false] at hc
    rcases hc with rfl | rfl | rfl | rfl | rfl | rfl | rfl | rfl | rfl
    · exact kit_subR oh1 ot1 os1 sM
    · exact kit_subR oh2 ot2 os2 sM
    · exact kit_subR oh3 ot3 os3 sM
    · exact kit_subR oh4 ot4 os4 sM
    · exact kit_subR oh5 ot5 os5 sM
    · exact kit_subR oh6 ot6 os6 sM
    · exact kit_subR oh7 ot7 os7 sM
    · exact kit_subR oh8 ot8 os8 sM
    · exact kit_subR oh9 ot9 os9 sM⟩
  have TT : ClsT K C := ⟨⟨pgC, hdC, poC, saC⟩, nhC⟩
  have FI := fun_mk (st := st_minit) lI cI kI
  have bI := FI.binds (ps := ["self", "table"]) fun _ _ _ _ _ _ us hl => match us, hl with | [_, _], _ => rfl
  have FNA := fun_mk (st := st_mnames) lNA cNA kNA
  have bNA := FNA.binds (ps := ["self"]) fun _ _ _ _ _ _ us hl => match us, hl with | [_], _ => rfl
  refine ⟨PySem.W.fnOf "law" "law" (defArgs st_law) (defBody st_law) (defScope st_law) .none kVLaw dcLaw pmLaw anLaw cdLaw ctLaw, cO, cO, tabK, tabH, fun s v => ?_, fun base _ _ tb => ?_⟩
  · exact .of_eq rfl
  · have GIN := ok_inner (P := l.prog) (w := w) (base := base) (k := 0) FE TE
    have GMk := ok_makes (k := 0) DMakes.F GIN TE CT
    have GSa := ok_sample (k := 0) DSample.F DKind DMakes GMk (g0 z_len) (PySem.W.mg_of X G v3) (g0 z_isinstance) (g0 z_str)
    have GI := ok_minit (k := 0) FI FM TM TT DWithin DIsName DSample GSa (g0 z_dict) (g0 z_len) (g0 z_str) (g0 z_isinstance) (g0 z_all) (PySem.W.mg_of X G v1) (PySem.W.mg_of X G v2)
    have GO : ∀ cls d, WG.FnP l.prog w K mg base 7 fOther _ ["_law_e"] (ZC cls d) (spOther CN cls d) := fun cls d => ok_other DOther.F OO TC (g0 z_isinstance) cls d
    have GT := ok_told (k := 0) DTold.F ⟨mkC, aI, iI, kC⟩ GI (PySem.W.mg_of X G aC) bI TT ⟨aNA, iNA, kNA⟩ FNA bNA DOther GO TM CM (PySem.W.mg_of X G aB) (g0 z_isinstance) (g0 z_ValueError) (g0 z_sorted) (g0 z_list)
    have GW := ok_who (k := 0) DWho.F ⟨mkC, aI, iI, kC⟩ GI (PySem.W.mg_of X G aC) bI TM CM
    have GOw := ok_own (P := l.prog) (w := w) (k := 7) lOwn cOwn tb
    have GR := ok_right (k := 0) DRight.F GOw DOwn.g DOwn.F.kp DOwn.b DTold GT DWho GW DFirst DWName (g0 z_len) (g0 z_list) (g0 z_sorted)
    exact GOk.of (ok_law (k := 0) FLaw DCell DPot DDraw DName DRows DSpoilt DRight GR DTold GT (g0 z_len) (g0 z_max) (g0 z_min) (g0 z_divmod) (g0 z_range) (g0 z_list))
end WB

open PySem PySem.W PyProof.Rows
set_option maxRecDepth 100000
set_option Elab.async false
set_option maxHeartbeats 0 in
theorem PySem.Challenge.cw_wordbench_k36_tables_refused_holds : PySem.Challenge.rw_wordbench_k36_tables_refused.Holds := by
  w_on; o_law; k_head; (case hw => w_witness2)
  k_fill
  refine WG.gwalk_ofT (l := PySem.Challenge.rw_wordbench_k36_tables_refused) (n := 63) (k := 10) (x := "_law_script") (CX := fun _ => L2.CX0) (sp := fun w T => WB.spLaw _ T) rfl (by decide) rfl ⟨rfl, by decide, by decide⟩ (fun w h Y => PySem.W.km_in_of Y) (fun w h Y => PySem.W.km_tabs_of Y _ (.head _)) ?F (fun _ _ a ns hl hT hS => ⟨a, ns, rfl, hT, hS, hl, fun _ => rfl⟩) (fun _ _ _ _ _ h => h)
  case F =>
    intro w mg fa h KX G hmg
    refine' WB.all_mk KX G hmg ?aCell ?lCell ?cCell ?kCell ?aPot ?lPot ?cPot ?kPot ?aDraw ?lDraw ?cDraw ?kDraw ?aName ?lName ?cName ?kName ?aRows ?lRows ?cRows ?kRows ?aSpoilt ?lSpoilt ?cSpoilt ?kSpoilt ?aWName ?lWName ?cWName ?kWName ?aFirst ?lFirst ?cFirst ?kFirst ?aOther ?lOther ?cOther ?kOther ?aTold ?lTold ?cTold ?kTold ?aWho ?lWho ?cWho ?kWho ?aRight ?lRight ?cRight ?kRight ?aWithin ?lWithin ?cWithin ?kWithin ?aIsName ?lIsName ?cIsName ?kIsName ?aSample ?lSample ?cSample ?kSample ?aKind ?lKind ?cKind ?kKind ?aMakes ?lMakes ?cMakes ?kMakes ?aB ?aN ?xN ?aE ?lE ?cE ?kE ?lTD ?tE ?saN ?gaN ?ggN ?nfN ?hcN ?kN ?eN ?tN ?hdN ?sN ?spN ?tkN ?moN ?tB ?hdB ?sB ?sV ?aOwn ?lOwn ?cOwn ?kOwn ?tabK ?tabH ?aM ?xM ?aEM ?lEM ?cEM ?kEM ?tEM ?saM ?gaM ?ggM ?nfM ?hcM ?kM ?eM ?eB ?tM ?hdM ?sM ?moM ?sMB ?sMV ?oa1 ?oh1 ?ot1 ?os1 ?oa2 ?oh2 ?ot2 ?os2 ?oa3 ?oh3 ?ot3 ?os3 ?oa4 ?oh4 ?ot4 ?os4 ?oa5 ?oh5 ?ot5 ?os5 ?oa6 ?oh6 ?ot6 ?os6 ?oa7 ?oh7 ?ot7 ?os7 ?oa8 ?oh8 ?ot8 ?os8 ?oa9 ?oh9 ?ot9 ?os9 ?aC ?aI ?lI ?cI ?kI ?iI ?aNA ?lNA ?cNA ?kNA ?iNA ?pgC ?hdC ?poC ?saC ?nhC ?mkC ?kC ?v1 ?v2 ?v3 ?z_len ?z_max ?z_min ?z_divmod ?z_range ?z_str ?z_isinstance ?z_ValueError ?z_sorted ?z_list ?z_dict ?z_all ?aLaw ?lLaw ?cLaw ?kLaw
    (case aCell => k_is)
    (case lCell => k_is)
    (case cCell => k_is)
    (case kCell => k_is)
    (case aPot => k_is)
    (case lPot => k_is)
    (case cPot => k_is)
    (case kPot => k_is)
    (case aDraw => k_is)
    (case lDraw => k_is)
    (case cDraw => k_is)
    (case kDraw => k_is)
    (case aName => k_is)
    (case lName => k_is)
    (case cName => k_is)
    (case kName => k_is)
    (case aRows => k_is)
    (case lRows => k_is)
    (case cRows => k_is)
    (case kRows => k_is)
    (case aSpoilt => k_is)
    (case lSpoilt => k_is)
    (case cSpoilt => k_is)
    (case kSpoilt => k_is)
    (case aWName => k_is)
    (case lWName => k_is)
    (case cWName => k_is)
    (case kWName => k_is)
    (case aFirst => k_is)
    (case lFirst => k_is)
    (case cFirst => k_is)
    (case kFirst => k_is)
    (case aOther => k_is)
    (case lOther => k_is)
    (case cOther => k_is)
    (case kOther => k_is)
    (case aTold => k_is)
    (case lTold => k_is)
    (case cTold => k_is)
    (case kTold => k_is)
    (case aWho => k_is)
    (case lWho => k_is)
    (case cWho => k_is)
    (case kWho => k_is)
    (case aRight => k_is)
    (case lRight => k_is)
    (case cRight => k_is)
    (case kRight => k_is)
    (case aWithin => k_is)
    (case lWithin => k_is)
    (case cWithin => k_is)
    (case kWithin => k_is)
    (case aIsName => k_is)
    (case lIsName => k_is)
    (case cIsName => k_is)
    (case kIsName => k_is)
    (case aSample => k_is)
    (case lSample => k_is)
    (case cSample => k_is)
    (case kSample => k_is)
    (case aKind => k_is)
    (case lKind => k_is)
    (case cKind => k_is)
    (case kKind => k_is)
    (case aMakes => k_is)
    (case lMakes => k_is)
    (case cMakes => k_is)
    (case kMakes => k_is)
    (case aB => k_is)
    (case aN => k_is)
    (case xN => k_is)
    (case aE => k_is)
    (case lE => k_is)
    (case cE => k_is)
    (case kE => k_is)
    (case lTD => k_is)
    (case tE => k_is)
    (case saN => k_is)
    (case gaN => k_is)
    (case ggN => k_is)
    (case nfN => k_is)
    (case hcN => k_is)
    (case kN => k_is)
    (case eN => k_is)
    (case tN => k_is)
    (case hdN => k_is)
    (case sN => k_is)
    (case spN => k_is)
    (case tkN => k_is)
    (case moN => k_is)
    (case tB => k_is)
    (case hdB => k_is)
    (case sB => k_is)
    (case sV => k_is)
    (case aOwn => k_is)
    (case lOwn => k_is)
    (case cOwn => k_is)
    (case kOwn => k_is)
    (case tabK => first | k_is | exact rfl | decide +kernel)
    (case tabH => first | k_is | exact rfl | decide +kernel)
    (case aM => k_is)
    (case xM => k_is)
    (case aEM => k_is)
    (case lEM => k_is)
    (case cEM => k_is)
    (case kEM => k_is)
    (case tEM => k_is)
    (case saM => k_is)
    (case gaM => k_is)
    (case ggM => k_is)
    (case nfM => k_is)
    (case hcM => k_is)
    (case kM => k_is)
    (case eM => k_is)
    (case eB => k_is)
    (case tM => k_is)
    (case hdM => k_is)
    (case sM => k_is)
    (case moM => k_is)
    (case sMB => k_is)
    (case sMV => k_is)
    (case oa1 => k_is)
    (case oh1 => k_is)
    (case ot1 => k_is)
    (case os1 => k_is)
    (case oa2 => k_is)
    (case oh2 => k_is)
    (case ot2 => k_is)
    (case os2 => k_is)
    (case oa3 => k_is)
    (case oh3 => k_is)
    (case ot3 => k_is)
    (case os3 => k_is)
    (case oa4 => k_is)
    (case oh4 => k_is)
    (case ot4 => k_is)
    (case os4 => k_is)
    (case oa5 => k_is)
    (case oh5 => k_is)
    (case ot5 => k_is)
    (case os5 => k_is)
    (case oa6 => k_is)
    (case oh6 => k_is)
    (case ot6 => k_is)
    (case os6 => k_is)
    (case oa7 => k_is)
    (case oh7 => k_is)
    (case ot7 => k_is)
    (case os7 => k_is)
    (case oa8 => k_is)
    (case oh8 => k_is)
    (case ot8 => k_is)
    (case os8 => k_is)
    (case oa9 => k_is)
    (case oh9 => k_is)
    (case ot9 => k_is)
    (case os9 => k_is)
    (case aC => k_is)
    (case aI => k_is)
    (case lI => k_is)
    (case cI => k_is)
    (case kI => k_is)
    (case iI => k_is)
    (case aNA => k_is)
    (case lNA => k_is)
    (case cNA => k_is)
    (case kNA => k_is)
    (case iNA => k_is)
    (case pgC => k_is)
    (case hdC => k_is)
    (case poC => k_is)
    (case saC => k_is)
    (case nhC => k_is)
    (case mkC => k_is)
    (case kC => k_is)
    (case v1 => k_is)
    (case v2 => k_is)
    (case v3 => k_is)
    (case z_len => k_is)
    (case z_max => k_is)
    (case z_min => k_is)
    (case z_divmod => k_is)
    (case z_range => k_is)
    (case z_str => k_is)
    (case z_isinstance => k_is)
    (case z_ValueError => k_is)
    (case z_sorted => k_is)
    (case z_list => k_is)
    (case z_dict => k_is)
    (case z_all => k_is)
    (case aLaw => k_is)
    (case lLaw => k_is)
    (case cLaw => k_is)
    (case kLaw => k_is)
