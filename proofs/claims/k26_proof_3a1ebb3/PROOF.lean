import PyProof.Rows.All
import Wide.All
import OpenK.AllK
import Wide.FinOn
import PySem.Challenge.RW_wordbench_k26_whole_texts_read_or_not
import HandS.ForMost
import HandS.IsInst
import HandS.Walk
import HandS.ReplaceLit
import HandS.ReplaceDef
import HandS.ReplaceList
import HandS.FStr
import PyProof.Draws
import PyProof.EnumMake
import HandS.SortKw
import PyProof.MinMaxWalk
import PyProof.WalkInts
import KE.KMinKey
import HandS.ExcOwn
import HandS.ForExc
import KE.KIsAll
import PyProof.ReprRoads
import PyProof.StrBlock2
import HandS.Exc
import HandS.ExcInit
import HandS.ExcField
import HandS.ExcIs
import HandS.TryOnly
import HandS.WordsExc
import HandS.Defaults
import HandS.MakeKw
import HandS.MakeKwOnly
import HandS.HotCalls
set_option Elab.async false
set_option linter.all false
set_option maxRecDepth 100000
set_option maxHeartbeats 4000000
namespace WB
open PySem PySem.Spec PyProof.Rows L2
open TL (tl)
def topS (i : Nat) : Stmt := PySem.Challenge.pw_wordbench_k26_whole_texts_read_or_not.main.body.getD i (.Pass ⟨0, 0, 0, 0⟩)
abbrev st_cell : Stmt := topS 20
theorem sc_cell : FnScope ["_law_script", "_law_k"] ["_law_script", "_law_k"] (defScope st_cell) := ⟨rfl, rfl, rfl, by decide +kernel, rfl, by decide +kernel, by decide +kernel⟩
abbrev st_pot : Stmt := topS 21
theorem sc_pot : FnScope ["_law_script", "_law_k", "_law_cell_here"] ["_law_script", "_law_k"] (defScope st_pot) := ⟨rfl, rfl, rfl, by decide +kernel, rfl, by decide +kernel, by decide +kernel⟩
abbrev st_draw : Stmt := topS 22
theorem sc_draw : FnScope ["_law_pot_here", "_law_many", "_law_digit"] ["_law_pot_here", "_law_many"] (defScope st_draw) := ⟨rfl, rfl, rfl, by decide +kernel, rfl, by decide +kernel, by decide +kernel⟩
abbrev sCell := st_cell
abbrev sPot := st_pot
abbrev sDraw := st_draw
abbrev scCell := sc_cell
abbrev scPot := sc_pot
abbrev scDraw := sc_draw
/-- a def of the top: its object, how it binds, its name -/
structure Df (K : PySem.W.Frag) (mg : Str → Option Value) (x : Str) (st : Stmt) (ps : List Str) (f : Addr) (fd : FuncData) : Prop where
  F : Fun K x x st f fd
  b : Binds K fd ps []
  g : mg x = some (.ref f)
/-! ### heaps -/
theorem same_upd {H : Hp} {p : Addr} {o : HO} (h : H p = none) : Same H (upd H p o) := fun b x e => by
  rw [upd_ne (ne_of_none e h)]
  exact e
/-- all that was tracked but at p is as it was -/
def But (p : Addr) (H H' : Hp) : Prop := ∀ b o, b ≠ p → H b = some o → H' b = some o
theorem But.refl (p : Addr) (H : Hp) : But p H H := fun _ _ _ h => h
theorem But.trans {p : Addr} {H H1 H2 : Hp} (a : But p H H1) (b : But p H1 H2) : But p H H2 := fun c o n h => b c o n (a c o n h)
theorem But.of_same {p : Addr} {H H' : Hp} (a : Same H H') : But p H H' := fun c o _ h => a c o h
theorem But.upd (p : Addr) (H : Hp) (o : HO) : But p H (upd H p o) := fun c u n h => by
  rw [upd_ne n]
  exact h
theorem But.new {p : Addr} {H : Hp} {q : Addr} {o : HO} (h : H q = none) : But p H (L2.upd H q o) := But.of_same (same_upd h)
/-- at p a pot stands -/
def Pot (H : Hp) (p : Addr) : Prop := ∃ a b : Int, H p = some (.lst [.int a, .int b]) ∧ 0 ≤ b ∧ b < 2147483648
theorem Pot.some {H : Hp} {p : Addr} (h : Pot H p) : ∃ o, H p = some o := by
  obtain ⟨a, b, e, _⟩ := h
  exact ⟨_, e⟩
theorem Pot.ne {H : Hp} {p q : Addr} (h : Pot H p) (n : H q = none) : p ≠ q := by
  obtain ⟨a, b, e, _⟩ := h
  exact ne_of_none e n
theorem Pot.new {H : Hp} {p q : Addr} {o : HO} (h : Pot H p) (n : H q = none) : Pot (L2.upd H q o) p := by
  have ne := h.ne n
  obtain ⟨a, b, e, h1, h2⟩ := h
  refine ⟨a, b, ?_, h1, h2⟩
  rw [upd_ne ne]
  exact e
/-! ### texts of some signs -/
structure Tq (p : Nat → Prop) (n : Nat) (y : Str) : Prop where
  le : y.length ≤ n
  pl : ∀ c ∈ tl y, p c
theorem Tq.mono {p q : Nat → Prop} {n m : Nat} {y : Str} (h : Tq p n y) (e : n ≤ m) (f : ∀ c, p c → q c) : Tq q m y := ⟨Nat.le_trans h.le e, fun c hc => f c (h.pl c hc)⟩
theorem Tq.app {p : Nat → Prop} {n m : Nat} {x y : Str} (h : Tq p n x) (k : Tq p m y) : Tq p (n + m) (x ++ y) := by
  refine ⟨?_, fun c hc => ?_⟩
  · rw [Str.length_append]
    exact Nat.add_le_add h.le k.le
  · rw [TL.tl_append] at hc
    exact (List.mem_append.mp hc).elim (h.pl c) (k.pl c)
theorem Tq.cut {p : Nat → Prop} {n : Nat} {x : Str} (h : Tq p n x) (lo hi : Option Int) : Tq p n (cutS x lo hi) := by
  refine ⟨Nat.le_trans (cutS_length x lo hi) h.le, fun c hc => h.pl c ?_⟩
  have e : c ∈ (x.cps.toList.drop _).take _ := hc
  exact List.mem_of_mem_drop (List.mem_of_mem_take e)
theorem Tq.sign {p : Nat → Prop} {c : Nat} (h : p c) : Tq p 1 ⟨#[c]⟩ := by
  refine ⟨Nat.le_refl 1, fun d hd => ?_⟩
  have e : d ∈ [c] := hd
  rw [List.mem_singleton.mp e]
  exact h
theorem mem_joinL (S : List Nat) : ∀ (ps : List (List Nat)) (c : Nat), c ∈ TL.joinL S ps → c ∈ S ∨ ∃ p ∈ ps, c ∈ p
  | [], c, h => by cases h
  | [p], c, h => .inr ⟨p, List.mem_singleton.mpr rfl, h⟩
  | p :: q :: r, c, h => by
    rcases List.mem_append.mp (show c ∈ p ++ (S ++ TL.joinL S (q :: r)) from h) with h | h
    · exact .inr ⟨p, List.mem_cons_self, h⟩
    · rcases List.mem_append.mp h with h | h
      · exact .inl h
      · rcases mem_joinL S (q :: r) c h with h | ⟨p', hp, hc⟩
        · exact .inl h
        · exact .inr ⟨p', List.mem_cons_of_mem _ hp, hc⟩
theorem sum_most {p : Nat → Prop} (m : Nat) : ∀ ys : List Str, (∀ y ∈ ys, Tq p m y) → (ys.map (·.length)).sum ≤ ys.length * m
  | [], _ => Nat.zero_le _
  | y :: r, h => by
    have h1 := sum_most m r fun z hz => h z (List.mem_cons_of_mem _ hz)
    have h2 := (h y List.mem_cons_self).le
    rw [List.map_cons, List.sum_cons, List.length_cons, Nat.succ_mul]
    omega
theorem Tq.join {p : Nat → Prop} {sep : Str} {k m n : Nat} {ys : List Str} (hs : Tq p k sep) (h : ∀ y ∈ ys, Tq p m y) (hn : ys.length * m + ys.length * k ≤ n) : Tq p n (Txt.join sep ys) := by
  refine ⟨?_, fun c hc => ?_⟩
  · rw [TL.join_eq]
    have e := StrLaws.join_length_le sep ys
    have e2 := sum_most m ys h
    have e3 : ys.length * sep.length ≤ ys.length * k := Nat.mul_le_mul_left _ hs.le
    omega
  · rw [TL.join_eq, TL.tl_join] at hc
    rcases mem_joinL _ _ c hc with h1 | ⟨p, hp, h1⟩
    · exact hs.pl c h1
    · obtain ⟨y, hy, rfl⟩ := List.mem_map.mp hp
      exact (h y hy).pl c h1
section
variable {P : Program} {w : World} {K : PySem.W.Frag} {mg : Str → Option Value} {base : Heap}
/-! ### _law_cell -/
def spCell (K : PySem.W.Frag) : Sp := fun vs H Q _ => ∃ (a : Addr) (ns : List Int) (k : Int), vs = [.ref a, .int k] ∧ SqL K H a (ns.map V.int) ∧ 0 ≤ k ∧ ∀ z : Int, Q (.int z) H
theorem ok_cell {f : Addr} {fd : FuncData} {k : Nat} (F : Fun K "_law_cell" "_law_cell" sCell f fd) (mL : mg "len" = none) : FnOk P w K mg base CX0 (k + 1) f fd ["_law_script", "_law_k"] (spCell K) := by
  refine F.ok scCell (fun vs H Q E h => ?_) (fun cdv A outer s H vs Q E hr h => ?_)
  · obtain ⟨a, ns, k, rfl, _⟩ := h
    rfl
  · obtain ⟨a, ns, k, rfl, hS, hk, q⟩ := h
    refine ⟨_, pss_one (ps_ret (pe_ifExp (pt_cmpR op_lt (pv 1) (pe_callB call_len_seq (by rfl) mL PySem.boot_len (pa_cons (pv 0) pa_nil)) (nomark _)) (pe_ix ix_list (pv 0) (pv 1) (fun _ _ => rfl)) pe_int)), ?_⟩
    refine ⟨.int k, rfl, .ref a, rfl, a, _, rfl, .inl hS, k, _, rfl, rfl, _, rfl, ite2 (fun e => ?_) (fun e => q 0)⟩
    have e1 := of_decide_eq_true e
    obtain ⟨n, rfl⟩ := Int.eq_ofNat_of_zero_le hk
    rw [List.length_map] at e1
    have hn : n < ns.length := by omega
    exact ⟨.ref a, rfl, .int n, rfl, a, _, _, .int ns[n], rfl, rfl, hS, atI_nat (j := n) (by rw [List.getElem?_map, List.getElem?_eq_getElem hn]; rfl), q _⟩
/-! ### _law_pot -/
def spPot (K : PySem.W.Frag) : Sp := fun vs H Q _ => ∃ (a : Addr) (ns : List Int) (k : Int), vs = [.ref a, .int k] ∧ SqL K H a (ns.map V.int) ∧ 0 ≤ k ∧
  ∀ H' p, Same H H' → H p = none → Pot H' p → Q (.ref p) H'
theorem ok_pot {f fC : Addr} {fd fdC : FuncData} {k : Nat} (F : Fun K "_law_pot" "_law_pot" sPot f fd) (C : Df K mg "_law_cell" sCell ["_law_script", "_law_k"] fC fdC) (mL : mg "len" = none) (mM : mg "max" = none) :
    FnOk P w K mg base CX0 (k + 2) f fd ["_law_script", "_law_k"] (spPot K) := by
  have GC : FnOk P w K mg base CX0 (k + 1) fC fdC ["_law_script", "_law_k"] (spCell K) := ok_cell C.F mL
  refine F.ok scPot (fun vs H Q E h => ?_) (fun cdv A outer s H vs Q E hr h => ?_)
  · obtain ⟨a, ns, k, rfl, _⟩ := h
    rfl
  · obtain ⟨a, ns, k, rfl, hS, hk, q⟩ := h
    refine ⟨_, pss_cons (ps_set (i := 2) scPot.nd rfl (.inl rfl) (pe_call GC hr (by rfl) C.g C.F.kp C.b .nil pass0 (pa_cons (pv 0) (pa_cons (pv 1) pa_nil))))
      (pss_one (ps_ret (pe_lst (pa_cons (pe_callB (call_max2 rfl) (by rfl) mM (by decide +kernel) (pa_cons pe_int (pa_cons (pe_op op_sub (pv 2) (pe_op op_pow pe_int pe_int)) pa_nil)))
        (pa_cons (pe_op op_mod (pe_op op_add (pe_op op_add (pe_op op_mul (pe_op op_mod (pv 2) pe_int) pe_int) (pe_op op_mul pe_int (pv 1))) pe_int) pe_int) pa_nil))))), ?_⟩
    refine ⟨.ref a, rfl, .int k, rfl, a, ns, k, rfl, hS, hk, fun z => ?_⟩
    refine ⟨.int z, rfl, 10, 18, rfl, rfl, ⟨by decide, by decide, by decide⟩, z, _, rfl, rfl, 0, _, rfl, ?_⟩
    refine ⟨.int z, rfl, z, 2147483629, rfl, rfl, (by show (0 : Int) < 2147483629; decide), _, 48271, rfl, rfl, .inr ⟨by decide, by decide⟩, .int k, rfl, 7919, k, rfl, rfl, .inl ⟨by decide, by decide⟩, _, _, rfl, rfl, _, 31, rfl, rfl, _, 2147483629, rfl, rfl, (by show (0 : Int) < 2147483629; decide), ?_⟩
    refine ⟨by show 2 ≤ sizeLine; decide, fun p hp => q _ p (same_upd hp) hp ⟨_, _, upd_same, Int.emod_nonneg _ (by decide), ?_⟩⟩
    exact Int.lt_trans (Int.emod_lt_of_pos _ (by decide)) (by decide)
/-! ### _law_draw -/
def spDraw : Sp := fun vs H Q _ => ∃ (p : Addr) (m : Int), vs = [.ref p, .int m] ∧ Pot H p ∧ 0 < m ∧ m ≤ 1000 ∧ ∀ H' (d : Int), But p H H' → Pot H' p → 0 ≤ d → d < m → Q (.int d) H'
theorem ok_draw {f : Addr} {fd : FuncData} {k : Nat} (F : Fun K "_law_draw" "_law_draw" sDraw f fd) (mD : mg "divmod" = none) : FnOk P w K mg base CX0 (k + 1) f fd ["_law_pot_here", "_law_many"] spDraw := by
  refine F.ok scDraw (fun vs H Q E h => ?_) (fun cdv A outer s H vs Q E hr h => ?_)
  · obtain ⟨p, m, rfl, _⟩ := h
    rfl
  · obtain ⟨p, m, rfl, ⟨a, b, hp, hb0, hb1⟩, hm0, hm1, q⟩ := h
    refine ⟨_, pss_cons (ps_if (pt_cmpR op_gt (pe_ix ix_list (pv 0) pe_int (fun _ _ => rfl)) pe_int (nomark _))
        (pss_cons (ps_asg (pe_callB call_divmod (by rfl) mD (by decide +kernel) (pa_cons (pe_ix ix_list (pv 0) pe_int (fun _ _ => rfl)) (pa_cons (pv 1) pa_nil)))
            (pg_tup rfl (pgs_cons (pg_sub (pv 0) pe_int set_list) (pgs_cons (pg_name (i := 2) scDraw.nd rfl (.inl rfl)) pgs_nil))))
          (pss_one (ps_ret (pv 2)))) pss_nil)
      (pss_cons (ps_asg (pe_op op_mod (pe_op op_add (pe_op op_mul (pe_ix ix_list (pv 0) pe_int (fun _ _ => rfl)) pe_int) pe_int) pe_int) (pg_sub (pv 0) pe_int set_list))
      (pss_one (ps_ret (pe_op op_mod (pe_op op_fdiv (pe_op op_mod (pe_op op_pow (pe_ix ix_list (pv 0) pe_int (fun _ _ => rfl)) pe_int) pe_int) pe_int) (pv 1))))), ?_⟩
    refine ⟨.ref p, rfl, p, _, 0, .int a, rfl, rfl, SqL.of hp, atI_nat (j := 0) rfl, a, 0, rfl, rfl, _, rfl, ite2 (fun e => ?_) (fun e => ?_)⟩
    · refine ⟨.ref p, rfl, p, _, 0, .int a, rfl, rfl, SqL.of hp, atI_nat (j := 0) rfl, .int m, rfl, a, m, rfl, ⟨hm0, by omega⟩, fun t nt => ?_⟩
      have npt : p ≠ t := ne_of_none hp nt
      have hp1 : (upd H t (.tup [.int (a / m), .int (a % m)])) p = some (.lst [.int a, .int b]) := by
        rw [upd_ne npt]
        exact hp
      refine ⟨t, _, rfl, SqT.of upd_same, rfl, _, _, rfl, .ref p, rfl, p, _, 0, 0, rfl, rfl, hp1, rfl, _, _, rfl, rfl, ?_⟩
      refine ⟨.int (a % m), rfl, q _ _ ((But.new nt).trans (But.upd _ _ _)) ⟨a / m, b, upd_same, hb0, hb1⟩ (Int.emod_nonneg _ (by omega)) (Int.emod_lt_of_pos _ hm0)⟩
    · refine ⟨.ref p, rfl, p, _, 1, .int b, rfl, rfl, SqL.of hp, atI_nat (j := 1) rfl, b, 39373, rfl, rfl, .inr ⟨by decide, by decide⟩, _, 8191, rfl, rfl, _, 2147483587, rfl, rfl, (by show (0 : Int) < 2147483587; decide), ?_⟩
      refine ⟨.ref p, rfl, p, _, 1, 1, rfl, rfl, hp, rfl, ?_⟩
      have c0 : 0 ≤ (b * 39373 + 8191) % 2147483587 := Int.emod_nonneg _ (by decide)
      have c1 : (b * 39373 + 8191) % 2147483587 < 2147483587 := Int.emod_lt_of_pos _ (by decide)
      refine ⟨.ref p, rfl, p, _, 1, .int ((b * 39373 + 8191) % 2147483587), rfl, rfl, SqL.of upd_same, atI_nat (j := 1) rfl, (b * 39373 + 8191) % 2147483587, 2, rfl, rfl, ⟨by decide, by decide, by omega⟩, _, 2147483543, rfl, rfl, (by show (0 : Int) < 2147483543; decide), _, 13, rfl, rfl, ⟨by decide, by decide⟩, .int m, rfl, _, m, rfl, rfl, hm0, ?_⟩
      exact q _ _ (But.upd _ _ _) ⟨a, _, upd_same, c0, by omega⟩ (Int.emod_nonneg _ (by omega)) (Int.emod_lt_of_pos _ hm0)
end
theorem at_strs (ys : List Str) (d : Int) (h0 : 0 ≤ d) (h1 : d < (ys.length : Int)) : ∃ y ∈ ys, atI (ys.map V.str) d = some (.str y) := by
  obtain ⟨n, rfl⟩ := Int.eq_ofNat_of_zero_le h0
  have hn : n < ys.length := by omega
  exact ⟨ys[n], List.getElem_mem hn, atI_nat (by rw [List.getElem?_map, List.getElem?_eq_getElem hn]; rfl)⟩
theorem at_ints (ys : List Int) (d : Int) (h0 : 0 ≤ d) (h1 : d < (ys.length : Int)) : ∃ y ∈ ys, atI (ys.map V.int) d = some (.int y) := by
  obtain ⟨n, rfl⟩ := Int.eq_ofNat_of_zero_le h0
  have hn : n < ys.length := by omega
  exact ⟨ys[n], List.getElem_mem hn, atI_nat (by rw [List.getElem?_map, List.getElem?_eq_getElem hn]; rfl)⟩
theorem at_any (ys : List V) (d : Int) (h0 : 0 ≤ d) (h1 : d < (ys.length : Int)) : ∃ y ∈ ys, atI ys d = some y := by
  obtain ⟨n, rfl⟩ := Int.eq_ofNat_of_zero_le h0
  have hn : n < ys.length := by omega
  exact ⟨ys[n], List.getElem_mem hn, atI_nat (List.getElem?_eq_getElem hn)⟩
theorem go {R : Hp → Prop} {H : Hp} {a : Addr} {o : HO} (n : H a = none) (h : ∀ H', Same H H' → H' a = some o → R H') : R (upd H a o) := h _ (same_upd n) upd_same
theorem goT {α : Type} {R : Hp → α → Prop} {Q : α} {H : Hp} {a : Addr} {o : HO} (n : H a = none) (h : ∀ H', Same H H' → H' a = some o → R H' Q) : R (upd H a o) Q := h _ (same_upd n) upd_same
theorem goU {R : Hp → Prop} {H : Hp} {a : Addr} {o : HO} (h : ∀ H', But a H H' → H' a = some o → R H') : R (upd H a o) := h _ (But.upd _ _ _) upd_same
theorem ev_use {t : TE} {σ : L2.St} {H : Hp} {v : V} {R : VK} (e : ∀ R : VK, R v H → t σ H R) (c : R v H) : t σ H R := e R c
theorem ev_gen {t : TE} {σ : L2.St} {H : Hp} (D : V → Hp → Prop) {R : VK} (e : ∀ R : VK, (∀ v H', D v H' → R v H') → t σ H R) (c : ∀ v H', D v H' → R v H') : t σ H R := e R c
theorem ts_gen {t : TS} {κ : L2.Ends} {σ : L2.St} {H : Hp} (D : L2.St → Hp → Prop) (e : ∀ κ : L2.Ends, (∀ σ' H', D σ' H' → κ.nx σ' H') → t κ σ H) (c : ∀ σ' H', D σ' H' → κ.nx σ' H') : t κ σ H := e κ c
theorem dp_strs {K : PySem.W.Frag} {H : Hp} : ∀ ys : List Str, DpAll K H (ys.map V.str) (ys.map PyData.str)
  | [] => .nil
  | y :: r => .cons (.str y) (dp_strs r)
theorem strOk_of {z : Str} (h : ∀ c ∈ tl z, c < 256) : PyData.strOk z = true := by
  unfold PyData.strOk
  rw [← Array.all_toList]
  exact List.all_eq_true.mpr fun c hc => decide_eq_true (Nat.lt_trans (h c hc) (by decide))
theorem lay_strs : ∀ ys : List Str, (∀ y ∈ ys, PyData.strOk y = true) → PyData.canLayAll0 (ys.map PyData.str) = true ∧ PyData.depthAll (ys.map PyData.str) = 0
  | [], _ => ⟨by simp [PyData.canLayAll0], by simp [PyData.depthAll]⟩
  | y :: r, h => by
    obtain ⟨h1, h2⟩ := lay_strs r fun z hz => h z (List.mem_cons_of_mem _ hz)
    rw [List.map_cons]
    exact ⟨by simp [PyData.canLayAll0, PyData.canLay0, h1, h y List.mem_cons_self], by simp [PyData.depthAll, PyData.depth, h2]⟩
theorem shaped_strs (ys : List Str) (h : ∀ y ∈ ys, PyData.strOk y = true) : SeqAt.shaped (.list (ys.map PyData.str)) = true := by
  obtain ⟨h1, h2⟩ := lay_strs ys h
  unfold SeqAt.shaped
  simp [PyData.canLay0, PyData.depth, h1, h2]
theorem eqv_nil (ds : List PyData) : PyData.eqv (.list ds) (.list []) = ds.isEmpty := by
  cases ds with
  | nil => simp [PyData.eqv, PyData.eqvAll]
  | cons d r => simp [PyData.eqv, PyData.eqvAll]
theorem strs_flat (ys : List Str) : (ys.map V.str).all flatV = true := by
  rw [List.all_map]
  exact List.all_eq_true.mpr fun _ _ => rfl
theorem eqvAll_strs : ∀ xs ys : List Str, PyData.eqvAll (xs.map PyData.str) (ys.map PyData.str) = decide (xs = ys)
  | [], [] => by simp [PyData.eqvAll]
  | [], y :: r => by simp [PyData.eqvAll]
  | x :: r, [] => by simp [PyData.eqvAll]
  | x :: r, y :: t => by
    rw [List.map_cons, List.map_cons]
    simp only [PyData.eqvAll, PyData.eqv]
    rw [eqvAll_strs r t]
    by_cases h : x = y
    · subst h
      by_cases h2 : r = t
      · subst h2
        simp
      · simp [h2]
    · simp [h]
theorem eqv_strs (xs ys : List Str) : PyData.eqv (.list (xs.map PyData.str)) (.list (ys.map PyData.str)) = decide (xs = ys) := by
  simp only [PyData.eqv]
  exact eqvAll_strs xs ys
theorem inV_strs (z : Str) (ys : List Str) : inV (.str z) (ys.map V.str) = decide (z ∈ ys) := by
  unfold inV
  rw [List.any_map]
  induction ys with
  | nil => rfl
  | cons y r ih =>
    rw [List.any_cons, ih]
    show (decide (y = z) || decide (z ∈ r)) = _
    by_cases h : y = z
    · subst h
      simp
    · have h2 : ¬ z = y := fun e => h e.symm
      simp [h, h2]
theorem tl_cut_to (x : Str) (k : Nat) : tl (cutS x none (some (k : Int))) = (tl x).take k := by
  show ((((tl x).drop (HT.sIx x.length 0 none)).take (HT.sIx x.length x.length (some (k : Int)) - HT.sIx x.length 0 none)).toArray).toList = _
  rw [HT.sIx_none, HT.sIx_nat, List.drop_zero, Nat.sub_zero]
  show (tl x).take (min k x.length) = _
  rw [TL.len_tl, ← List.take_take, List.take_length]
theorem tl_cut_from (x : Str) (k : Nat) : tl (cutS x (some (k : Int)) none) = (tl x).drop k := by
  show ((((tl x).drop (HT.sIx x.length 0 (some (k : Int)))).take (HT.sIx x.length x.length none - HT.sIx x.length 0 (some (k : Int)))).toArray).toList = _
  rw [HT.sIx_none, HT.sIx_nat]
  show ((tl x).drop (min k x.length)).take (x.length - min k x.length) = _
  have hl := TL.len_tl x
  by_cases h : k ≤ x.length
  · rw [Nat.min_eq_left h, List.take_of_length_le (by rw [List.length_drop]; omega)]
  · rw [Nat.min_eq_right (by omega), List.drop_of_length_le (by omega), List.drop_of_length_le (by omega), List.take_nil]
theorem fold_toList : ∀ (l : List (Array Nat)) (acc : Array Nat), (l.foldl (· ++ ·) acc).toList = acc.toList ++ (l.map Array.toList).flatten
  | [], acc => by simp
  | x :: l, acc => by
    rw [List.foldl_cons, fold_toList l]
    simp
theorem mul_tl (z : Str) (n : Nat) : (Txt.mul z (n : Int)).cps.toList = (List.replicate n z.cps.toList).flatten := by
  unfold Txt.mul
  by_cases h1 : (n : Int) < 1
  · have e : n = 0 := by omega
    subst e
    rw [if_pos h1]
    rfl
  · rw [if_neg h1]
    by_cases h2 : ((n : Int) == 1 || z.length == 0) = true
    · rw [if_pos h2]
      rcases Bool.or_eq_true_iff.mp h2 with e | e
      · have e1 : n = 1 := by
          have := eq_of_beq e
          omega
        subst e1
        simp
      · have e1 : z.cps.toList = [] := List.length_eq_zero_iff.mp (by
          have := eq_of_beq e
          simpa [Str.length] using this)
        rw [e1]
        simp
    · rw [if_neg h2]
      show ((List.replicate (n : Int).toNat z.cps).foldl (· ++ ·) #[]).toList = _
      rw [fold_toList, Int.toNat_natCast, List.map_replicate]
      rfl
theorem op_mul_str {X : Cx} : OpR X (binaryOp .Mult) (fun x y H Q => ∃ (z : Str) (n : Nat), x = .str z ∧ y = .int (n : Int) ∧ n ≤ 1000 ∧ z.length ≤ 1000 ∧ ∀ y : Str, tl y = (List.replicate n (tl z)).flatten → Q (.str y) H) := by
  intro pins s σ H x y v u Q I rx ry h
  obtain ⟨z, n, rfl, rfl, hn, hz, q⟩ := h
  obtain ⟨tx, rfl⟩ := rx
  obtain ⟨ty, rfl⟩ := ry
  have pw : z.length * n ≤ 1000000 := Nat.le_trans (Nat.mul_le_mul hz hn) (by decide)
  refine PySem.SB.mul ⟨?_, fun h1 h2 => ?_, fun h1 h2 => ?_⟩ fun t' k => ⟨.str _, H, I.tok k, ⟨t', rfl⟩, q _ ?_⟩
  · rw [decide_eq_false (by omega), decide_eq_false (by omega)]
    rfl
  · have e : (1000 : Int) ≤ (2 ^ 63 - 1) / (n : Int) := by
      have h3 : (0 : Int) < n := by omega
      exact (Int.le_ediv_iff_mul_le h3).mpr (by omega)
    omega
  · rw [Int.toNat_natCast]
    exact decide_eq_false (by show ¬ sizeLine < _; have : sizeLine = 16777216 := sizeLine_eq; omega)
  · exact mul_tl z n
theorem tt_use {t : TT} {σ : L2.St} {H : Hp} {b : Bool} {R : Bool → Hp → Prop} (e : ∀ R : Bool → Hp → Prop, R b H → t σ H R) (c : R b H) : t σ H R := e R c
theorem str_ext {a b : Str} (h : tl a = tl b) : a = b := by
  cases a; cases b
  exact congrArg Str.mk (Array.toList_inj.mp h)
abbrev B8 : Nat → Prop := fun c => c < 256
theorem Pot.same {H H' : Hp} {p : Addr} (h : Pot H p) (s : Same H H') : Pot H' p := by
  obtain ⟨x, y, e, h1, h2⟩ := h
  exact ⟨x, y, s _ _ e, h1, h2⟩
end WB

set_option Elab.async false
set_option linter.all false
set_option maxRecDepth 100000
set_option maxHeartbeats 4000000
namespace WB
open PySem PySem.Spec PyProof.Rows L2
open TL (tl)
abbrev st_signs : Stmt := topS 23
theorem sc_signs : FnScope ["_law_letters"] [] (defScope st_signs) := ⟨rfl, rfl, rfl, by decide +kernel, rfl, by decide +kernel, by decide +kernel⟩
abbrev st_text : Stmt := topS 24
theorem sc_text : FnScope ["_law_pot_here", "_law_most", "_law_signs_here", "_law_k"] ["_law_pot_here", "_law_most", "_law_signs_here"] (defScope st_text) := ⟨rfl, rfl, rfl, by decide +kernel, rfl, by decide +kernel, by decide +kernel⟩
abbrev sSigns := st_signs
abbrev sText := st_text
abbrev scSigns := sc_signs
abbrev scText := sc_text
section
variable {P : Program} {w : World} {K : PySem.W.Frag} {mg : Str → Option Value} {base : Heap}
/-! ### _law_signs -/
def signs2 : Str := Str.ofString " !\"#$&'()*+,-./0123456789:;<=>?@" ++ Str.ofString "[\\]^_`{|}~abcdefghijklmnopqrstuvwxyzABCDEFGHIJKLMNOPQRSTUVWXYZ"
def spSigns : Sp := fun vs H Q _ => vs = [] ∧ Q (.str signs2) H
theorem ok_signs {f : Addr} {fd : FuncData} {k : Nat} (F : Fun K "_law_signs" "_law_signs" sSigns f fd) : FnOk P w K mg base CX0 (k + 1) f fd [] spSigns := by
  refine F.ok scSigns (fun vs H Q E h => ?_) (fun cdv A outer s H vs Q E hr h => ?_)
  · obtain ⟨rfl, _⟩ := h
    rfl
  · obtain ⟨rfl, q⟩ := h
    refine ⟨_, pss_cons (ps_set (i := 0) scSigns.nd rfl (.inl rfl) pe_str) (pss_one (ps_ret (pe_op op_add_str (pe_op op_add_str pe_str (pv 0)) (pe_upper (pv 0))))), ?_⟩
    refine ⟨_, rfl, _, _, rfl, rfl, ?_, _, rfl, ⟨_, rfl⟩, _, rfl, rfl, ?_, _, _, rfl, rfl, ?_, (congrArg (fun z => Q (.str z) H) (by decide +kernel)).mp q⟩ <;> decide +kernel
/-! ### _law_text -/
def spText : Sp := fun vs H Q _ => ∃ (p : Addr) (m : Int) (z : Str), vs = [.ref p, .int m, .str z] ∧ Pot H p ∧ 0 ≤ m ∧ m ≤ 100 ∧ 0 < z.length ∧ z.length ≤ 200 ∧
  ∀ H' (y : Str), But p H H' → Pot H' p → Tq (· ∈ tl z) m.toNat y → Q (.str y) H'
theorem ok_text {f fD : Addr} {fd fdD : FuncData} {k : Nat} (F : Fun K "_law_text" "_law_text" sText f fd) (D : Df K mg "_law_draw" sDraw ["_law_pot_here", "_law_many"] fD fdD) (mD : mg "divmod" = none) (mL : mg "len" = none) (mR : mg "range" = none) :
    FnOk P w K mg base CX0 (k + 2) f fd ["_law_pot_here", "_law_most", "_law_signs_here"] spText := by
  have GD : FnOk P w K mg base CX0 (k + 1) fD fdD ["_law_pot_here", "_law_many"] spDraw := ok_draw D.F mD
  refine F.ok scText (fun vs H Q E h => ?_) (fun cdv A outer s H vs Q E hr h => ?_)
  · obtain ⟨p, m, z, rfl, _⟩ := h
    rfl
  · obtain ⟨p, m, z, rfl, hp, hm0, hm1, hz0, hz1, q⟩ := h
    refine ⟨_, pss_one (ps_ret (pe_join pe_str (pe_lc (own := [("_law_k", 3)]) (g := gName 3) (tt := tYes) rfl scText.nd
      (pi_range1 rfl mR (pa_cons (pe_call GD hr (by rfl) D.g D.F.kp D.b .nil pass0 (pa_cons (pv 0) (pa_cons (pe_op op_add (pv 1) pe_int) pa_nil))) pa_nil))
      (blkOk_by (N := ["_law_pot_here", "_law_most", "_law_signs_here", "_law_k"]) (sc := defScope sText) (by decide +kernel))
      (fun _ _ _ _ _ => pg_name (i := 3) scText.nd rfl (Or.inl rfl)) (fun _ _ _ _ _ => pts_nil)
      (fun _ _ _ _ _ => pe_ix ix_str (pv 2) (pe_call GD hr (by rfl) D.g D.F.kp D.b .nil pass0 (pa_cons (pv 0) (pa_cons (pe_callB call_len_str (by rfl) mL PySem.boot_len (pa_cons (pv 2) pa_nil)) pa_nil))) (fun _ _ => rfl))))), ?_⟩
    refine ⟨⟨_, rfl⟩, .ref p, rfl, .int m, rfl, m, 1, rfl, rfl, p, m + 1, rfl, hp, by omega, by omega, fun H1 d b1 p1 d0 d1 => ?_⟩
    refine ⟨d, rfl, by omega, by omega, fun T nT => ?_⟩
    have npT : p ≠ T := p1.ne nT
    refine lc_range (lo := 0) (n := d.toNat) (fun i Hc => But p H1 Hc ∧ Pot Hc p ∧ ∃ ys : List Str, Hc T = some (.lst (ys.map V.str)) ∧ ys.length = i ∧ ∀ y ∈ ys, Tq (· ∈ tl z) 1 y)
      ⟨But.new nT, p1.new nT, [], upd_same, rfl, fun y hy => by cases hy⟩ (fun i Hc hi ⟨bc, pc, ys, eT, el, e1⟩ => ?_) (fun Hc ⟨bc, pc, ys, eT, el, e1⟩ => ?_)
    · refine ⟨rfl, ?_⟩
      have hzl : z.length ≤ sizeLine := Nat.le_trans hz1 (by decide)
      refine ⟨.str z, rfl, .ref p, rfl, .str z, rfl, z, rfl, hzl, p, z.length, rfl, pc, by omega, by omega, fun H4 j b4 p4 j0 j1 => ?_⟩
      obtain ⟨n, rfl⟩ := Int.eq_ofNat_of_zero_le j0
      have hn : n < z.cps.toList.length := by
        have e : z.cps.toList.length = z.length := by simp [Str.length]
        omega
      have eT4 : H4 T = some (.lst (ys.map V.str)) := b4 T _ npT.symm eT
      refine ⟨z, n, z.cps.toList[n], rfl, rfl, hzl, atI_nat (List.getElem?_eq_getElem hn), ys.map V.str, eT4, ?_, ?_, ?_, ys ++ [⟨#[z.cps.toList[n]]⟩], ?_, ?_, ?_⟩
      · rw [List.length_map, el]
        exact small1000 (by omega)
      · exact fun b o nb e => by
          rw [upd_ne (ne_of_none e nT)]
          exact b4 b o nb (bc b o nb e)
      · obtain ⟨x, y, e, h1, h2⟩ := p4
        refine ⟨x, y, ?_, h1, h2⟩
        rw [upd_ne npT]
        exact e
      · rw [upd_same, List.map_append]
        rfl
      · rw [List.length_append, el]
        rfl
      · intro y hy
        rcases List.mem_append.mp hy with hy | hy
        · exact e1 y hy
        · rw [List.mem_singleton.mp hy]
          exact Tq.sign (List.getElem_mem hn)
    · have e0 : (Str.ofString "").length = 0 := by decide +kernel
      have es := sum_most 1 ys e1
      refine ⟨_, T, ys, rfl, rfl, .inl (SqL.of eT), ?_, q _ _ (b1.trans bc) pc ?_⟩
      · rw [e0]
        omega
      · exact Tq.join ⟨by rw [e0]; exact Nat.le_refl 0, fun c hc => by cases hc⟩ e1 (by omega)
end
end WB

set_option Elab.async false
set_option linter.all false
set_option maxRecDepth 100000
set_option maxHeartbeats 4000000
namespace WB
open PySem PySem.Spec PyProof.Rows L2
open TL (tl)
/-- a row of words -/
def RowOk (ys : List Str) : Prop := ys.length ≤ 40 ∧ ∀ y ∈ ys, Tq B8 60 y
end WB

set_option Elab.async false
set_option linter.all false
set_option maxRecDepth 100000
set_option maxHeartbeats 4000000
namespace WB
open PySem PySem.Spec PyProof.Rows L2
open TL (tl)
/-! ### a row's text, sign by sign -/
def dblq (cs : List Nat) : List Nat := cs.flatMap fun c => if c = 39 then [39, 39] else [c]
def needq (cs : List Nat) : Bool := decide (cs = []) || (decide (32 ∈ cs) || decide (39 ∈ cs))
def wq (cs : List Nat) : List Nat := if needq cs then 39 :: (dblq cs ++ [39]) else cs
def rowL (ws : List (List Nat)) : List Nat := TL.joinL [32] (ws.map wq)
theorem joinL_snoc (S : List Nat) : ∀ (ps : List (List Nat)) (p : List Nat), TL.joinL S (ps ++ [p]) = if ps = [] then p else TL.joinL S ps ++ (S ++ p)
  | [], p => rfl
  | [x], p => rfl
  | x :: y :: r, p => by
    rw [if_neg (by simp)]
    show x ++ (S ++ TL.joinL S ((y :: r) ++ [p])) = (x ++ (S ++ TL.joinL S (y :: r))) ++ (S ++ p)
    rw [joinL_snoc S (y :: r) p, if_neg (by simp)]
    simp [List.append_assoc]
theorem rowL_snoc (ws : List (List Nat)) (w : List Nat) : rowL (ws ++ [w]) = if ws = [] then wq w else rowL ws ++ (32 :: wq w) := by
  unfold rowL
  rw [List.map_append, List.map_cons, List.map_nil, joinL_snoc]
  by_cases h : ws = []
  · rw [if_pos h, if_pos (by rw [h]; rfl)]
  · rw [if_neg h, if_neg (by simpa using h)]
    rfl
theorem joinL_nil : ∀ ps : List (List Nat), TL.joinL [] ps = ps.flatten
  | [] => rfl
  | [p] => by simp [TL.joinL]
  | p :: q :: r => by
    show p ++ ([] ++ TL.joinL [] (q :: r)) = _
    rw [joinL_nil (q :: r)]
    rfl
theorem dblq_len (cs : List Nat) : (dblq cs).length ≤ 2 * cs.length := by
  induction cs with
  | nil => exact Nat.le_refl 0
  | cons c r ih =>
    have e : dblq (c :: r) = (if c = 39 then [39, 39] else [c]) ++ dblq r := rfl
    rw [e, List.length_append, List.length_cons]
    split
    · show 2 + _ ≤ _
      omega
    · show 1 + _ ≤ _
      omega
theorem wq_len {cs : List Nat} (h : cs.length ≤ 60) : (wq cs).length ≤ 122 := by
  unfold wq
  split
  · rw [List.length_cons, List.length_append]
    have := dblq_len cs
    show _ + 1 + 1 ≤ 122
    omega
  · omega
abbrev st_written : Stmt := topS 25
theorem sc_written : FnScope ["_law_words", "_law_text_here", "_law_k", "_law_word", "_law_sign"] ["_law_words"] (defScope st_written) := ⟨rfl, rfl, rfl, by decide +kernel, rfl, by decide +kernel, by decide +kernel⟩
section
variable {P : Program} {w : World} {K : PySem.W.Frag} {mg : Str → Option Value} {base : Heap}
def spWritten : Sp := fun vs H Q _ => ∃ (l : Addr) (ys : List Str), vs = [.ref l] ∧ H l = some (.lst (ys.map V.str)) ∧ RowOk ys ∧ ∀ H' (z : Str), Same H H' → tl z = rowL (ys.map tl) → Q (.str z) H'
theorem ok_written {f : Addr} {fd : FuncData} {k : Nat} (F : Fun K "_law_written" "_law_written" st_written f fd) (m_enumerate : mg "enumerate" = none) (m_int : mg "int" = none) :
    FnOk P w K mg base CX0 (k + 1) f fd ["_law_words"] spWritten := by
  refine F.ok sc_written (fun vs H Q E h => ?_) (fun cdv A outer s H vs Q E hr h => ?_)
  · obtain ⟨l, ys, rfl, _⟩ := h
    rfl
  · obtain ⟨l, ys, rfl, el, ok, q⟩ := h
    refine ⟨_, pss_cons (ps_set (i := 1) sc_written.nd rfl (.inl rfl) pe_str)
      (pss_cons (ps_for PassesOwn.never rfl (pi_enum (by rfl) m_enumerate (pa_cons (pv 0) pa_nil)) (pg_tup rfl (pgs_cons (pg_name (i := 2) sc_written.nd rfl (Or.inl rfl)) (pgs_cons (pg_name (i := 3) sc_written.nd rfl (Or.inl rfl)) pgs_nil))) (pss_cons (ps_set (i := 1) sc_written.nd rfl (.inl rfl) (pe_op op_add_str (pv 1) (pe_op op_mul_str pe_str (pe_callTy call_int1 (by rfl) m_int (by decide +kernel) (pa_cons (pe_cmpR op_gt (pv 2) pe_int (nomark _)) pa_nil)))))
      (pss_one (ps_if (PW.pt (pw_or (pt_cmpR op_eq (pv 3) pe_str (nomark _)) (pw_or (pt_cmpR op_in_sign pe_str (pv 3) (by rfl)) (pw_or1 (pt_cmpR op_in_sign pe_str (pv 3) (by rfl)))))) (pss_one (ps_set (i := 1) sc_written.nd rfl (.inl rfl) (pe_op op_add_str (pe_op op_add_str (pe_op op_add_str (pv 1) pe_str) (pe_join pe_str (pe_lc (own := [("_law_sign", 4)]) (g := gName 4) (tt := tYes) rfl sc_written.nd (pi_str (pv 3)) (blkOk_by (N := ["_law_words", "_law_text_here", "_law_k", "_law_word", "_law_sign"]) (sc := defScope st_written) (by decide +kernel)) (fun _ _ _ _ _ => (pg_name (i := 4) sc_written.nd rfl (Or.inl rfl))) (fun _ _ _ _ _ => pts_nil) (fun _ _ _ _ _ => (pe_op op_add_str (pe_op op_mul_str pe_str (pe_callTy call_int1 (by rfl) m_int (by decide +kernel) (pa_cons (pe_cmpR op_eq (pv 4) pe_str (nomark _)) pa_nil))) (pv 4)))))) pe_str))) (pss_one (ps_set (i := 1) sc_written.nd rfl (.inl rfl) (pe_op op_add_str (pv 1) (pv 3))))))))
      (pss_one (ps_ret (pv 1)))), ?_⟩
    have lq : (Str.ofString "'").length = 1 := by decide +kernel
    have tq : tl (Str.ofString "'") = [39] := by decide +kernel
    have lb : (Str.ofString " ").length = 1 := by decide +kernel
    have tb : tl (Str.ofString " ") = [32] := by decide +kernel
    have te : tl (Str.ofString "") = [] := by decide +kernel
    refine ⟨.ref l, rfl, l, _, rfl, SqL.of el, for_it walk_enum (fun i σ H' => Same H H' ∧ ∃ (z : Str) (x2 x3 x4 : Option V), σ = [some (.ref l), some (.str z), x2, x3, x4] ∧ tl z = rowL ((ys.take i).map tl) ∧ z.length ≤ i * 123)
      ⟨Same.refl _, Str.ofString "", none, none, none, rfl, by rw [te]; rfl, by decide +kernel⟩ (fun i σ H' _ ⟨sm, _⟩ => SqL.of (sm _ _ el)) ?_ ?_⟩
    · rintro i x σ H5 H6 hi ⟨sm, z, x2, x3, x4, rfl, ez, hz⟩ ⟨T, k1, k2, rfl, nT, rfl, e1, e2⟩
      have e1' : k1 = .int (i : Nat) := (Option.some.inj e1).symm
      subst e1'
      have e2' : (ys.map V.str)[i]? = some k2 := e2
      rw [List.getElem?_map] at e2'
      obtain ⟨wd, ew, rfl⟩ := Option.map_eq_some_iff.mp e2'
      have hi40 : i < 40 := by
        have := ok.1
        rw [List.length_map] at hi
        omega
      have tw := ok.2 wd (List.mem_of_getElem? ew)
      have etk : ys.take (i + 1) = ys.take i ++ [wd] := by
        rw [List.take_add_one, ew]
        rfl
      have S6 : Same H (upd H5 T (.tup [.int (i : Nat), .str wd])) := sm.trans (same_upd nT)
      refine ⟨T, _, rfl, SqT.of upd_same, rfl, _, _, rfl, _, _, rfl, rfl, ?_⟩
      revert S6
      generalize upd H5 T (.tup [.int (i : Nat), .str wd]) = H6
      intro S6
      obtain ⟨n, hn1, hnv, hnt⟩ : ∃ n : Nat, n ≤ 1 ∧ (V.int (if decide ((0 : Int) < ((i : Nat) : Int)) = true then 1 else 0)) = V.int (n : Int) ∧ ((n = 0 ∧ ys.take i = []) ∨ (n = 1 ∧ ys.take i ≠ [])) := by
        by_cases h0 : i = 0
        · subst h0
          exact ⟨0, by decide, rfl, .inl ⟨rfl, rfl⟩⟩
        · refine ⟨1, by decide, ?_, .inr ⟨rfl, fun c => ?_⟩⟩
          · rw [if_pos (decide_eq_true (by omega))]
            rfl
          · rw [List.take_eq_nil_iff] at c
            rcases c with c | c
            · exact h0 c
            · rw [c] at ew
              cases ew
      refine ⟨.str z, rfl, .int (i : Nat), rfl, (i : Nat), 0, rfl, rfl, .inr ⟨_, rfl, Str.ofString " ", n, rfl, hnv, by omega, by rw [lb]; decide, fun sp hsp => ?_⟩⟩
      have lsp : sp.length ≤ 1 := by
        rw [TL.len_tl, hsp, tb]
        rcases hnt with ⟨h, _⟩ | ⟨h, _⟩ <;> rw [h] <;> decide
      have hzl : z.length + sp.length ≤ sizeLine := Nat.le_trans (show z.length + sp.length ≤ 40 * 123 + 1 by omega) (by decide)
      refine ⟨z, sp, rfl, rfl, hzl, ?_⟩
      have e1z : tl (z ++ sp) ++ wq (tl wd) = rowL ((ys.take (i + 1)).map tl) := by
        rw [etk, List.map_append, List.map_cons, List.map_nil, rowL_snoc, TL.tl_append, ez, hsp, tb]
        rcases hnt with ⟨h, h'⟩ | ⟨h, h'⟩
        · rw [h, h']
          rfl
        · rw [h, if_neg (by simpa using h'), List.append_assoc]
          rfl
      have l1z : (z ++ sp).length ≤ i * 123 + 1 := by
        rw [Str.length_append]
        omega
      dsimp only [tSeq, tAsg, tC, gName, tIfS]
      generalize (z ++ sp : Str) = z1 at e1z l1z
      have lw : (tl wd).length ≤ 60 := by
        rw [← TL.len_tl]
        exact tw.le
      have lwq := wq_len lw
      refine tt_use (t := tOr _ _) (b := needq (tl wd)) (fun R c => ?_) ?_
      · unfold needq at c
        refine ⟨_, rfl, rfl, _, rfl, ite2 (fun e => ?_) (fun e => ?_)⟩
        · have e' : wd = Str.ofString "" := V.str.inj (of_decide_eq_true e)
          rw [e', te] at c
          exact c
        · have e' : tl wd ≠ [] := fun h => e (decide_eq_true (congrArg V.str (str_ext (by rw [h, te]))))
          rw [decide_eq_false e', Bool.false_or] at c
          refine ⟨_, rfl, 32, wd, congrArg V.str (by decide +kernel), rfl, _, rfl, ite2 (fun e => ?_) (fun e => ?_)⟩
          · have e2 : 32 ∈ tl wd := of_decide_eq_true e
            rw [decide_eq_true e2] at c
            exact c
          · have e2 : 32 ∉ tl wd := fun h => e (decide_eq_true h)
            rw [decide_eq_false e2, Bool.false_or] at c
            exact ⟨_, rfl, 39, wd, congrArg V.str (by decide +kernel), rfl, _, rfl, c⟩
      cases hq : needq (tl wd) with
      | false =>
        have hwq : wq (tl wd) = tl wd := by
          unfold wq
          rw [hq]
          rfl
        refine ⟨_, rfl, _, rfl, z1, wd, rfl, rfl, ?_, S6, z1 ++ wd, _, _, _, rfl, ?_, ?_⟩
        · exact Nat.le_trans (show z1.length + wd.length ≤ 40 * 123 + 61 by have := tw.le; omega) (by decide)
        · rw [TL.tl_append, ← e1z, hwq]
        · rw [Str.length_append]
          have := tw.le
          omega
      | true =>
        have hwq : wq (tl wd) = 39 :: (dblq (tl wd) ++ [39]) := by
          unfold wq
          rw [hq]
          rfl
        have lz1 : z1.length + (Str.ofString "'").length ≤ sizeLine := Nat.le_trans (show z1.length + (Str.ofString "'").length ≤ 40 * 123 + 2 by omega) (by decide)
        refine ⟨_, rfl, z1, _, rfl, rfl, lz1, ⟨_, rfl⟩, .str wd, rfl, wd, rfl, fun D nD => ?_⟩
        refine lc_it walk_str (fun j Hc => Same H6 Hc ∧ ∃ us : List Str, Hc D = some (.lst (us.map V.str)) ∧ (us.map tl).flatten = dblq ((tl wd).take j) ∧ us.length = j ∧ ∀ u ∈ us, u.length ≤ 2)
          ⟨same_upd nD, [], upd_same, rfl, rfl, fun u hu => by cases hu⟩ (fun _ _ _ _ => True.intro) (fun j x Hc H' hj ⟨sc, us, eD, ej, elu, e2⟩ ⟨eH, c, ec, ex⟩ => ?_) (fun Hc ⟨sc, us, eD, ej, elu, e2⟩ => ?_)
        · subst eH ex
          have ec' : (tl wd)[j]? = some c := by
            rw [← Array.getElem?_toList] at ec
            exact ec
          obtain ⟨m, hm1, hmv, hmt⟩ : ∃ m : Nat, m ≤ 1 ∧ (V.int (if decide (V.str ⟨#[c]⟩ = V.str (Str.ofString "'")) = true then 1 else 0)) = V.int (m : Int) ∧ (List.replicate m [39]).flatten ++ [c] = (if c = 39 then [39, 39] else [c]) := by
            by_cases h0 : c = 39
            · subst h0
              exact ⟨1, by decide, by rw [if_pos (by decide +kernel)]; rfl, rfl⟩
            · refine ⟨0, by decide, ?_, by rw [if_neg h0]; rfl⟩
              rw [if_neg (fun h => h0 ?_)]
              · rfl
              · have h1 := congrArg tl (V.str.inj (of_decide_eq_true h))
                rw [tq] at h1
                exact (List.cons.inj h1).1
          refine ⟨rfl, .str ⟨#[c]⟩, rfl, rfl, .inr ⟨_, rfl, Str.ofString "'", m, rfl, hmv, by omega, by rw [lq]; decide, fun sp hsp => ?_⟩⟩
          have lsp2 : sp.length ≤ 1 := by
            rw [TL.len_tl, hsp, tq]
            rcases Nat.le_one_iff_eq_zero_or_eq_one.mp hm1 with h | h <;> rw [h] <;> decide
          have lc1 : (⟨#[c]⟩ : Str).length = 1 := rfl
          refine ⟨.str ⟨#[c]⟩, rfl, sp, ⟨#[c]⟩, rfl, rfl, Nat.le_of_lt (small1000 (by omega)), _, eD, ?_, ?_, us ++ [sp ++ ⟨#[c]⟩], ?_, ?_, ?_, ?_⟩
          · rw [List.length_map, elu]
            have h60 : wd.cps.size ≤ 60 := tw.le
            exact small1000 (by omega)
          · intro a o e
            rw [upd_ne (ne_of_none e nD)]
            exact sc a o e
          · rw [upd_same, List.map_append]
            rfl
          · rw [List.map_append, List.flatten_append, ej, List.take_add_one, ec']
            show _ ++ [tl (sp ++ ⟨#[c]⟩)].flatten = dblq ((tl wd).take j ++ [c])
            rw [TL.tl_append, hsp, tq]
            unfold dblq
            rw [List.flatMap_append]
            show _ ++ ((List.replicate m [39]).flatten ++ [c] ++ []) = _ ++ ((if c = 39 then [39, 39] else [c]) ++ [])
            rw [hmt]
          · rw [List.length_append, elu]
            rfl
          · intro u hu
            rcases List.mem_append.mp hu with h | h
            · exact e2 u h
            · rw [List.mem_singleton.mp h, Str.length_append, lc1]
              omega
        · have h60 : wd.cps.size ≤ 60 := tw.le
          have elw : wd.cps.size = (tl wd).length := by simp
          rw [elw, List.take_length] at ej
          have l0 : (Str.ofString "").length = 0 := by decide +kernel
          have hsum : (us.map (·.length)).sum ≤ us.length * 2 := by
            refine sum_most (p := fun _ => True) 2 us fun u hu => ⟨e2 u hu, fun _ _ => True.intro⟩
          have etj : tl (Txt.join (Str.ofString "") us) = dblq (tl wd) := by
            rw [TL.join_eq, TL.tl_join, te, joinL_nil, ej]
          have elj : (Txt.join (Str.ofString "") us).length ≤ 120 := by
            rw [TL.len_tl, etj]
            have := dblq_len (tl wd)
            omega
          refine ⟨_, D, us, rfl, rfl, .inl (SqL.of eD), by rw [l0]; omega, ?_⟩
          generalize Txt.join (Str.ofString "") us = jn at etj elj
          have l1 : (z1 ++ Str.ofString "'").length ≤ i * 123 + 2 := by
            rw [Str.length_append]
            omega
          refine ⟨_, jn, rfl, rfl, Nat.le_trans (show (z1 ++ Str.ofString "'").length + jn.length ≤ 40 * 123 + 122 by omega) (by decide), ?_⟩
          have l2 : ((z1 ++ Str.ofString "'") ++ jn).length = (z1 ++ Str.ofString "'").length + jn.length := Str.length_append _ _
          have ljn : jn.length = (dblq (tl wd)).length := by rw [TL.len_tl, etj]
          refine ⟨_, _, rfl, rfl, Nat.le_trans (show ((z1 ++ Str.ofString "'") ++ jn).length + (Str.ofString "'").length ≤ 40 * 123 + 123 by omega) (by decide), S6.trans sc, _, _, _, _, rfl, ?_, ?_⟩
          · rw [TL.tl_append, TL.tl_append, TL.tl_append, etj, tq, ← e1z, hwq]
            simp [List.append_assoc]
          · rw [Str.length_append, l2, Str.length_append, lq]
            have h5 : (wq (tl wd)).length = (dblq (tl wd)).length + 2 := by
              rw [hwq, List.length_cons, List.length_append]
              rfl
            omega
    · rintro σ H5 ⟨sm, z, x2, x3, x4, rfl, ez, hz⟩
      rw [List.length_map, List.take_length] at ez
      exact ⟨_, rfl, q _ z sm ez⟩
end
end WB

set_option Elab.async false
set_option linter.all false
set_option maxRecDepth 100000
set_option maxHeartbeats 4000000
namespace WB
open PySem PySem.Spec PyProof.Rows L2
open TL (tl)
/-! ### the law's reader, sign by sign -/
/-- within quotes: the word, what is behind the closing one -/
def qd : List Nat → Option (List Nat × List Nat)
  | [] => none
  | [c] => if c = 39 then some ([], []) else none
  | c :: d :: r => if c = 39 then (if d = 39 then (qd r).map (fun x => (39 :: x.1, x.2)) else some ([], d :: r)) else (qd (d :: r)).map fun x => (c :: x.1, x.2)
theorem dblq_cons (c : Nat) (w : List Nat) : dblq (c :: w) = (if c = 39 then [39, 39] else [c]) ++ dblq w := rfl
theorem qd_sound : ∀ {t w r : List Nat}, qd t = some (w, r) → t = dblq w ++ 39 :: r ∧ r.take 1 ≠ [39]
  | [], w, r, h => by cases h
  | [c], w, r, h => by
    unfold qd at h
    split at h
    · rename_i e
      cases h
      exact ⟨by rw [e]; rfl, by decide⟩
    · cases h
  | c :: d :: t, w, r, h => by
    unfold qd at h
    split at h
    · rename_i e
      split at h
      · rename_i e2
        obtain ⟨x, hx, ex⟩ := Option.map_eq_some_iff.mp h
        cases ex
        obtain ⟨h1, h2⟩ := qd_sound (w := x.1) (r := x.2) hx
        refine ⟨?_, h2⟩
        rw [dblq_cons, if_pos rfl, e, e2, h1]
        rfl
      · rename_i e2
        cases h
        exact ⟨by rw [e]; rfl, fun z => e2 (List.cons.inj z).1⟩
    · rename_i e
      obtain ⟨x, hx, ex⟩ := Option.map_eq_some_iff.mp h
      cases ex
      obtain ⟨h1, h2⟩ := qd_sound (w := x.1) (r := x.2) hx
      refine ⟨?_, h2⟩
      rw [dblq_cons, if_neg e, h1]
      rfl
theorem qd_full {r : List Nat} (hr : r.take 1 ≠ [39]) : ∀ w : List Nat, qd (dblq w ++ 39 :: r) = some (w, r)
  | [] => by
    show qd (39 :: r) = some ([], r)
    cases r with
    | nil => rfl
    | cons d t =>
      have e : d ≠ 39 := fun z => hr (by rw [z]; rfl)
      unfold qd
      rw [if_pos rfl, if_neg e]
  | c :: w => by
    rw [dblq_cons]
    have ih := qd_full hr w
    by_cases e : c = 39
    · rw [if_pos e]
      show qd (39 :: 39 :: (dblq w ++ 39 :: r)) = _
      unfold qd
      rw [if_pos rfl, if_pos rfl, ih, e]
      rfl
    · rw [if_neg e]
      show qd (c :: (dblq w ++ 39 :: r)) = _
      obtain ⟨d, t, et⟩ : ∃ d t, dblq w ++ 39 :: r = d :: t := by
        cases h : dblq w with
        | nil => exact ⟨_, _, rfl⟩
        | cons d t => exact ⟨d, t ++ 39 :: r, rfl⟩
      rw [et] at ih ⊢
      unfold qd
      rw [if_neg e, ih]
      rfl
/-- a sign of a bare word -/
def bs (c : Nat) : Bool := decide (c ≠ 32) && decide (c ≠ 39)
/-- one word, and what is behind -/
def rd1 (t : List Nat) : Option (List Nat × List Nat) :=
  if t.take 1 = [39] then (qd (t.drop 1)).bind fun x => if needq x.1 = true then some x else none
  else if t.takeWhile bs = [] then none else some (t.takeWhile bs, t.dropWhile bs)
theorem bare_not {w : List Nat} (h : ∀ c ∈ w, bs c = true) (ne : w ≠ []) : needq w = false := by
  unfold needq
  have h32 : 32 ∉ w := fun z => by
    have := h 32 z
    cases this
  have h39 : 39 ∉ w := fun z => by
    have := h 39 z
    cases this
  rw [decide_eq_false ne, decide_eq_false h32, decide_eq_false h39]
  rfl
theorem rd1_sound {t w r : List Nat} (h : rd1 t = some (w, r)) : t = wq w ++ r := by
  unfold rd1 at h
  split at h
  · rename_i e
    obtain ⟨x, hx, hy⟩ := Option.bind_eq_some_iff.mp h
    split at hy
    · rename_i hn
      cases hy
      obtain ⟨h1, _⟩ := qd_sound hx
      cases t with
      | nil => cases e
      | cons c t =>
        have ec : c = 39 := (List.cons.inj e).1
        have h1 : t = dblq w ++ 39 :: r := h1
        unfold wq
        rw [if_pos hn, ec, h1]
        simp
    · cases hy
  · split at h
    · cases h
    · rename_i ne
      cases h
      have hb : needq (t.takeWhile bs) = false := bare_not (fun c hc => List.all_eq_true.mp (List.all_takeWhile) c hc) ne
      unfold wq
      rw [if_neg (by rw [hb]; decide)]
      exact List.takeWhile_append_dropWhile.symm
theorem rd1_full {w r : List Nat} (hr : r.take 1 ≠ [39]) (hb : ∀ c ∈ r.take 1, bs c = false) : rd1 (wq w ++ r) = some (w, r) := by
  unfold rd1 wq
  by_cases hn : needq w = true
  · rw [if_pos hn]
    have e1 : (39 :: (dblq w ++ [39]) ++ r).take 1 = [39] := rfl
    rw [if_pos e1]
    have e2 : (39 :: (dblq w ++ [39]) ++ r).drop 1 = dblq w ++ 39 :: r := by simp
    rw [e2, qd_full hr]
    show (if needq w = true then some (w, r) else none) = some (w, r)
    rw [if_pos hn]
  · rw [if_neg hn]
    have hn : needq w = false := by
      cases h : needq w with
      | false => rfl
      | true => exact absurd h hn
    unfold needq at hn
    obtain ⟨n1, n2⟩ := Bool.or_eq_false_iff.mp hn
    obtain ⟨n2, n3⟩ := Bool.or_eq_false_iff.mp n2
    have ne := of_decide_eq_false n1
    have n32 := of_decide_eq_false n2
    have n39 := of_decide_eq_false n3
    have hall : ∀ c ∈ w, bs c = true := fun c hc => by
      have a1 : c ≠ 32 := fun z => n32 (by rw [← z]; exact hc)
      have a2 : c ≠ 39 := fun z => n39 (by rw [← z]; exact hc)
      unfold bs
      rw [decide_eq_true a1, decide_eq_true a2]
      rfl
    have etk : (w ++ r).takeWhile bs = w := by
      rw [List.takeWhile_append_of_pos hall]
      cases r with
      | nil => simp
      | cons c r =>
        have := hb c (by simp)
        rw [List.takeWhile_cons, this]
        simp
    have edr : (w ++ r).dropWhile bs = r := by
      rw [List.dropWhile_append_of_pos hall]
      cases r with
      | nil => rfl
      | cons c r =>
        have := hb c (by simp)
        rw [List.dropWhile_cons, this]
        rfl
    have e1 : (w ++ r).take 1 ≠ [39] := by
      cases w with
      | nil => exact absurd rfl ne
      | cons c w =>
        intro z
        exact n39 (by rw [(List.cons.inj z).1]; exact List.mem_cons_self)
    rw [if_neg e1, etk, edr, if_neg ne]
/-- a row's words; n: at most so many -/
def rd : Nat → List Nat → Option (List (List Nat))
  | 0, _ => none
  | n + 1, t => (rd1 t).bind fun x => match x.2 with
    | [] => some [x.1]
    | c :: r => if c = 32 then (rd n r).map (x.1 :: ·) else none
theorem rowL_cons (w : List Nat) (ws : List (List Nat)) : rowL (w :: ws) = wq w ++ (if ws = [] then [] else 32 :: rowL ws) := by
  cases ws with
  | nil => simp [rowL, TL.joinL]
  | cons v vs => rfl
theorem rd_sound : ∀ {n : Nat} {t : List Nat} {ws : List (List Nat)}, rd n t = some ws → ws ≠ [] ∧ t = rowL ws
  | 0, t, ws, h => by cases h
  | n + 1, t, ws, h => by
    unfold rd at h
    obtain ⟨⟨w, r⟩, hx, hy⟩ := Option.bind_eq_some_iff.mp h
    have h1 := rd1_sound hx
    cases r with
    | nil =>
      cases hy
      exact ⟨by simp, by rw [rowL_cons, if_pos rfl]; exact h1⟩
    | cons c r =>
      have hy : (if c = 32 then (rd n r).map (w :: ·) else none) = some ws := hy
      split at hy
      · rename_i ec
        obtain ⟨vs, hv, ev⟩ := Option.map_eq_some_iff.mp hy
        obtain ⟨k1, k2⟩ := rd_sound hv
        subst ev
        exact ⟨by simp, by rw [rowL_cons, if_neg k1, h1, ec, k2]⟩
      · cases hy
theorem rd_full : ∀ (ws : List (List Nat)) (w : List Nat) (n : Nat), ws.length < n → rd n (rowL (w :: ws)) = some (w :: ws)
  | [], w, n, h => by
    cases n with
    | zero => exact absurd h (Nat.not_lt_zero _)
    | succ n =>
      unfold rd
      rw [rowL_cons, if_pos rfl, rd1_full (by decide) (fun c hc => by cases hc)]
      rfl
  | v :: vs, w, n, h => by
    cases n with
    | zero => exact absurd h (Nat.not_lt_zero _)
    | succ n =>
      have ih := rd_full vs v n (by rw [List.length_cons] at h; omega)
      unfold rd
      rw [rowL_cons, if_neg (by simp), rd1_full (by intro z; cases z) (fun c hc => by
        rw [List.mem_singleton.mp (show c ∈ [32] from hc)]
        rfl)]
      show (if (32 : Nat) = 32 then (rd n (rowL (v :: vs))).map (w :: ·) else none) = _
      rw [if_pos rfl, ih]
      rfl
end WB

set_option Elab.async false
set_option linter.all false
set_option maxRecDepth 100000
set_option maxHeartbeats 4000000
namespace WB
open PySem PySem.Spec PyProof.Rows L2
open TL (tl)
abbrev st_quoted : Stmt := topS 26
theorem sc_quoted : FnScope ["_law_text_here", "_law_at", "_law_word"] ["_law_text_here", "_law_at"] (defScope st_quoted) := ⟨rfl, rfl, rfl, by decide +kernel, rfl, by decide +kernel, by decide +kernel⟩
abbrev st_bare : Stmt := topS 27
theorem sc_bare : FnScope ["_law_text_here", "_law_at", "_law_word"] ["_law_text_here", "_law_at"] (defScope st_bare) := ⟨rfl, rfl, rfl, by decide +kernel, rfl, by decide +kernel, by decide +kernel⟩
theorem qd_c {c : Nat} (h : c ≠ 39) (r : List Nat) : qd (c :: r) = (qd r).map fun x => (c :: x.1, x.2) := by
  cases r with
  | nil =>
    unfold qd
    rw [if_neg h]
    rfl
  | cons d r =>
    rw [qd, if_neg h]
theorem qd_dd (r : List Nat) : qd (39 :: 39 :: r) = (qd r).map fun x => (39 :: x.1, x.2) := by
  rw [qd, if_pos rfl, if_pos rfl]
theorem qd_end {r : List Nat} (h : r.take 1 ≠ [39]) : qd (39 :: r) = some ([], r) := qd_full h []
theorem drop_at {t : List Nat} {n : Nat} (h : n < t.length) : t.drop n = t[n] :: t.drop (n + 1) := List.drop_eq_getElem_cons h
theorem map_map2 {w v : List Nat} (o : Option (List Nat × List Nat)) : (o.map fun x => (v ++ x.1, x.2)).map (fun x => (w ++ x.1, x.2)) = o.map fun x => ((w ++ v) ++ x.1, x.2) := by
  cases o with
  | none => rfl
  | some x => simp
theorem tl_cut1 (x : Str) (b : Nat) : tl (cutS x (some (b : Int)) (some ((b + 1 : Nat) : Int))) = ((tl x).drop b).take 1 := by
  show ((((tl x).drop (HT.sIx x.length 0 (some (b : Int)))).take (HT.sIx x.length x.length (some ((b + 1 : Nat) : Int)) - HT.sIx x.length 0 (some (b : Int)))).toArray).toList = _
  rw [HT.sIx_nat, HT.sIx_nat]
  show ((tl x).drop (min b x.length)).take (min (b + 1) x.length - min b x.length) = _
  have hl := TL.len_tl x
  by_cases h : b < x.length
  · rw [Nat.min_eq_left (by omega), Nat.min_eq_left (by omega), Nat.add_sub_cancel_left]
  · rw [Nat.min_eq_right (by omega), Nat.min_eq_right (by omega), List.drop_of_length_le (by omega), List.drop_of_length_le (by omega), List.take_nil, List.take_nil]
section
variable {P : Program} {w : World} {K : PySem.W.Frag} {mg : Str → Option Value} {base : Heap}
/-- the tuple at p tells what is read within quotes -/
def QT (K : PySem.W.Frag) (H : Hp) (p : Addr) (z : Str) : Option (List Nat × List Nat) → Prop
  | some x => ∃ (y : Str) (n : Nat), SqT K H p [.str y, .int (n : Int)] ∧ tl y = x.1 ∧ n ≤ z.length ∧ (tl z).drop n = x.2 ∧ y.length ≤ z.length
  | none => ∃ n : Nat, SqT K H p [.non, .int (n : Int)] ∧ n ≤ z.length
def spQuoted (K : PySem.W.Frag) : Sp := fun vs H Q _ => ∃ (z : Str) (a : Nat), vs = [.str z, .int (a : Int)] ∧ z.length ≤ 900 ∧ a ≤ z.length ∧ ∀ H' p, Same H H' → H p = none → QT K H' p z (qd ((tl z).drop a)) → Q (.ref p) H'
theorem ok_quoted {f : Addr} {fd : FuncData} {k : Nat} (F : Fun K "_law_quoted" "_law_quoted" st_quoted f fd) (m_len : mg "len" = none) :
    FnOk P w K mg base CX0 (k + 1) f fd ["_law_text_here", "_law_at"] (spQuoted K) := by
  refine F.ok sc_quoted (fun vs H Q E h => ?_) (fun cdv A outer s H vs Q E hr h => ?_)
  · obtain ⟨z, a, rfl, _⟩ := h
    rfl
  · obtain ⟨z, a, rfl, hz, ha, q⟩ := h
    have hzl : z.length ≤ sizeLine := Nat.le_of_lt (small1000 (by omega))
    have ez := TL.len_tl z
    have te : tl (Str.ofString "") = [] := by decide +kernel
    have tq : tl (Str.ofString "'") = [39] := by decide +kernel
    refine ⟨_, pss_cons (ps_set (i := 2) sc_quoted.nd rfl (.inl rfl) pe_str)
      (pss_cons (ps_while PassesOwn.never (pt_cmpR op_lt (pv 1) (pe_callB call_len_str (by rfl) m_len PySem.boot_len (pa_cons (pv 0) pa_nil)) (nomark _)) (pss_one (ps_if (pt_cmpR op_ne (pe_ix ix_str (pv 0) (pv 1) (fun _ _ => rfl)) pe_str (nomark _)) (pss_cons (ps_set (i := 2) sc_quoted.nd rfl (.inl rfl) (pe_op op_add_str (pv 2) (pe_ix ix_str (pv 0) (pv 1) (fun _ _ => rfl))))
      (pss_one (ps_aug (i := 1) sc_quoted.nd rfl (.inl rfl) pe_int ip_add))) (pss_one (ps_if (pt_cmpR op_eq (pe_slice sl_str (pv 0) (po_some (pe_op op_add (pv 1) pe_int)) (po_some (pe_op op_add (pv 1) pe_int))) pe_str (nomark _)) (pss_cons (ps_set (i := 2) sc_quoted.nd rfl (.inl rfl) (pe_op op_add_str (pv 2) pe_str))
      (pss_one (ps_aug (i := 1) sc_quoted.nd rfl (.inl rfl) pe_int ip_add))) (pss_one (ps_ret (pe_tup (pa_cons (pv 2) (pa_cons (pe_op op_add (pv 1) pe_int) pa_nil))))))))))
      (pss_one (ps_ret (pe_tup (pa_cons pe_non (pa_cons (pv 1) pa_nil)))))), ?_⟩
    refine ⟨fun m σ H' => H' = H ∧ ∃ (n : Nat) (y : Str), n ≤ z.length ∧ m = z.length - n ∧ y.length ≤ n ∧ σ = [some (.str z), some (.int (n : Int)), some (.str y)] ∧ qd ((tl z).drop a) = (qd ((tl z).drop n)).map (fun x => (tl y ++ x.1, x.2)), ⟨_, rfl, a, Str.ofString "", ha, rfl, (by show 0 ≤ a; omega), rfl, ?_⟩, ?_⟩
    · rw [te]
      cases qd ((tl z).drop a) with
      | none => rfl
      | some x => rfl
    · rintro m σ H1 ⟨rfl, n, y, hn, rfl, hy, rfl, hq⟩
      refine ⟨.int (n : Int), rfl, .str z, rfl, z, rfl, hzl, _, _, rfl, rfl, _, rfl, ite2 (fun e => ?_) (fun e => ?_)⟩
      · have hlt : n < z.length := by
          have := of_decide_eq_true e
          omega
        have hlt' : n < (tl z).length := by omega
        have hd := drop_at hlt'
        have q1 : Str.ofString "'" = (⟨#[39]⟩ : Str) := by decide +kernel
        have hat : atI z.cps.toList (n : Int) = some ((tl z)[n]) := atI_nat (List.getElem?_eq_getElem hlt')
        generalize (tl z)[n] = c at hd hat
        refine ⟨fun σ' H' => H' = H1 ∧ ∃ (n' : Nat) (y' : Str), n < n' ∧ n' ≤ z.length ∧ y'.length ≤ n' ∧ σ' = [some (.str z), some (.int (n' : Int)), some (.str y')] ∧ qd ((tl z).drop a) = (qd ((tl z).drop n')).map (fun x => (tl y' ++ x.1, x.2)), ?_, ?_⟩
        · rintro σ' H' ⟨rfl, n', y', h1, h2, h3, rfl, h4⟩
          exact ⟨z.length - n', by omega, rfl, n', y', h2, rfl, h3, rfl, h4⟩
        refine ⟨.str z, rfl, .int (n : Int), rfl, z, (n : Int), c, rfl, rfl, hzl, hat, rfl, _, rfl, ite2 (fun e2 => ?_) (fun e2 => ?_)⟩
        · have hc : c ≠ 39 := fun ec => by
            rw [ec, q1, decide_eq_true rfl] at e2
            cases e2
          refine ⟨.str y, rfl, .str z, rfl, .int (n : Int), rfl, z, (n : Int), c, rfl, rfl, hzl, hat, y, ⟨#[c]⟩, rfl, rfl, Nat.le_of_lt (small1000 (by show y.length + 1 ≤ 1000; omega)), ?_⟩
          refine ⟨.int (n : Int), rfl, (n : Int), 1, rfl, rfl, rfl, n + 1, y ++ ⟨#[c]⟩, by omega, by omega, ?_, rfl, ?_⟩
          · rw [TL.len_tl, TL.tl_append, List.length_append, ← TL.len_tl]
            show y.length + 1 ≤ n + 1
            omega
          · have ec : (fun x : List Nat × List Nat => (c :: x.1, x.2)) = fun x => ([c] ++ x.1, x.2) := rfl
            rw [hq, hd, qd_c hc, ec, map_map2, TL.tl_append]
        · have hc : c = 39 := by
            by_cases ec : c = 39
            · exact ec
            · exact absurd (by
                rw [decide_eq_false (fun z => ec ?_)]
                · rfl
                · rw [q1] at z
                  have z2 := congrArg tl (V.str.inj z)
                  exact (List.cons.inj (show [c] = [39] from z2)).1) e2
          subst hc
          have ect := tl_cut1 z (n + 1)
          refine ⟨.str z, rfl, .int (n : Int), rfl, (n : Int), 1, rfl, rfl, _, rfl, .int (n : Int), rfl, (n : Int), 2, rfl, rfl, _, rfl, z, rfl, hzl, rfl, _, rfl, ite2 (fun e3 => ?_) (fun e3 => ?_)⟩
          · have e4 : ((tl z).drop (n + 1)).take 1 = [39] := by
              rw [← ect]
              exact (congrArg tl (V.str.inj (of_decide_eq_true e3))).trans tq
            have hd2 : (tl z).drop (n + 1) = 39 :: (tl z).drop (n + 2) := by
              cases h : (tl z).drop (n + 1) with
              | nil =>
                rw [h] at e4
                cases e4
              | cons d r =>
                rw [h] at e4
                have ed : d = 39 := (List.cons.inj e4).1
                have er : (tl z).drop (n + 2) = r := by
                  have := congrArg (List.drop 1) h
                  rw [List.drop_drop] at this
                  exact this
                rw [ed, er]
            have hlen : n + 1 < (tl z).length := by
              have := congrArg List.length hd2
              rw [List.length_drop, List.length_cons] at this
              omega
            refine ⟨.str y, rfl, y, _, rfl, rfl, Nat.le_of_lt (small1000 (by show y.length + 1 ≤ 1000; omega)), ?_⟩
            refine ⟨.int (n : Int), rfl, (n : Int), 2, rfl, rfl, rfl, n + 2, y ++ Str.ofString "'", by omega, by omega, ?_, rfl, ?_⟩
            · rw [TL.len_tl, TL.tl_append, tq, List.length_append, ← TL.len_tl]
              show y.length + 1 ≤ n + 2
              omega
            · have ec : (fun x : List Nat × List Nat => (39 :: x.1, x.2)) = fun x => ([39] ++ x.1, x.2) := rfl
              rw [hq, hd, hd2, qd_dd, ec, map_map2, TL.tl_append, tq]
          · have e4 : ((tl z).drop (n + 1)).take 1 ≠ [39] := fun h => e3 (decide_eq_true (by
              rw [str_ext (show tl (cutS z (some ((n : Int) + 1)) (some ((n : Int) + 2))) = tl (Str.ofString "'") from by rw [tq, ← h]; exact ect)]))
            refine ⟨.str y, rfl, .int (n : Int), rfl, (n : Int), 1, rfl, rfl, by show 2 ≤ sizeLine; decide, fun p np => q _ p (same_upd np) np ?_⟩
            rw [hq, hd, qd_end e4]
            exact ⟨y, n + 1, SqT.of upd_same, (List.append_nil _).symm, by omega, rfl, by omega⟩
      · have hn2 : n = z.length := by
          have : ¬ ((n : Int) < (z.length : Int)) := fun h => e (decide_eq_true h)
          omega
        refine ⟨_, rfl, by show 2 ≤ sizeLine; decide, fun p np => q _ p (same_upd np) np ?_⟩
        have ed : (tl z).drop n = [] := List.drop_eq_nil_of_le (by omega)
        rw [hq, ed]
        exact ⟨n, SqT.of upd_same, hn⟩
def spBare (K : PySem.W.Frag) : Sp := fun vs H Q _ => ∃ (z : Str) (a : Nat), vs = [.str z, .int (a : Int)] ∧ z.length ≤ 900 ∧ a ≤ z.length + 1 ∧ ∀ H' p (y : Str) (n : Nat), Same H H' → H p = none → SqT K H' p [.str y, .int (n : Int)] → tl y = ((tl z).drop a).takeWhile bs → n ≤ z.length + 1 → (tl z).drop n = ((tl z).drop a).dropWhile bs → (a ≤ z.length → n ≤ z.length ∧ y.length ≤ z.length) → Q (.ref p) H'
theorem ok_bare {f : Addr} {fd : FuncData} {k : Nat} (F : Fun K "_law_bare" "_law_bare" st_bare f fd) (m_len : mg "len" = none) :
    FnOk P w K mg base CX0 (k + 1) f fd ["_law_text_here", "_law_at"] (spBare K) := by
  refine F.ok sc_bare (fun vs H Q E h => ?_) (fun cdv A outer s H vs Q E hr h => ?_)
  · obtain ⟨z, a, rfl, _⟩ := h
    rfl
  · obtain ⟨z, a, rfl, hz, ha, q⟩ := h
    have hzl : z.length ≤ sizeLine := Nat.le_of_lt (small1000 (by omega))
    have ez := TL.len_tl z
    have te : tl (Str.ofString "") = [] := by decide +kernel
    have q1 : Str.ofString "'" = (⟨#[39]⟩ : Str) := by decide +kernel
    have q2 : Str.ofString " " = (⟨#[32]⟩ : Str) := by decide +kernel
    refine ⟨_, pss_cons (ps_set (i := 2) sc_bare.nd rfl (.inl rfl) pe_str)
      (pss_cons (ps_while PassesOwn.never (PW.pt (pw_and (pt_cmpR op_lt (pv 1) (pe_callB call_len_str (by rfl) m_len PySem.boot_len (pa_cons (pv 0) pa_nil)) (nomark _)) (pw_and (pt_cmpR op_ne (pe_ix ix_str (pv 0) (pv 1) (fun _ _ => rfl)) pe_str (nomark _)) (pw_and1 (pt_cmpR op_ne (pe_ix ix_str (pv 0) (pv 1) (fun _ _ => rfl)) pe_str (nomark _)))))) (pss_cons (ps_set (i := 2) sc_bare.nd rfl (.inl rfl) (pe_op op_add_str (pv 2) (pe_ix ix_str (pv 0) (pv 1) (fun _ _ => rfl))))
      (pss_one (ps_aug (i := 1) sc_bare.nd rfl (.inl rfl) pe_int ip_add))))
      (pss_one (ps_ret (pe_tup (pa_cons (pv 2) (pa_cons (pv 1) pa_nil)))))), ?_⟩
    refine ⟨fun m σ H' => H' = H ∧ ∃ (n : Nat) (y : Str), a ≤ n ∧ n ≤ z.length + 1 ∧ (a ≤ z.length → n ≤ z.length) ∧ m = z.length + 1 - n ∧ y.length ≤ n ∧ σ = [some (.str z), some (.int (n : Int)), some (.str y)] ∧ ((tl z).drop a).takeWhile bs = tl y ++ ((tl z).drop n).takeWhile bs ∧ ((tl z).drop a).dropWhile bs = ((tl z).drop n).dropWhile bs, ⟨_, rfl, a, Str.ofString "", Nat.le_refl _, ha, id, rfl, (by show 0 ≤ a; omega), rfl, by rw [te]; rfl, rfl⟩, ?_⟩
    rintro m σ H1 ⟨rfl, n, y, han, hn, hnl, rfl, hy, rfl, h1, h2⟩
    have stop : ((tl z).drop n).takeWhile bs = [] → ((tl z).drop n).dropWhile bs = (tl z).drop n → (tRet (tTup (tCons (tVar 2) (tCons (tVar 1) tNil)))) { nx := fun _ H' => Q .non H', rt := Q } [some (.str z), some (.int (n : Int)), some (.str y)] H1 := fun k1 k2 => by
      refine ⟨.str y, rfl, .int (n : Int), rfl, by show 2 ≤ sizeLine; decide, fun p np => q _ p y n (same_upd np) np (SqT.of upd_same) ?_ hn ?_ (fun h => ⟨hnl h, by have := hnl h; omega⟩)⟩
      · rw [h1, k1, List.append_nil]
      · rw [h2, k2]
    refine ⟨.int (n : Int), rfl, .str z, rfl, z, rfl, hzl, _, _, rfl, rfl, _, rfl, ite2 (fun e => ?_) (fun e => ?_)⟩
    · have hlt : n < z.length := by
        have := of_decide_eq_true e
        omega
      have hlt' : n < (tl z).length := by omega
      have hd := drop_at hlt'
      have hat : atI z.cps.toList (n : Int) = some ((tl z)[n]) := atI_nat (List.getElem?_eq_getElem hlt')
      generalize (tl z)[n] = c at hd hat
      have one : ∀ d : Nat, V.str (⟨#[c]⟩ : Str) = V.str (⟨#[d]⟩ : Str) → c = d := fun d h => (List.cons.inj (show [c] = [d] from congrArg tl (V.str.inj h))).1
      have off : bs c = false → ((tl z).drop n).takeWhile bs = [] ∧ ((tl z).drop n).dropWhile bs = (tl z).drop n := fun h => by
        rw [hd, List.takeWhile_cons, List.dropWhile_cons, h]
        exact ⟨rfl, rfl⟩
      refine ⟨.str z, rfl, .int (n : Int), rfl, z, (n : Int), c, rfl, rfl, hzl, hat, rfl, _, rfl, ite2 (fun e2 => ?_) (fun e2 => ?_)⟩
      · refine ⟨.str z, rfl, .int (n : Int), rfl, z, (n : Int), c, rfl, rfl, hzl, hat, rfl, _, rfl, ite2 (fun e3 => ?_) (fun e3 => ?_)⟩
        · have n32 : c ≠ 32 := fun h => by
            rw [h, q2, decide_eq_true rfl] at e2
            cases e2
          have n39 : c ≠ 39 := fun h => by
            rw [h, q1, decide_eq_true rfl] at e3
            cases e3
          have hb : bs c = true := by
            unfold bs
            rw [decide_eq_true n32, decide_eq_true n39]
            rfl
          refine ⟨fun σ' H' => H' = H1 ∧ σ' = [some (.str z), some (.int ((n + 1 : Nat) : Int)), some (.str (y ++ ⟨#[c]⟩))], ?_, ?_⟩
          · rintro σ' H' ⟨rfl, rfl⟩
            refine ⟨z.length + 1 - (n + 1), by omega, rfl, n + 1, _, by omega, by omega, fun _ => by omega, rfl, ?_, rfl, ?_, ?_⟩
            · rw [TL.len_tl, TL.tl_append, List.length_append, ← TL.len_tl]
              show y.length + 1 ≤ n + 1
              omega
            · rw [h1, hd, List.takeWhile_cons, hb, TL.tl_append]
              show tl y ++ (c :: _) = (tl y ++ [c]) ++ _
              rw [List.append_assoc]
              rfl
            · rw [h2, hd, List.dropWhile_cons, hb]
              rfl
          · refine ⟨.str y, rfl, .str z, rfl, .int (n : Int), rfl, z, (n : Int), c, rfl, rfl, hzl, hat, y, ⟨#[c]⟩, rfl, rfl, Nat.le_of_lt (small1000 (by show y.length + 1 ≤ 1000; omega)), ?_⟩
            exact ⟨.int (n : Int), rfl, (n : Int), 1, rfl, rfl, rfl, rfl⟩
        · have hc : c = 39 := by
            by_cases ec : c = 39
            · exact ec
            · exact absurd (by
                rw [q1, decide_eq_false (fun z => ec (one 39 z))]
                rfl) e3
          obtain ⟨k1, k2⟩ := off (by rw [hc]; rfl)
          exact stop k1 k2
      · have hc : c = 32 := by
          by_cases ec : c = 32
          · exact ec
          · exact absurd (by
              rw [q2, decide_eq_false (fun z => ec (one 32 z))]
              rfl) e2
        obtain ⟨k1, k2⟩ := off (by rw [hc]; rfl)
        exact stop k1 k2
    · have hn2 : z.length ≤ n := by
        have : ¬ ((n : Int) < (z.length : Int)) := fun h => e (decide_eq_true h)
        omega
      have ed : (tl z).drop n = [] := List.drop_eq_nil_of_le (by omega)
      exact stop (by rw [ed]; rfl) (by rw [ed]; rfl)
end
end WB

set_option Elab.async false
set_option linter.all false
set_option maxRecDepth 100000
set_option maxHeartbeats 4000000
namespace WB
open PySem PySem.Spec PyProof.Rows L2
open TL (tl)
abbrev st_read : Stmt := topS 28
theorem sc_read : FnScope ["_law_text_here", "_law_words", "_law_at", "_law_is_open", "_law_word"] ["_law_text_here"] (defScope st_read) := ⟨rfl, rfl, rfl, by decide +kernel, rfl, by decide +kernel, by decide +kernel⟩
theorem ts_gen2 {t : TS} {κ : L2.Ends} {σ : L2.St} {H : Hp} (D : L2.St → Hp → Prop) (e : ∀ κ' : L2.Ends, κ'.rt = κ.rt → (∀ σ' H', D σ' H' → κ'.nx σ' H') → t κ' σ H) (c : ∀ σ' H', D σ' H' → κ.nx σ' H') : t κ σ H := e κ rfl c
/-- what the law's reader reads -/
def rdT (t : List Nat) : Option (List (List Nat)) := if t = [] then some [] else rd (t.length + 1) t
section
variable {P : Program} {w : World} {K : PySem.W.Frag} {mg : Str → Option Value} {base : Heap}
def spRead : Sp := fun vs H Q _ => ∃ z : Str, vs = [.str z] ∧ z.length ≤ 900 ∧ (rdT (tl z) = none → ∀ H', Same H H' → Q .non H') ∧ (∀ (ys : List Str) l H', rdT (tl z) = some (ys.map tl) → Same H H' → H l = none → H' l = some (.lst (ys.map V.str)) → Q (.ref l) H')
theorem ok_read {f fQ fB : Addr} {fd fdQ fdB : FuncData} {k : Nat} (F : Fun K "_law_read" "_law_read" st_read f fd) (D_quoted : Df K mg "_law_quoted" st_quoted ["_law_text_here", "_law_at"] fQ fdQ) (D_bare : Df K mg "_law_bare" st_bare ["_law_text_here", "_law_at"] fB fdB) (m_len : mg "len" = none) :
    FnOk P w K mg base CX0 (k + 2) f fd ["_law_text_here"] spRead := by
  have G_quoted : FnOk P w K mg base CX0 (k + 1) fQ fdQ ["_law_text_here", "_law_at"] (spQuoted K) := ok_quoted D_quoted.F m_len
  have G_bare : FnOk P w K mg base CX0 (k + 1) fB fdB ["_law_text_here", "_law_at"] (spBare K) := ok_bare D_bare.F m_len
  refine F.ok sc_read (fun vs H Q E h => ?_) (fun cdv A outer s H vs Q E hr h => ?_)
  · obtain ⟨z, rfl, _⟩ := h
    rfl
  · obtain ⟨z, rfl, hz, qn, qs⟩ := h
    have hzl : z.length ≤ sizeLine := Nat.le_of_lt (small1000 (by omega))
    have ez := TL.len_tl z
    have te : tl (Str.ofString "") = [] := by decide +kernel
    have tq : tl (Str.ofString "'") = [39] := by decide +kernel
    have tb : tl (Str.ofString " ") = [32] := by decide +kernel
    refine ⟨_, pss_cons (ps_set (i := 1) sc_read.nd rfl (.inl rfl) (pe_lst pa_nil))
      (pss_cons (ps_set (i := 2) sc_read.nd rfl (.inl rfl) pe_int)
      (pss_cons (ps_set (i := 3) sc_read.nd rfl (.inl rfl) (pe_cmpR op_ne (pv 0) pe_str (nomark _)))
      (pss_cons (ps_while PassesOwn.never (pt_val (pv 3)) (pss_cons (ps_if (pt_cmpR op_eq (pe_slice sl_str (pv 0) (po_some (pv 2)) (po_some (pe_op op_add (pv 2) pe_int))) pe_str (nomark _)) (pss_cons (ps_asg (pe_call G_quoted hr (by rfl) D_quoted.g D_quoted.F.kp D_quoted.b .nil pass0 (pa_cons (pv 0) (pa_cons (pe_op op_add (pv 2) pe_int) pa_nil))) (pg_tup rfl (pgs_cons (pg_name (i := 4) sc_read.nd rfl (Or.inl rfl)) (pgs_cons (pg_name (i := 2) sc_read.nd rfl (Or.inl rfl)) pgs_nil))))
      (pss_one (ps_if (PW.pt (pw_or (pt_cmpR op_isN (pv 4) pe_non (nomark _)) (pw_or1 (PW.pt (pw_and (pt_cmpR op_ne (pv 4) pe_str (nomark _)) (pw_and (pt_cmpR op_notIn_sign pe_str (pv 4) (by rfl)) (pw_and1 (pt_cmpR op_notIn_sign pe_str (pv 4) (by rfl))))))))) (pss_one (ps_ret pe_non)) pss_nil))) (pss_cons (ps_asg (pe_call G_bare hr (by rfl) D_bare.g D_bare.F.kp D_bare.b .nil pass0 (pa_cons (pv 0) (pa_cons (pv 2) pa_nil))) (pg_tup rfl (pgs_cons (pg_name (i := 4) sc_read.nd rfl (Or.inl rfl)) (pgs_cons (pg_name (i := 2) sc_read.nd rfl (Or.inl rfl)) pgs_nil))))
      (pss_one (ps_if (pt_cmpR op_eq (pv 4) pe_str (nomark _)) (pss_one (ps_ret pe_non)) pss_nil))))
      (pss_cons (ps_expr (pe_bm PySem.F.plainAttrs_list PySem.F.slot_list_append PySem.F.type_list_append mt_append (pv 1) (pa_cons (pv 4) pa_nil)))
      (pss_cons (ps_set (i := 3) sc_read.nd rfl (.inl rfl) (pe_cmpR op_lt (pv 2) (pe_callB call_len_str (by rfl) m_len PySem.boot_len (pa_cons (pv 0) pa_nil)) (nomark _)))
      (pss_cons (ps_if (PW.pt (pw_and (pt_val (pv 3)) (pw_and1 (pt_cmpR op_ne (pe_ix ix_str (pv 0) (pv 2) (fun _ _ => rfl)) pe_str (nomark _))))) (pss_one (ps_ret pe_non)) pss_nil)
      (pss_one (ps_aug (i := 2) sc_read.nd rfl (.inl rfl) pe_int ip_add)))))))
      (pss_one (ps_ret (pv 1)))))), ?_⟩
    refine ⟨Nat.zero_le _, fun l nl => ?_⟩
    have s1' : Same H (upd H l (.lst ([] : List V))) := same_upd nl
    have e1' : (upd H l (.lst ([] : List V))) l = some (.lst (([] : List Str).map V.str)) := upd_same
    revert s1' e1'
    generalize upd H l (.lst ([] : List V)) = H1
    intro s1 e1
    refine ⟨.str z, rfl, rfl, ?_⟩
    refine ⟨fun m σ H' => Same H H' ∧ ∃ (n : Nat) (ys : List Str) (op : Bool) (x4 : Option V), H' l = some (.lst (ys.map V.str)) ∧ ys.length ≤ n ∧ n ≤ z.length + 1 ∧ m = (if op then z.length + 2 - n else 0) ∧ σ = [some (.str z), some (.ref l), some (.int (n : Int)), some (.bl op), x4] ∧ (op = true → n ≤ z.length ∧ rdT (tl z) = (rd (z.length + 1 - ys.length) ((tl z).drop n)).map (ys.map tl ++ ·)) ∧ (op = false → rdT (tl z) = some (ys.map tl)), ?_, ?_⟩
    · refine ⟨_, s1, 0, [], _, none, e1, Nat.zero_le _, Nat.zero_le _, rfl, rfl, fun ho => ⟨Nat.zero_le _, ?_⟩, fun ho => ?_⟩
      · have hne : tl z ≠ [] := fun h => by
          rw [str_ext (show tl z = tl (Str.ofString "") from by rw [h, te]), decide_eq_true rfl] at ho
          cases ho
        unfold rdT
        rw [if_neg hne, List.drop_zero, ← ez]
        show rd (z.length + 1) (tl z) = (rd (z.length + 1) (tl z)).map ([] ++ ·)
        cases rd (z.length + 1) (tl z) with
        | none => rfl
        | some x => rfl
      · have hez : tl z = [] := by
          by_cases h : z = Str.ofString ""
          · rw [h, te]
          · rw [decide_eq_false (fun k => h (V.str.inj k))] at ho
            cases ho
        unfold rdT
        rw [if_pos hez]
        rfl
    · rintro m σ H2 ⟨s2, n, ys, op, x4, el, hyn, hn, rfl, rfl, hop, hcl⟩
      refine ⟨_, rfl, _, rfl, ite2 (fun e => ?_) (fun e => ?_)⟩
      · subst e
        obtain ⟨hnl, hrd⟩ := hop rfl
        obtain ⟨f1, hf1⟩ : ∃ f1, z.length + 1 - ys.length = f1 + 1 := ⟨z.length - ys.length, by omega⟩
        rw [hf1] at hrd
        refine ⟨fun σ' H' => ∃ m', m' < z.length + 2 - n ∧ (Same H H' ∧ ∃ (n : Nat) (ys : List Str) (op : Bool) (x4 : Option V), H' l = some (.lst (ys.map V.str)) ∧ ys.length ≤ n ∧ n ≤ z.length + 1 ∧ m' = (if op then z.length + 2 - n else 0) ∧ σ' = [some (.str z), some (.ref l), some (.int (n : Int)), some (.bl op), x4] ∧ (op = true → n ≤ z.length ∧ rdT (tl z) = (rd (z.length + 1 - ys.length) ((tl z).drop n)).map (ys.map tl ++ ·)) ∧ (op = false → rdT (tl z) = some (ys.map tl))), fun σ' H' h => h, ?_⟩
        have ect := tl_cut1 z n
        dsimp only [tSeq]
        refine ts_gen2 (t := tIfS _ _ _) (fun σ' H' => Same H2 H' ∧ ∃ (b : Nat) (y : Str), n ≤ b ∧ b ≤ z.length ∧ rd1 ((tl z).drop n) = some (tl y, (tl z).drop b) ∧ σ' = [some (.str z), some (.ref l), some (.int (b : Int)), some (.bl true), some (.str y)]) (fun κ krt kc => ?_) ?_
        · have out : rd1 ((tl z).drop n) = none → ∀ H', Same H2 H' → κ.rt .non H' := fun h H' sm => by
            rw [krt]
            refine qn ?_ H' (s2.trans sm)
            rw [hrd]
            show ((rd1 ((tl z).drop n)).bind _).map _ = none
            rw [h]
            rfl
          refine ⟨.str z, rfl, .int (n : Int), rfl, _, rfl, .int (n : Int), rfl, (n : Int), 1, rfl, rfl, _, rfl, z, rfl, hzl, rfl, _, rfl, ite2 (fun e => ?_) (fun e => ?_)⟩
          · have e4 : ((tl z).drop n).take 1 = [39] := by
              rw [← ect]
              exact (congrArg tl (V.str.inj (of_decide_eq_true e))).trans tq
            have hlt : n < z.length := by
              by_cases h : n < z.length
              · exact h
              · rw [List.drop_eq_nil_of_le (by omega)] at e4
                cases e4
            have ed : ((tl z).drop n).drop 1 = (tl z).drop (n + 1) := List.drop_drop
            refine ⟨.str z, rfl, .int (n : Int), rfl, (n : Int), 1, rfl, rfl, z, n + 1, rfl, hz, by omega, fun H3 p s3 np hQ => ?_⟩
            cases hq : qd ((tl z).drop (n + 1)) with
            | none =>
              rw [hq] at hQ
              obtain ⟨b, hp, hb⟩ := hQ
              refine ⟨p, _, rfl, hp, rfl, _, _, rfl, _, _, rfl, rfl, ?_⟩
              refine ⟨.non, rfl, rfl, _, rfl, ?_⟩
              rw [decide_eq_true rfl]
              refine out ?_ _ s3
              unfold rd1
              rw [if_pos e4, ed, hq]
              rfl
            | some x =>
              rw [hq] at hQ
              obtain ⟨y, b, hp, ty, hb, hrr, hyl⟩ := hQ
              obtain ⟨hs, _⟩ := qd_sound (w := x.1) (r := x.2) hq
              have hnb : n ≤ b := by
                have h1 := congrArg List.length hs
                have h2 := congrArg List.length hrr
                rw [List.length_drop, List.length_append, List.length_cons] at h1
                rw [List.length_drop] at h2
                omega
              have go1 : needq (tl y) = true → κ.nx [some (.str z), some (.ref l), some (.int (b : Int)), some (.bl true), some (.str y)] H3 := fun h => kc _ _ ⟨s3, b, y, hnb, hb, by
                unfold rd1
                rw [if_pos e4, ed, hq]
                show (if needq x.1 = true then some x else none) = _
                rw [← ty, if_pos h, ty, hrr], rfl⟩
              have go2 : needq (tl y) = false → κ.rt .non H3 := fun h => out (by
                unfold rd1
                rw [if_pos e4, ed, hq]
                show (if needq x.1 = true then some x else none) = _
                rw [← ty, h]
                rfl) _ s3
              refine ⟨p, _, rfl, hp, rfl, _, _, rfl, _, _, rfl, rfl, ?_⟩
              refine ⟨.str y, rfl, rfl, _, rfl, ?_⟩
              rw [decide_eq_false (show ¬ V.str y = V.non from fun h => by cases h)]
              unfold needq at go1 go2
              refine ⟨.str y, rfl, rfl, _, rfl, ite2 (fun e5 => ?_) (fun e5 => ?_)⟩
              · have h0 : tl y ≠ [] := fun h => by
                  rw [str_ext (show tl y = tl (Str.ofString "") from by rw [h, te]), decide_eq_true rfl] at e5
                  cases e5
                rw [decide_eq_false h0, Bool.false_or] at go1 go2
                refine ⟨.str y, rfl, 32, y, congrArg V.str (by decide +kernel), rfl, _, rfl, ite2 (fun e6 => ?_) (fun e6 => ?_)⟩
                · have h32 : 32 ∉ tl y := fun h => by
                    have e6' : (!decide (32 ∈ tl y)) = true := e6
                    rw [decide_eq_true h] at e6'
                    cases e6'
                  rw [decide_eq_false h32, Bool.false_or] at go1 go2
                  refine ⟨.str y, rfl, 39, y, congrArg V.str (by decide +kernel), rfl, _, rfl, ite2 (fun e7 => ?_) (fun e7 => ?_)⟩
                  · have h39 : 39 ∉ tl y := fun h => by
                      have e7' : (!decide (39 ∈ tl y)) = true := e7
                      rw [decide_eq_true h] at e7'
                      cases e7'
                    exact go2 (decide_eq_false h39)
                  · have h39 : 39 ∈ tl y := by
                      by_cases h : 39 ∈ tl y
                      · exact h
                      · exact absurd (show (!decide (39 ∈ tl y)) = true from by rw [decide_eq_false h]; rfl) e7
                    exact go1 (decide_eq_true h39)
                · have h32 : 32 ∈ tl y := by
                    by_cases h : 32 ∈ tl y
                    · exact h
                    · exact absurd (show (!decide (32 ∈ tl y)) = true from by rw [decide_eq_false h]; rfl) e6
                  rw [decide_eq_true h32] at go1
                  exact go1 rfl
              · have h0 : tl y = [] := by
                  by_cases h : V.str y = V.str (Str.ofString "")
                  · rw [V.str.inj h, te]
                  · exact absurd (by rw [decide_eq_false h]; rfl) e5
                rw [decide_eq_true h0] at go1
                exact go1 rfl
          · have e4 : ((tl z).drop n).take 1 ≠ [39] := fun h => e (decide_eq_true (by
              rw [str_ext (show tl (cutS z (some (n : Int)) (some ((n : Int) + 1))) = tl (Str.ofString "'") from by rw [tq, ← h]; exact ect)]))
            refine ⟨.str z, rfl, .int (n : Int), rfl, z, n, rfl, hz, by omega, fun H3 p y b s3 np hp ty hb hrr hle => ?_⟩
            obtain ⟨hbl, hyl⟩ := hle hnl
            refine ⟨p, _, rfl, hp, rfl, _, _, rfl, _, _, rfl, rfl, ?_⟩
            refine ⟨.str y, rfl, rfl, _, rfl, ite2 (fun e5 => ?_) (fun e5 => ?_)⟩
            · refine out ?_ _ s3
              unfold rd1
              rw [if_neg e4, ← ty, if_pos (by rw [V.str.inj (of_decide_eq_true e5), te])]
            · have h0 : tl y ≠ [] := fun h => e5 (decide_eq_true (congrArg V.str (str_ext (by rw [h, te]))))
              refine kc _ _ ⟨s3, b, y, ?_, hbl, ?_, rfl⟩
              · have h1 := (List.dropWhile_sublist (l := (tl z).drop n) bs).length_le
                rw [← hrr, List.length_drop, List.length_drop] at h1
                omega
              · unfold rd1
                rw [if_neg e4, ← ty, if_neg h0, ← hrr]
        · rintro σ' H3 ⟨s3, b, y, hnb, hbl, h1, rfl⟩
          have el3 := s3 _ _ el
          have hrd2 : rdT (tl z) = (match (tl z).drop b with
            | [] => some [tl y]
            | c :: r => if c = 32 then (rd f1 r).map (tl y :: ·) else none).map (ys.map tl ++ ·) := by
            rw [hrd]
            show ((rd1 ((tl z).drop n)).bind _).map _ = _
            rw [h1]
            rfl
          refine ⟨.ref l, rfl, .inl ⟨rfl, _, SqL.of el3⟩, .str y, rfl, l, _, _, rfl, rfl, el3, by rw [List.length_map]; exact small1000 (by omega), ?_⟩
          refine goU fun H4 b4 e4 => ?_
          have S4 : Same H H4 := fun x o e => b4 x o (ne_of_none e nl) ((s2.trans s3) x o e)
          have el4 : H4 l = some (.lst ((ys ++ [y]).map V.str)) := by
            rw [e4, List.map_append]
            rfl
          refine ⟨.int (b : Int), rfl, .str z, rfl, z, rfl, hzl, _, _, rfl, rfl, ?_⟩
          refine ⟨_, rfl, _, rfl, ite2 (fun e => ?_) (fun e => ?_)⟩
          · have hlt : b < z.length := by
              have := of_decide_eq_true e
              omega
            have hlt' : b < (tl z).length := by omega
            have hd := drop_at hlt'
            have hat : atI z.cps.toList (b : Int) = some ((tl z)[b]) := atI_nat (List.getElem?_eq_getElem hlt')
            generalize (tl z)[b] = c at hd hat
            rw [hd] at hrd2
            have hrd3 : rdT (tl z) = (if c = 32 then (rd f1 ((tl z).drop (b + 1))).map (tl y :: ·) else none).map (ys.map tl ++ ·) := hrd2
            refine ⟨.str z, rfl, .int (b : Int), rfl, z, (b : Int), c, rfl, rfl, hzl, hat, rfl, _, rfl, ite2 (fun e5 => ?_) (fun e5 => ?_)⟩
            · have hc : c ≠ 32 := fun h => by
                rw [h, show Str.ofString " " = (⟨#[32]⟩ : Str) from by decide +kernel, decide_eq_true rfl] at e5
                cases e5
              rw [if_neg hc] at hrd3
              exact qn hrd3 _ S4
            · have hc : c = 32 := by
                by_cases ec : c = 32
                · exact ec
                · refine absurd ?_ e5
                  rw [show Str.ofString " " = (⟨#[32]⟩ : Str) from by decide +kernel, decide_eq_false (fun h => ec (List.cons.inj (show [c] = [32] from congrArg tl (V.str.inj h))).1)]
                  rfl
              rw [if_pos hc] at hrd3
              refine ⟨.int (b : Int), rfl, (b : Int), 1, rfl, rfl, z.length + 2 - (b + 1), by omega, S4, b + 1, ys ++ [y], true, some (.str y), el4, ?_, by omega, rfl, ?_, fun _ => ⟨by omega, ?_⟩, fun h => by cases h⟩
              · rw [List.length_append]
                show ys.length + 1 ≤ b + 1
                omega
              · exact congrArg (fun d => [some (V.str z), some (V.ref l), some (V.int ((b + 1 : Nat) : Int)), some (V.bl d), some (V.str y)]) e
              · have ef : z.length + 1 - (ys ++ [y]).length = f1 := by
                  rw [List.length_append]
                  show z.length + 1 - (ys.length + 1) = f1
                  omega
                rw [hrd3, ef, List.map_append]
                cases rd f1 ((tl z).drop (b + 1)) with
                | none => rfl
                | some x => simp
          · have hb2 : b = z.length := by
              have : ¬ ((b : Int) < (z.length : Int)) := fun h => e (decide_eq_true h)
              omega
            have ed : (tl z).drop b = [] := List.drop_eq_nil_of_le (by omega)
            rw [ed] at hrd2
            refine ⟨.int (b : Int), rfl, (b : Int), 1, rfl, rfl, 0, by omega, S4, b + 1, ys ++ [y], false, some (.str y), el4, ?_, by omega, rfl, ?_, fun h => (by cases h), fun _ => ?_⟩
            · rw [List.length_append]
              show ys.length + 1 ≤ b + 1
              omega
            · exact congrArg (fun d => [some (V.str z), some (V.ref l), some (V.int ((b + 1 : Nat) : Int)), some (V.bl d), some (V.str y)]) (show decide ((b : Int) < (z.length : Int)) = false from decide_eq_false (by omega))
            · rw [hrd2, List.map_append]
              rfl
      · have eo : op = false := by
          cases op with
          | true => exact absurd rfl e
          | false => rfl
        exact ⟨_, rfl, qs ys l _ (hcl eo) s2 nl el⟩
end
end WB

set_option Elab.async false
set_option linter.all false
set_option maxRecDepth 100000
set_option maxHeartbeats 4000000
namespace WB
open PySem PySem.Spec PyProof.Rows L2 CwR
open TL (tl)
/-! ### a def of which a token is out when its body begins -/
section
variable {X : Cx}
theorem nox_tok {ss : List Stmt} {t : TS} (b : PSsT X.nox ss t) : PSsT X ss t := fun ps st0 sl hp ends tok inv want =>
  wpAny_mono (b ps st0 sl hp ends tok (inv.wish _) want) (fun _ _ got => got.unwish) fun _ _ no => no.elim
theorem set_tok {i : Nat} {nm : Str} {ex : Expr} {te : TE} {p1 p2 : Pos} (nodup : X.N.Nodup) (at_ : X.N[i]? = some nm) (loc : Loc X.env.scope nm) (val : PET X ex te) (hs : swapsWith ex (some (.Name nm p1)) p2.line X.env = pure false := by rfl)
    (hf : X.fn nm = true ∨ X.env.scope.names.lookup nm = some .local := by first | exact .inl rfl | exact .inr rfl | assumption) : PST X (.Assign [.Name nm p1] ex p2) (tAsg te (gName i)) := fun ps st0 sl hp _ tok inv want =>
  wpAny_Assign_Name (thn (val ps st0 sl hp _ tok inv want) fun _ _ ⟨_, hp1, inv1, rel, go⟩ => store_ok inv1 nodup at_ loc rel (fun _ inv2 => ⟨_, hp1, inv2, go⟩) hf) hs
end
section
variable {P : Program} {w : World} {K : PySem.W.Frag} {mg : Str → Option Value} {base : Heap}
theorem ok_tok {nm qual : Str} {st : Stmt} {f : Addr} {fd : FuncData} {N ps : List Str} {k : Nat} {sp : Sp} (F : Fun K nm qual st f fd) (S : FnScope N ps (defScope st)) (nocell : ∀ y ∈ (defScope st).names, y.2 ≠ .cell) (some1 : 1 ≤ ps.length)
    (len : ∀ vs H Q E, sp vs H Q E → vs.length = ps.length)
    (body : ∀ (cdv : Value) (A : Around) (outer : List Env) (s : Shared) (H : Hp) (vs : List V) (Q : VK) (E : XK), Room k (A.deeper (envOfC qual (defScope st) s.heap.objs.size f cdv)) → sp vs H Q E →
      ∃ t, PSsT (cxOf CX0 P w K mg base N qual (defScope st) f cdv A outer s H E).nox (defBody st) t ∧ t { nx := fun _ H' => Q .non H', rt := Q } (start N vs) H) : FnOk P w K mg base CX0 (k + 1) f fd ps sp := by
  obtain ⟨a1, a2, a3, a4, a5, a6, cdv, a8, a9, rfl, look, code⟩ := F.ex
  exact fn_ofT look code S nocell some1 len fun A outer s H vs Q E room ask => let ⟨t, b, q⟩ := body cdv A outer s H vs Q E room ask; ⟨t, nox_tok b, q⟩
end
/-! ### enumerate of a text -/
/-- the signs of a text, each with its number in a new pair -/
def ItES (z : Str) : It :=
  ⟨fun i _ => i < z.cps.size, fun i H v H' => ∃ T c, v = .ref T ∧ H T = none ∧ H' = upd H T (.tup [.int (i : Nat), .str ⟨#[c]⟩]) ∧ z.cps[i]? = some c, fun i _ => i = z.cps.size⟩
theorem draws_str {P : Program} {w : World} {A : Around} (hh : A.handled = none) (it : Addr) (z : Str) (t : Tok) : Draws P w A it [it] z.cps.size (fun i v => ∃ c u, z.cps[i]? = some c ∧ v = .str ⟨#[c]⟩ u) (fun i h => h.IsStrIter it (strIterType z) z t i) := by
  unfold strIterType
  cases z.cps.all (· < 128) with
  | true => exact Draws.strAscii hh it z t
  | false => exact Draws.strWide hh it z t
theorem turn_ES {P : Program} {w : World} {K : PySem.W.Frag} {elts : List Expr} {kk : Nat} {tpos : Pos} (z : Str) (t : Tok) (e it : Addr) :
    Turn P w K (.Tuple elts kk tpos) (ItES z) [e, it] e (fun i h => (∃ old, IsEnum h e it ((i : Nat) : Int) old) ∧ h.IsStrIter it (strIterType z) z t i ∧ e ≠ it) where
  mem := List.mem_cons_self
  obj := by
    rintro i h ⟨⟨old, en⟩, ⟨ob, look, cl, dat⟩, ne⟩ b hb
    rcases List.mem_cons.mp hb with r | r
    · subst r
      exact ⟨_, en, fun v q => by cases q⟩
    · rw [List.mem_singleton.mp r]
      exact ⟨ob, look, fun v q => by rw [dat] at q; cases q⟩
  keep := by
    rintro i h h' ⟨⟨old, en⟩, ⟨ob, look, rest⟩, ne⟩ k
    exact ⟨⟨old, k e List.mem_cons_self _ en⟩, ⟨ob, k it (List.mem_cons_of_mem _ List.mem_cons_self) _ look, rest⟩, ne⟩
  item := by
    intro X hP hw hK hc i pins s σ H E I hf st hg
    subst hP hw hK
    obtain ⟨⟨old, en⟩, si, ne⟩ := st
    have le : e < s.heap.objs.size := Heap.lt_size en
    have li : it < s.heap.objs.size := by
      obtain ⟨_, look, _⟩ := si
      exact Heap.lt_size look
    have D := draws_str (P := X.prog) (w := X.w) (A := X.A.in1) (I.ok.hd hc) it z t
    refine wpAny_pyNext_enum_itemD D en si hg ne (by intro m; rw [List.mem_singleton] at m; exact ne m) fun x h' tk px out si' tup size kept => ?_
    obtain ⟨c, u, hcx, rfl⟩ := px
    refine ⟨_, rfl, wpAny_letOwnedTupleGo_enum (s := { s with heap := h', toks := tk + 1 }) out fun h2 en2 sb => ?_⟩
    have tup2 : h2.get? s.heap.objs.size = some { cls := .type "tuple", data := .seq #[.int i tk, .str ⟨#[c]⟩ u] } := (sb.2 _ (Nat.ne_of_gt le)).trans tup
    have ob : ObjOk X.prog X.w (upd H s.heap.objs.size (.tup [.int (i : Nat), .str ⟨#[c]⟩])) h2 s.heap.objs.size (.tup [.int (i : Nat), .str ⟨#[c]⟩]) :=
      ⟨(by decide : 2 ≤ sizeLine), [.int i tk, .str ⟨#[c]⟩ u], .cons ⟨_, rfl⟩ (.cons ⟨_, rfl⟩ .nil), ⟨_, tup2, rfl, _, rfl⟩⟩
    have I1 : Inv X pins σ (upd H s.heap.objs.size (.tup [.int (i : Nat), .str ⟨#[c]⟩])) { s with heap := h2, toks := tk + 1 } :=
      I.turnedNew (ch := [e, it]) (fun b o' hb q => (sb.2 b (fun r => hb (by rw [r]; exact List.mem_cons_self))).trans (kept b o' (fun r => hb (by rw [r]; exact List.mem_cons_self)) (fun r => hb (by rw [r]; exact List.mem_cons_of_mem _ List.mem_cons_self)) q)) hf (Nat.le_refl _) ob
    have e1 : ((i + 1 : Nat) : Int) = (i : Int) + 1 := by omega
    obtain ⟨oi, look, rest⟩ := si'
    refine ⟨.ref s.heap.objs.size, _, I1, rfl, ⟨_, c, rfl, I.hok.fresh (Nat.le_refl _), rfl, hcx⟩, ⟨⟨.str ⟨#[c]⟩ u, by rw [e1]; exact en2⟩, ⟨oi, (sb.2 it ne.symm).trans look, rest⟩, ne⟩, fun b hb => ?_⟩
    have lb : b < s.heap.objs.size := by
      rcases List.mem_cons.mp hb with r | r
      · rw [r]
        exact le
      · rw [List.mem_singleton.mp r]
        exact li
    rw [upd_ne (Nat.ne_of_lt lb)]
    exact (hf b hb).1
  done := by
    intro X hP hw hK hc i pins s σ H E I hf st hg
    subst hP hw hK
    obtain ⟨⟨old, en⟩, si, ne⟩ := st
    have hi : i = z.cps.size := hg
    subst hi
    obtain ⟨f0, f1, f2, f3, f4, f5⟩ := hf it (List.mem_cons_of_mem _ List.mem_cons_self)
    exact wpAny_pyNext_enum_endD (draws_str (P := X.prog) (w := X.w) (A := X.A.in1) (I.ok.hd hc) it z t) en si fun h' eb => ⟨rfl, I.turned (t' := s.toks) (fun b o hb q => eb b o hb q) f0 f1 f3 f4 f5⟩
  self := fun A i s Q E st h => let ⟨⟨_, en⟩, _⟩ := st; wpAny_pyIter_enum en h
def iES (ta : TA) : TI := fun σ H R => ta σ H fun vs H1 => ∃ z : Str, vs = [.str z] ∧ R (ItES z) H1
theorem pi_ES {X : Cx} {e : Expr} {ta : TA} {p pos tpos : Pos} {elts : List Expr} {kk : Nat} (glob : Gl X "enumerate") (free : X.mg "enumerate" = none) (arg : PA X [e] ta) (hs : starEach [e] X.env = [(false, eval e X.env)] := by rfl) :
    PI X (.Tuple elts kk tpos) (.Call (.Name "enumerate" p) [e] [] pos) (iES ta) := by
  refine ⟨fun pins s σ H R I ask => ?_⟩
  refine Call_ (ld_blt I glob free boot_enumerate (PyProof.Rows.callWith_type1 (thn (arg.run pos pins s σ H _ I ask) fun us s1 ⟨vs, H1, I1, r1, q1⟩ => ?_) hs rfl))
  obtain ⟨z, rfl, q⟩ := q1
  cases r1 with
  | cons r rr =>
    cases rr
    obtain ⟨t, rfl⟩ := r
    refine call_enumerate_str fun h' en si size kept => wpAny_pyIter_enum en ?_
    have I2 : Inv X pins σ H1 { s1 with heap := h' } := I1.kept (t' := s1.toks) kept
    refine ⟨s1.heap.objs.size + 1, [s1.heap.objs.size + 1, s1.heap.objs.size], _, _, H1, rfl, I2, turn_ES z t (s1.heap.objs.size + 1) s1.heap.objs.size, ⟨⟨.none, en⟩, si, Nat.succ_ne_self _⟩, fun b hb => ?_, q⟩
    have hle : s1.heap.objs.size ≤ b := by
      rcases List.mem_cons.mp hb with r | r
      · rw [r]
        exact Nat.le_succ _
      · rw [List.mem_singleton.mp r]
        exact Nat.le_refl _
    exact I1.fpOk hle (I1.hok.fresh hle)
theorem walk_ES {z : Str} : Walk (ItES z) z.cps.size (fun _ => True) (YPair (fun i => some (.int (i : Nat))) (fun i => (tl z)[i]?.map fun c => V.str ⟨#[c]⟩)) := by
  refine ⟨fun _ _ hi _ => hi, fun _ _ => rfl, fun i H v H' _ _ y => ?_⟩
  obtain ⟨T, c, h1, h2, h3, h4⟩ := y
  refine ⟨T, .int (i : Nat), .str ⟨#[c]⟩, h1, h2, h3, rfl, ?_⟩
  have e : (tl z)[i]? = some c := by
    rw [← h4]
    exact Array.getElem?_toList
  show ((tl z)[i]?.map fun c => V.str ⟨#[c]⟩) = _
  rw [e]
  rfl
end WB

set_option Elab.async false
set_option linter.all false
set_option maxRecDepth 100000
set_option maxHeartbeats 4000000
namespace WB
open PySem PySem.Spec PyProof.Rows L2
open TL (tl)
/-! ### the mathematics: a row's text cut between its words -/
def cutW : List Nat → Bool → List Nat → List (List Nat)
  | [], _, cur => [cur]
  | c :: r, q, cur => if c = 39 then cutW r (!q) (cur ++ [c]) else if c = 32 ∧ q = false then cur :: cutW r q [] else cutW r q (cur ++ [c])
theorem cutW_plain : ∀ (cs rest : List Nat) (cur : List Nat), 32 ∉ cs → 39 ∉ cs → cutW (cs ++ rest) false cur = cutW rest false (cur ++ cs)
  | [], rest, cur, _, _ => by rw [List.nil_append, List.append_nil]
  | c :: r, rest, cur, h1, h2 => by
    have c1 : c ≠ 32 := fun e => h1 (by rw [e]; exact List.mem_cons_self)
    have c2 : c ≠ 39 := fun e => h2 (by rw [e]; exact List.mem_cons_self)
    rw [List.cons_append]
    show (if c = 39 then _ else if c = 32 ∧ false = false then _ else cutW (r ++ rest) false (cur ++ [c])) = _
    rw [if_neg c2, if_neg (fun h => c1 h.1), cutW_plain r rest _ (fun h => h1 (List.mem_cons_of_mem _ h)) (fun h => h2 (List.mem_cons_of_mem _ h)), List.append_assoc]
    rfl
theorem cutW_dbl : ∀ (cs rest : List Nat) (cur : List Nat), cutW (dblq cs ++ rest) true cur = cutW rest true (cur ++ dblq cs)
  | [], rest, cur => by
    show cutW ([] ++ rest) true cur = cutW rest true (cur ++ [])
    rw [List.nil_append, List.append_nil]
  | c :: r, rest, cur => by
    have e : dblq (c :: r) = (if c = 39 then [39, 39] else [c]) ++ dblq r := rfl
    rw [e]
    by_cases h : c = 39
    · rw [if_pos h, List.append_assoc]
      show cutW (39 :: 39 :: (dblq r ++ rest)) true cur = _
      have s1 : cutW (39 :: 39 :: (dblq r ++ rest)) true cur = cutW (dblq r ++ rest) true (cur ++ [39] ++ [39]) := rfl
      rw [s1, cutW_dbl r rest]
      simp [List.append_assoc]
    · rw [if_neg h, List.append_assoc]
      show (if c = 39 then _ else if c = 32 ∧ true = false then _ else cutW (dblq r ++ rest) true (cur ++ [c])) = _
      rw [if_neg h, if_neg (fun h => Bool.noConfusion h.2), cutW_dbl r rest]
      simp [List.append_assoc]
theorem needq_false {cs : List Nat} (h : needq cs = false) : cs ≠ [] ∧ 32 ∉ cs ∧ 39 ∉ cs := by
  unfold needq at h
  obtain ⟨h1, h2⟩ := Bool.or_eq_false_iff.mp h
  obtain ⟨h2, h3⟩ := Bool.or_eq_false_iff.mp h2
  exact ⟨of_decide_eq_false h1, of_decide_eq_false h2, of_decide_eq_false h3⟩
theorem cutW_wq (w rest cur : List Nat) : cutW (wq w ++ rest) false cur = cutW rest false (cur ++ wq w) := by
  unfold wq
  cases h : needq w with
  | false =>
    obtain ⟨_, h1, h2⟩ := needq_false h
    exact cutW_plain w rest cur h1 h2
  | true =>
    show cutW (39 :: (dblq w ++ [39] ++ rest)) false cur = _
    have s1 : cutW (39 :: (dblq w ++ [39] ++ rest)) false cur = cutW (dblq w ++ [39] ++ rest) true (cur ++ [39]) := rfl
    rw [s1, List.append_assoc, cutW_dbl w]
    have s2 : cutW ([39] ++ rest) true (cur ++ [39] ++ dblq w) = cutW rest false (cur ++ [39] ++ dblq w ++ [39]) := rfl
    rw [s2]
    simp [List.append_assoc]
theorem cutW_row : ∀ (w : List Nat) (ws : List (List Nat)), cutW (rowL (w :: ws)) false [] = (w :: ws).map wq
  | w, [] => by
    have e : rowL [w] = wq w ++ [] := by
      rw [List.append_nil]
      rfl
    rw [e, cutW_wq, List.nil_append]
    rfl
  | w, w2 :: r => by
    have e : rowL (w :: w2 :: r) = wq w ++ (32 :: rowL (w2 :: r)) := rfl
    rw [e, cutW_wq, List.nil_append]
    show wq w :: cutW (rowL (w2 :: r)) false [] = _
    rw [cutW_row w2 r]
    rfl
theorem wq_ne (w : List Nat) : wq w ≠ [] := by
  unfold wq
  cases h : needq w with
  | false => exact (needq_false h).1
  | true => exact fun c => nomatch c
theorem rowL_ne (w : List Nat) (ws : List (List Nat)) : rowL (w :: ws) ≠ [] := by
  cases ws with
  | nil => exact wq_ne w
  | cons a r =>
    intro h
    have e : rowL (w :: a :: r) = wq w ++ (32 :: rowL (a :: r)) := rfl
    rw [e] at h
    exact wq_ne w (List.append_eq_nil_iff.mp h).1
theorem rowL_len : ∀ ws : List (List Nat), (∀ w ∈ ws, w.length ≤ 60) → (rowL ws).length ≤ ws.length * 123
  | [], _ => Nat.zero_le _
  | [w], h => by
    have := wq_len (h w List.mem_cons_self)
    show (wq w).length ≤ 1 * 123
    omega
  | w :: a :: r, h => by
    have h1 := wq_len (h w List.mem_cons_self)
    have h2 := rowL_len (a :: r) fun x hx => h x (List.mem_cons_of_mem _ hx)
    have e : rowL (w :: a :: r) = wq w ++ (32 :: rowL (a :: r)) := rfl
    rw [e, List.length_append, List.length_cons, List.length_cons]
    omega
theorem dbl_back : ∀ cs : List Nat, StrLaws.replL [39, 39] [39] (dblq cs) = cs
  | [] => StrLaws.replL_nil
  | c :: r => by
    have e : dblq (c :: r) = (if c = 39 then [39, 39] else [c]) ++ dblq r := rfl
    rw [e]
    by_cases h : c = 39
    · rw [if_pos h]
      show StrLaws.replL [39, 39] [39] (39 :: (39 :: dblq r)) = _
      rw [StrLaws.replL_hit (by decide) rfl]
      show 39 :: StrLaws.replL [39, 39] [39] (dblq r) = _
      rw [dbl_back r, h]
    · rw [if_neg h]
      show StrLaws.replL [39, 39] [39] (c :: dblq r) = _
      have hm : ¬ (c :: dblq r).take [39, 39].length = [39, 39] := fun k => by
        have k' : c :: (dblq r).take 1 = [39, 39] := k
        exact h (List.cons.inj k').1
      rw [StrLaws.replL_miss hm, dbl_back r]
theorem dbl_is : ∀ cs : List Nat, StrLaws.replL [39] [39, 39] cs = dblq cs
  | [] => StrLaws.replL_nil
  | c :: r => by
    have e : dblq (c :: r) = (if c = 39 then [39, 39] else [c]) ++ dblq r := rfl
    rw [e]
    by_cases h : c = 39
    · rw [if_pos h, h, StrLaws.replL_hit (by decide) rfl]
      show [39, 39] ++ StrLaws.replL [39] [39, 39] r = _
      rw [dbl_is r]
    · have hm : ¬ (c :: r).take [39].length = [39] := fun k => by
        have k' : c :: r.take 0 = [39] := k
        exact h (List.cons.inj k').1
      rw [if_neg h, StrLaws.replL_miss hm, dbl_is r]
      rfl
/-- a text from b on up to k, b ≤ k -/
theorem tl_cut_mid (x : Str) {b k : Nat} (hb : b ≤ k) (hk : k ≤ x.length) : tl (cutS x (some (b : Int)) (some (k : Int))) = ((tl x).take k).drop b := by
  show ((((tl x).drop (HT.sIx x.length 0 (some (b : Int)))).take (HT.sIx x.length x.length (some (k : Int)) - HT.sIx x.length 0 (some (b : Int)))).toArray).toList = _
  rw [HT.sIx_nat, HT.sIx_nat]
  show ((tl x).drop (min b x.length)).take (min k x.length - min b x.length) = _
  rw [Nat.min_eq_left (show b ≤ x.length by omega), Nat.min_eq_left hk, List.drop_take]
/-- a text without its first and its last sign -/
theorem tl_cut_in (x : Str) (cs : List Nat) (h : tl x = 39 :: (cs ++ [39])) : tl (cutS x (some 1) (some (-1))) = cs := by
  have hl : x.length = cs.length + 2 := by
    rw [TL.len_tl, h, List.length_cons, List.length_append]
    rfl
  show ((((tl x).drop (HT.sIx x.length 0 (some 1))).take (HT.sIx x.length x.length (some (-1)) - HT.sIx x.length 0 (some 1))).toArray).toList = _
  have e1 : HT.sIx x.length 0 (some 1) = 1 := by
    have := HT.sIx_nat x.length 0 1
    rw [show ((1 : Nat) : Int) = (1 : Int) from rfl] at this
    rw [this]
    show min 1 x.length = 1
    omega
  have e2 : HT.sIx x.length x.length (some (-1)) = cs.length + 1 := by
    rw [hl]
    simp [HT.sIx]
    omega
  rw [e1, e2, h]
  show (cs ++ [39]).take (cs.length + 1 - 1) = _
  rw [Nat.add_sub_cancel, List.take_left]
end WB

set_option Elab.async false
set_option linter.all false
set_option maxRecDepth 100000
set_option maxHeartbeats 4000000
namespace WB
open PySem PySem.Spec PyProof.Rows L2 CwR
open TL (tl)
abbrev st_needs_quotes : Stmt := topS 13
theorem sc_needs_quotes : FnScope ["word"] ["word"] (defScope st_needs_quotes) := ⟨rfl, rfl, rfl, by decide +kernel, rfl, by decide +kernel, by decide +kernel⟩
abbrev st_word_text : Stmt := topS 14
theorem sc_word_text : FnScope ["word", "doubled"] ["word"] (defScope st_word_text) := ⟨rfl, rfl, rfl, by decide +kernel, rfl, by decide +kernel, by decide +kernel⟩
abbrev st_row_text : Stmt := topS 15
theorem sc_row_text : FnScope ["words", "word"] ["words"] (defScope st_row_text) := ⟨rfl, rfl, rfl, by decide +kernel, rfl, by decide +kernel, by decide +kernel⟩
section
variable {P : Program} {w : World} {K : PySem.W.Frag} {mg : Str → Option Value} {base : Heap}
def spNeeds : Sp := fun vs H Q _ => ∃ z : Str, vs = [.str z] ∧ Q (.bl (needq (tl z))) H
theorem ok_needs {f : Addr} {fd : FuncData} {k : Nat} (F : Fun K "needs_quotes" "needs_quotes" st_needs_quotes f fd) : FnOk P w K mg base CX0 (k + 1) f fd ["word"] spNeeds := by
  refine F.ok sc_needs_quotes (fun vs H Q E h => ?_) (fun cdv A outer s H vs Q E hr h => ?_)
  · obtain ⟨z, rfl, _⟩ := h
    rfl
  · obtain ⟨z, rfl, q⟩ := h
    refine ⟨_, pss_one (ps_ret (pe_or (pe_cmpR op_eq (pv 0) pe_str (nomark _)) (pe_or (pe_cmpR op_in_sign pe_str (pv 0) (by rfl)) (pe_one (pe_cmpR op_in_sign pe_str (pv 0) (by rfl)))))), ?_⟩
    have te : tl (Str.ofString "") = [] := by decide +kernel
    unfold needq at q
    refine ⟨_, rfl, rfl, _, rfl, ite2 (fun e => ?_) (fun e => ?_)⟩
    · have e' : z = Str.ofString "" := V.str.inj (of_decide_eq_true e)
      rw [e', te] at q
      exact q
    · have e' : tl z ≠ [] := fun h => e (decide_eq_true (congrArg V.str (str_ext (by rw [h, te]))))
      rw [decide_eq_false e', Bool.false_or] at q
      refine ⟨_, rfl, 32, z, congrArg V.str (by decide +kernel), rfl, _, rfl, ite2 (fun e => ?_) (fun e => ?_)⟩
      · have e2 : 32 ∈ tl z := of_decide_eq_true e
        rw [decide_eq_true e2] at q
        exact q
      · have e2 : 32 ∉ tl z := fun h => e (decide_eq_true h)
        rw [decide_eq_false e2, Bool.false_or] at q
        exact ⟨_, rfl, 39, z, congrArg V.str (by decide +kernel), rfl, q⟩
def spWordText : Sp := fun vs H Q _ => ∃ z : Str, vs = [.str z] ∧ z.length ≤ 900 ∧ ∀ y : Str, tl y = wq (tl z) → Q (.str y) H
def spRowText : Sp := fun vs H Q _ => ∃ (l : Addr) (ys : List Str), vs = [.ref l] ∧ H l = some (.lst (ys.map V.str)) ∧ ys.length ≤ 950 ∧ (∀ y ∈ ys, y.length ≤ 900) ∧ ∀ H' (z : Str), Same H H' → tl z = rowL (ys.map tl) → Q (.str z) H'
theorem wq_len2 (cs : List Nat) : (wq cs).length ≤ 2 * cs.length + 2 := by
  unfold wq
  split
  · rw [List.length_cons, List.length_append]
    have := dblq_len cs
    show _ + 1 + 1 ≤ _
    omega
  · omega
theorem ok_word_text {f fN : Addr} {fd fdN : FuncData} {k : Nat} (F : Fun K "word_text" "word_text" st_word_text f fd) (D_needs_quotes : Df K mg "needs_quotes" st_needs_quotes ["word"] fN fdN) : FnOk P w K mg base CX0 (k + 2) f fd ["word"] spWordText := by
  have G_needs_quotes : FnOk P w K mg base CX0 (k + 1) fN fdN ["word"] spNeeds := ok_needs D_needs_quotes.F
  refine ok_tok F sc_word_text (by decide +kernel) (by decide) (fun vs H Q E h => ?_) (fun cdv A outer s H vs Q E hr h => ?_)
  · obtain ⟨z, rfl, _⟩ := h
    rfl
  · obtain ⟨z, rfl, hz, q⟩ := h
    refine ⟨_, psst_cons (pst_if (pt_not (pt_val (pe_call G_needs_quotes hr (by rfl) D_needs_quotes.g D_needs_quotes.F.kp D_needs_quotes.b .nil pass0 (pa_cons (pv 0) pa_nil)))) (PSsT.of (pss_one (ps_ret (pv 0)))) (PSsT.of pss_nil))
      (psst_cons (set_tok (i := 1) sc_word_text.nd rfl (.inl rfl) (pet_replC (pv 0) (by decide +kernel)))
      (PSsT.of (pss_one (ps_ret (pe_joined (.cons pe_str (.cons (pe_fmt (pv 1)) (.cons pe_str .nil)))))))), ?_⟩
    have tq : tl (Str.ofString "'") = [39] := by decide +kernel
    have lq : (Str.ofString "'").length = 1 := by decide +kernel
    have tqq : tl (Str.ofString "''") = [39, 39] := by decide +kernel
    have lqq : (Str.ofString "''").length = 2 := by decide +kernel
    have ez := TL.len_tl z
    refine ⟨_, rfl, z, rfl, _, rfl, ?_⟩
    cases hn : needq (tl z) with
    | false =>
      refine ⟨_, rfl, q z ?_⟩
      unfold wq
      rw [hn]
      rfl
    | true =>
      have er : tl (Txt.replace z (Str.ofString "'") (Str.ofString "''")) = dblq (tl z) := by
        have h := StrLaws.replace_list (x := z) (y := Str.ofString "'") (z := Str.ofString "''") (by rw [lq]; exact Nat.le_refl 1)
        rw [show (Str.ofString "'").cps.toList = [39] from tq, show (Str.ofString "''").cps.toList = [39, 39] from tqq] at h
        exact h.trans (dbl_is (tl z))
      have hl := dblq_len (tl z)
      have lr : (Txt.replace z (Str.ofString "'") (Str.ofString "''")).length ≤ 1800 := by
        rw [TL.len_tl, er]
        omega
      refine ⟨_, rfl, z, rfl, ?_, ?_⟩
      · rw [lqq]
        omega
      generalize Txt.replace z (Str.ofString "'") (Str.ofString "''") = dd at er lr
      have le : (Str.empty ++ Str.ofString "'").length = 1 := by decide +kernel
      refine ⟨_, rfl, ?_, _, rfl, .inl ⟨dd, rfl, ?_, dd, rfl, ?_, _, rfl, ?_, q _ ?_⟩⟩
      · rw [le]
        decide
      · rw [sizeLine_eq]; omega
      · rw [Str.length_append, le]
        rw [sizeLine_eq]; omega
      · rw [Str.length_append, Str.length_append, le, lq]
        rw [sizeLine_eq]; omega
      · rw [TL.tl_append, TL.tl_append, TL.tl_append, er, tq]
        unfold wq
        rw [hn]
        rfl
theorem ok_row_text {f fN fW : Addr} {fd fdN fdW : FuncData} {k : Nat} (F : Fun K "row_text" "row_text" st_row_text f fd) (D_needs_quotes : Df K mg "needs_quotes" st_needs_quotes ["word"] fN fdN) (D_word_text : Df K mg "word_text" st_word_text ["word"] fW fdW) : FnOk P w K mg base CX0 (k + 3) f fd ["words"] spRowText := by
  have G_word_text : FnOk P w K mg base CX0 (k + 2) fW fdW ["word"] spWordText := ok_word_text D_word_text.F D_needs_quotes
  refine F.ok sc_row_text (fun vs H Q E h => ?_) (fun cdv A outer s H vs Q E hr h => ?_)
  · obtain ⟨l, ys, rfl, _⟩ := h
    rfl
  · obtain ⟨l, ys, rfl, el, ok1, ok2, q⟩ := h
    refine ⟨_, pss_one (ps_ret (pe_join pe_str (pe_lc (own := [("word", 1)]) (g := gName 1) (tt := tYes) rfl sc_row_text.nd (pi_list (pv 0)) (blkOk_by (N := ["words", "word"]) (sc := defScope st_row_text) (by decide +kernel)) (fun _ _ _ _ _ => (pg_name (i := 1) sc_row_text.nd rfl (Or.inl rfl))) (fun _ _ _ _ _ => pts_nil) (fun _ _ _ _ _ => (pe_call G_word_text hr (by rfl) D_word_text.g D_word_text.F.kp D_word_text.b .nil pass0 (pa_cons (pv 1) pa_nil)))))), ?_⟩
    have tb : tl (Str.ofString " ") = [32] := by decide +kernel
    have lb : (Str.ofString " ").length = 1 := by decide +kernel
    refine ⟨⟨_, rfl⟩, .ref l, rfl, l, rfl, ⟨_, SqL.of el⟩, fun D nD => ?_⟩
    refine lc_list (K := K) (a := l) (xs := ys.map V.str) (fun i Hc => Same H Hc ∧ ∃ us : List Str, Hc D = some (.lst (us.map V.str)) ∧ us.map tl = ((ys.take i).map tl).map wq) ⟨same_upd nD, [], upd_same, rfl⟩ (fun i Hc _ ⟨sc, _⟩ => SqL.of (sc _ _ el)) (fun i x Hc hx ⟨sc, us, eD, eu⟩ => ?_) (fun Hc ⟨sc, us, eD, eu⟩ => ?_)
    · rw [List.getElem?_map] at hx
      obtain ⟨z, ez, rfl⟩ := Option.map_eq_some_iff.mp hx
      have hz := ok2 z (List.mem_of_getElem? ez)
      have etk : ys.take (i + 1) = ys.take i ++ [z] := by
        rw [List.take_add_one, ez]
        rfl
      have elu : us.length ≤ 950 := by
        have h := congrArg List.length eu
        rw [List.length_map, List.length_map, List.length_map, List.length_take] at h
        omega
      refine ⟨rfl, .str z, rfl, z, rfl, hz, fun y hy => ⟨_, eD, ?_, ?_, us ++ [y], ?_, ?_⟩⟩
      · rw [List.length_map]
        exact small1000 (by omega)
      · intro b o e
        rw [upd_ne (ne_of_none e nD)]
        exact sc b o e
      · rw [upd_same, List.map_append]
        rfl
      · rw [etk, List.map_append, List.map_append, List.map_append, eu, List.map_cons, List.map_nil, hy]
        rfl
    · rw [List.length_map, List.take_length] at eu
      have elu : us.length = ys.length := by
        have h := congrArg List.length eu
        rw [List.length_map, List.length_map, List.length_map] at h
        exact h
      have hu : ∀ u ∈ us, Tq (fun _ => True) 1802 u := by
        intro u hu
        have h1 : tl u ∈ us.map tl := List.mem_map_of_mem hu
        rw [eu] at h1
        obtain ⟨cs, hcs, e⟩ := List.mem_map.mp h1
        obtain ⟨y, hy, rfl⟩ := List.mem_map.mp hcs
        refine ⟨?_, fun _ _ => True.intro⟩
        rw [TL.len_tl, ← e]
        have h1 := wq_len2 (tl y)
        have h2 := ok2 y hy
        have h3 := TL.len_tl y
        omega
      have es := sum_most 1802 us hu
      refine ⟨_, D, us, rfl, rfl, .inl (SqL.of eD), ?_, q _ _ sc ?_⟩
      · rw [lb]
        omega
      · rw [TL.join_eq, TL.tl_join, tb, eu]
        rfl
end
end WB

set_option Elab.async false
set_option linter.all false
set_option maxRecDepth 100000
set_option maxHeartbeats 4000000
namespace WB
open PySem PySem.Spec PyProof.Rows L2 CwR
open TL (tl)
abbrev st_cut_between_words : Stmt := topS 16
theorem sc_cut_between_words : FnScope ["text", "parts", "begin", "quoted", "at", "sign"] ["text"] (defScope st_cut_between_words) := ⟨rfl, rfl, rfl, by decide +kernel, rfl, by decide +kernel, by decide +kernel⟩
abbrev st_word_of : Stmt := topS 17
theorem sc_word_of : FnScope ["part"] ["part"] (defScope st_word_of) := ⟨rfl, rfl, rfl, by decide +kernel, rfl, by decide +kernel, by decide +kernel⟩
abbrev st_words_of : Stmt := topS 18
theorem sc_words_of : FnScope ["text", "words", "part"] ["text"] (defScope st_words_of) := ⟨rfl, rfl, rfl, by decide +kernel, rfl, by decide +kernel, by decide +kernel⟩
section
variable {P : Program} {w : World} {K : PySem.W.Frag} {mg : Str → Option Value} {base : Heap}
def spCut : Sp := fun vs H Q _ => ∃ z : Str, vs = [.str z] ∧ z.length ≤ 5000 ∧ ∀ H' o (ps : List Str), Same H H' → H o = none → H' o = some (.lst (ps.map V.str)) → ps.map tl = cutW (tl z) false [] → Q (.ref o) H'
theorem ok_cut {f : Addr} {fd : FuncData} {k : Nat} (F : Fun K "cut_between_words" "cut_between_words" st_cut_between_words f fd) (m_enumerate : mg "enumerate" = none) : FnOk P w K mg base CX0 (k + 1) f fd ["text"] spCut := by
  refine F.ok sc_cut_between_words (fun vs H Q E h => ?_) (fun cdv A outer s H vs Q E hr h => ?_)
  · obtain ⟨z, rfl, _⟩ := h
    rfl
  · obtain ⟨z, rfl, hz, q⟩ := h
    refine ⟨_, pss_cons (ps_set (i := 1) sc_cut_between_words.nd rfl (.inl rfl) (pe_lst pa_nil))
      (pss_cons (ps_set (i := 2) sc_cut_between_words.nd rfl (.inl rfl) pe_int)
      (pss_cons (ps_set (i := 3) sc_cut_between_words.nd rfl (.inl rfl) pe_bl)
      (pss_cons (ps_for PassesOwn.never rfl (pi_ES (by rfl) m_enumerate (pa_cons (pv 0) pa_nil)) (pg_tup rfl (pgs_cons (pg_name (i := 4) sc_cut_between_words.nd rfl (Or.inl rfl)) (pgs_cons (pg_name (i := 5) sc_cut_between_words.nd rfl (Or.inl rfl)) pgs_nil))) (pss_one (ps_if (pt_cmpR op_eq (pv 5) pe_str (nomark _)) (pss_one (ps_set (i := 3) sc_cut_between_words.nd rfl (.inl rfl) (pe_not (pv 3)))) (pss_one (ps_if (PW.pt (pw_and (pt_cmpR op_eq (pv 5) pe_str (nomark _)) (pw_and1 (pt_not (pt_val (pv 3)))))) (pss_cons (ps_expr (pe_bm PySem.F.plainAttrs_list PySem.F.slot_list_append PySem.F.type_list_append mt_append (pv 1) (pa_cons (pe_slice sl_str (pv 0) (po_some (pv 2)) (po_some (pv 4))) pa_nil)))
      (pss_one (ps_set (i := 2) sc_cut_between_words.nd rfl (.inl rfl) (pe_op op_add (pv 4) pe_int)))) pss_nil)))))
      (pss_cons (ps_expr (pe_bm PySem.F.plainAttrs_list PySem.F.slot_list_append PySem.F.type_list_append mt_append (pv 1) (pa_cons (pe_slice sl_str (pv 0) (po_some (pv 2)) po_none) pa_nil)))
      (pss_one (ps_ret (pv 1))))))), ?_⟩
    have hzl : z.length ≤ sizeLine := Nat.le_trans hz (by decide)
    have tq : tl (Str.ofString "'") = [39] := by decide +kernel
    have tb : tl (Str.ofString " ") = [32] := by decide +kernel
    have ez := TL.len_tl z
    have esz : z.cps.size = (tl z).length := by simp
    refine ⟨Nat.zero_le _, fun l nl => ?_⟩
    first | refine go nl fun H1 s1 e1 => ?_ | refine goT nl fun H1 s1 e1 => ?_
    refine ⟨.str z, rfl, z, rfl, for_it walk_ES (fun i σ H' => Same H H' ∧ i ≤ (tl z).length ∧ ∃ (b : Nat) (q : Bool) (ps : List Str) (x4 x5 : Option V), σ = [some (.str z), some (.ref l), some (.int (b : Int)), some (.bl q), x4, x5] ∧ H' l = some (.lst (ps.map V.str)) ∧ b ≤ i ∧ ps.length ≤ i ∧ ps.map tl ++ cutW ((tl z).drop i) q (((tl z).take i).drop b) = cutW (tl z) false [])
      ⟨s1, Nat.zero_le _, 0, false, [], none, none, rfl, e1, Nat.le_refl 0, Nat.le_refl 0, rfl⟩ (fun _ _ _ _ _ => True.intro) ?_ ?_⟩
    · rintro i x σ H5 H6 hi ⟨sm, hle, b, q5, ps, x4, x5, rfl, el, hb, hps, ecut⟩ ⟨T, k1, k2, rfl, nT, rfl, e1', e2'⟩
      have ek1 : k1 = .int (i : Nat) := (Option.some.inj e1').symm
      subst ek1
      have e2 : ((tl z)[i]?.map fun c => V.str ⟨#[c]⟩) = some k2 := e2'
      obtain ⟨c, ec, rfl⟩ := Option.map_eq_some_iff.mp e2
      have hi' : i < (tl z).length := by omega
      have nlT : l ≠ T := ne_of_none el nT
      have S6 : Same H (upd H5 T (.tup [.int (i : Nat), .str ⟨#[c]⟩])) := sm.trans (same_upd nT)
      have el6 : (upd H5 T (.tup [.int (i : Nat), .str ⟨#[c]⟩])) l = some (.lst (ps.map V.str)) := by
        rw [upd_ne nlT]
        exact el
      have edr : (tl z).drop i = c :: (tl z).drop (i + 1) := by
        rw [List.drop_eq_getElem_cons hi']
        rw [List.getElem?_eq_getElem hi'] at ec
        rw [Option.some.inj ec]
      have etk : ((tl z).take (i + 1)).drop b = ((tl z).take i).drop b ++ [c] := by
        rw [List.take_add_one, ec]
        show ((tl z).take i ++ [c]).drop b = _
        rw [List.drop_append_of_le_length (by rw [List.length_take]; omega)]
      rw [edr] at ecut
      refine ⟨T, _, rfl, SqT.of upd_same, rfl, _, _, rfl, _, _, rfl, rfl, ?_⟩
      revert S6 el6
      generalize upd H5 T (.tup [.int (i : Nat), .str ⟨#[c]⟩]) = H6
      intro S6 el6
      refine ⟨_, rfl, rfl, _, rfl, ite2 (fun e => ?_) (fun e => ?_)⟩
      · have ec39 : c = 39 := by
          have h1 := congrArg tl (V.str.inj (of_decide_eq_true e))
          rw [tq] at h1
          exact (List.cons.inj h1).1
        refine ⟨_, rfl, q5, rfl, ?_⟩
        refine ⟨S6, by omega, b, !q5, ps, _, _, rfl, el6, by omega, by omega, ?_⟩
        rw [etk, ← ecut]
        show _ = ps.map tl ++ (if c = 39 then cutW ((tl z).drop (i + 1)) (!q5) (((tl z).take i).drop b ++ [c]) else _)
        rw [if_pos ec39]
      · have ec39 : c ≠ 39 := fun h => e (decide_eq_true (congrArg V.str (str_ext (by rw [h, tq]))))
        have ecut2 : ps.map tl ++ (if c = 32 ∧ q5 = false then ((tl z).take i).drop b :: cutW ((tl z).drop (i + 1)) q5 [] else cutW ((tl z).drop (i + 1)) q5 (((tl z).take i).drop b ++ [c])) = cutW (tl z) false [] := by
          rw [← ecut]
          show _ = ps.map tl ++ (if c = 39 then _ else _)
          rw [if_neg ec39]
        dsimp only [tIfS]
        refine tt_use (t := tAnd _ _) (b := decide (c = 32) && !q5) (fun R cc => ?_) ?_
        · refine ⟨_, rfl, rfl, _, rfl, ite2 (fun e2 => ?_) (fun e2 => ?_)⟩
          · have ec32 : c = 32 := by
              have h1 := congrArg tl (V.str.inj (of_decide_eq_true e2))
              rw [tb] at h1
              exact (List.cons.inj h1).1
            rw [decide_eq_true ec32, Bool.true_and] at cc
            exact ⟨_, rfl, _, rfl, cc⟩
          · have ec32 : c ≠ 32 := fun h => e2 (decide_eq_true (congrArg V.str (str_ext (by rw [h, tb]))))
            rw [decide_eq_false ec32, Bool.false_and] at cc
            exact cc
        refine ite2 (fun e3 => ?_) (fun e3 => ?_)
        · obtain ⟨k1, k2⟩ := Bool.and_eq_true_iff.mp e3
          have ec32 : c = 32 := of_decide_eq_true k1
          have eq5 : q5 = false := by
            cases q5 with
            | false => rfl
            | true => cases k2
          rw [if_pos ⟨ec32, eq5⟩] at ecut2
          refine ⟨.ref l, rfl, .inl ⟨rfl, _, SqL.of el6⟩, .str z, rfl, .int b, rfl, b, rfl, .int (i : Nat), rfl, (i : Nat), rfl, z, rfl, hzl, l, _, _, rfl, rfl, el6, by rw [List.length_map]; exact Nat.lt_of_le_of_lt (show ps.length ≤ 5000 by omega) (by decide), ?_⟩
          refine goU fun H7 u7 e7 => ?_
          refine ⟨_, rfl, (i : Nat), 1, rfl, rfl, ?_⟩
          refine ⟨fun b' o e => u7 b' o (ne_of_none e nl) (S6 b' o e), by omega, i + 1, q5, ps ++ [cutS z (some (b : Int)) (some (i : Nat))], _, _, rfl, ?_, Nat.le_refl _, ?_, ?_⟩
          · rw [e7, List.map_append]
            rfl
          · rw [List.length_append]
            show ps.length + 1 ≤ i + 1
            omega
          · rw [List.map_append, List.map_cons, List.map_nil, tl_cut_mid z hb (by omega), ← ecut2, List.drop_of_length_le (l := (tl z).take (i + 1)) (by rw [List.length_take]; omega), List.append_assoc]
            rfl
        · have hno : ¬ (c = 32 ∧ q5 = false) := fun h => e3 (by rw [decide_eq_true h.1, h.2]; rfl)
          rw [if_neg hno] at ecut2
          refine ⟨S6, by omega, b, q5, ps, _, _, rfl, el6, by omega, by omega, ?_⟩
          rw [etk]
          exact ecut2
    · rintro σ H5 ⟨sm, hle, b, q5, ps, x4, x5, rfl, el, hb, hps, ecut⟩
      rw [esz] at ecut hb hps
      refine ⟨.ref l, rfl, .inl ⟨rfl, _, SqL.of el⟩, .str z, rfl, .int b, rfl, b, rfl, z, rfl, hzl, l, _, _, rfl, rfl, el, by rw [List.length_map]; exact Nat.lt_of_le_of_lt (show ps.length ≤ 5000 by omega) (by decide), ?_⟩
      refine goU fun H7 u7 e7 => ?_
      refine ⟨_, rfl, q _ l (ps ++ [cutS z (some (b : Int)) none]) (fun b' o e => u7 b' o (ne_of_none e nl) (sm b' o e)) nl ?_ ?_⟩
      · rw [e7, List.map_append]
        rfl
      · rw [List.map_append, List.map_cons, List.map_nil, tl_cut_from, ← ecut, List.drop_length, List.take_length]
        rfl
theorem starts_q (z : Str) : Txt.startswith z (Str.ofString "'") = decide ((tl z).take 1 = [39]) := by
  have tq : tl (Str.ofString "'") = [39] := by decide +kernel
  have lq : (Str.ofString "'").length = 1 := by decide +kernel
  unfold Txt.startswith
  rw [StrLaws.subAt_eq, List.drop_zero, lq]
  have ez := TL.len_tl z
  by_cases h : 1 ≤ z.length
  · rw [decide_eq_true (show 0 + 1 ≤ z.length by omega), Bool.true_and]
    by_cases e : (tl z).take 1 = [39]
    · rw [decide_eq_true e]
      exact beq_iff_eq.mpr (e.trans tq.symm)
    · rw [decide_eq_false e]
      exact beq_eq_false_iff_ne.mpr (fun k => e (k.trans tq))
  · rw [decide_eq_false (show ¬ 0 + 1 ≤ z.length by omega), Bool.false_and]
    refine (decide_eq_false fun e => ?_).symm
    have hn : tl z = [] := List.length_eq_zero_iff.mp (by omega)
    rw [hn] at e
    cases e
theorem repl_len : ∀ (n : Nat) (t : List Nat), t.length ≤ n → (StrLaws.replL [39, 39] [39] t).length ≤ t.length
  | n, [], _ => by
    rw [StrLaws.replL_nil]
    exact Nat.le_refl _
  | 0, c :: r, h => absurd h (by rw [List.length_cons]; omega)
  | n + 1, c :: r, h => by
    rw [List.length_cons] at h
    by_cases hit : (c :: r).take [39, 39].length = [39, 39]
    · rw [StrLaws.replL_hit (by decide) hit]
      show (StrLaws.replL [39, 39] [39] (r.drop 1)).length + 1 ≤ r.length + 1
      have h1 := repl_len n (r.drop 1) (by
        rw [List.length_drop]
        omega)
      rw [List.length_drop] at h1
      omega
    · rw [StrLaws.replL_miss hit, List.length_cons, List.length_cons]
      have := repl_len n r (by omega)
      omega
/-- the word that a part writes, by word_of -/
def wofS (z : Str) : List Nat := if (tl z).take 1 = [39] then StrLaws.replL [39, 39] [39] (tl (cutS z (some 1) (some (-1)))) else tl z
theorem wofS_len (z : Str) : (wofS z).length ≤ z.length := by
  have ez := TL.len_tl z
  unfold wofS
  split
  · have h1 := repl_len _ (tl (cutS z (some 1) (some (-1)))) (Nat.le_refl _)
    have h2 := cutS_length z (some 1) (some (-1))
    have h3 := TL.len_tl (cutS z (some 1) (some (-1)))
    omega
  · omega
theorem wofS_wq {z : Str} {cs : List Nat} (h : tl z = wq cs) : wofS z = cs := by
  unfold wofS
  cases hn : needq cs with
  | false =>
    obtain ⟨h1, h2, h3⟩ := needq_false hn
    have ew : wq cs = cs := by
      unfold wq
      rw [hn]
      rfl
    rw [ew] at h
    rw [if_neg (fun k => h3 (by
      rw [← h]
      exact List.mem_of_mem_take (i := 1) (by rw [k]; exact List.mem_cons_self)))]
    exact h
  | true =>
    have ew : wq cs = 39 :: (dblq cs ++ [39]) := by
      unfold wq
      rw [hn]
      rfl
    rw [ew] at h
    rw [if_pos (by rw [h]; rfl), tl_cut_in z (dblq cs) h]
    exact dbl_back cs
def spWordOf : Sp := fun vs H Q _ => ∃ z : Str, vs = [.str z] ∧ z.length ≤ 900 ∧ ∀ y : Str, tl y = wofS z → Q (.str y) H
theorem ok_word_of {f : Addr} {fd : FuncData} {k : Nat} (F : Fun K "word_of" "word_of" st_word_of f fd) : FnOk P w K mg base CX0 (k + 1) f fd ["part"] spWordOf := by
  refine ok_tok F sc_word_of (by decide +kernel) (by decide) (fun vs H Q E h => ?_) (fun cdv A outer s H vs Q E hr h => ?_)
  · obtain ⟨z, rfl, _⟩ := h
    rfl
  · obtain ⟨z, rfl, lz, q⟩ := h
    refine ⟨_, psst_cons (pst_if (pt_val (pe_m1 PySem.F.slot_str_startswith PySem.F.type_str_startswith mt_startswith (pv 0) pe_str)) (psst_one (pst_ret (pet_replC (pe_slice sl_str (pv 0) (po_some pe_int) (po_some (pe_un un_neg pe_int))) (by decide +kernel)))) (PSsT.of pss_nil))
      (PSsT.of (pss_one (ps_ret (pv 0)))), ?_⟩
    have tq : tl (Str.ofString "'") = [39] := by decide +kernel
    have lq : (Str.ofString "'").length = 1 := by decide +kernel
    have tqq : tl (Str.ofString "''") = [39, 39] := by decide +kernel
    have lqq : (Str.ofString "''").length = 2 := by decide +kernel
    have hzl : z.length ≤ sizeLine := by
      rw [sizeLine_eq]
      omega
    refine ⟨_, rfl, ⟨_, rfl⟩, _, _, rfl, rfl, _, rfl, ?_⟩
    rw [starts_q]
    unfold wofS at q
    by_cases e : (tl z).take 1 = [39]
    · rw [decide_eq_true e]
      rw [if_pos e] at q
      have hcl : (cutS z (some 1) (some (-1))).length ≤ 900 := Nat.le_trans (cutS_length _ _ _) lz
      refine ⟨_, rfl, 1, rfl, 1, rfl, -1, rfl, z, rfl, hzl, _, rfl, ?_, q _ ?_⟩
      · rw [lq]
        omega
      · have h := StrLaws.replace_list (x := cutS z (some 1) (some (-1))) (y := Str.ofString "''") (z := Str.ofString "'") (by rw [lqq]; decide)
        rw [show (Str.ofString "'").cps.toList = [39] from tq, show (Str.ofString "''").cps.toList = [39, 39] from tqq] at h
        exact h
    · rw [decide_eq_false e]
      rw [if_neg e] at q
      exact ⟨_, rfl, q z rfl⟩
end
end WB

set_option Elab.async false
set_option linter.all false
set_option maxRecDepth 100000
set_option maxHeartbeats 4000000
namespace WG
open PySem PySem.Spec PyProof.Rows L2
/-! ### max(xs, default=d), xs a list of whole numbers: some whole number -/
theorem args_maxd (a v : Value) : argsOk "max" ⟨[a], [(Str.ofString "default", v)]⟩ := by
  unfold argsOk
  kernel_rfl
theorem gt_any {prog : Program} {w : World} {B : Around} {a b : Int} {t u : Tok} {z : Shared} {Q : Value → Shared → Prop} {E : Value → Shared → Prop} (h : ∀ r : Bool, Q (.bool r) z) :
    wpAny (model prog w) B (richCompare .Gt (.int a t) (.int b u)) Q E z :=
  CmpOf.ints_gt (P := fun (i : Nat) v => ∃ t, v = .int (if i = 0 then a else b) t) (fun i => if i = 0 then a else b) (fun _ _ q => q) 0 1 _ _ z Q E ⟨t, rfl⟩ ⟨u, rfl⟩ (h _)
section
variable {prog : Program} {w : World} {B : Around} {Rz : Result → Shared → Prop} {J T : Addr} {fr wt : List Addr} {its : Array Value} {Sz : Nat → Heap → Prop} {kv : Str × Value}
theorem maxd_loop (W : Walks prog w B.in1 J fr wt its.size (fun i v => its[i]? = some v) Sz) (int : ∀ (i : Nat) (v : Value), its[i]? = some v → ∃ (a : Int) (t : Tok), v = .int a t) (nT : T ∉ fr) (dv : ∃ (a : Int) (t : Tok), kv.2 = .int a t) :
    ∀ (k j : Nat) (z : Shared) (best : List Value) (c : Nat), its.size - j = k → j ≤ its.size → Sz j z.heap → (best = [] ∨ ∃ (a : Int) (t : Tok), best = [.int a t, .int a t]) →
    z.heap.get? T = some { cls := .type "list", dict := none, data := .seq best.toArray c, slots := #[] } →
    (∀ (a : Int) (t : Tok) (hp : Heap) (tk : Nat), (∀ b o, b ∉ wt → b ≠ T → z.heap.get? b = some o → hp.get? b = some o) → Rz (.ok (.ret (.int a t))) { z with heap := hp, toks := tk }) →
    codeAny (model prog w) B (.builtin "max.loop" ⟨[.ref J, .none, .ref T], [kv]⟩) Rz z := by
  have nW : T ∉ wt := fun q => nT (W.sub _ q)
  have nm : (toString "max" ++ toString ".loop" : String) = "max.loop" := by decide
  obtain ⟨da, dt, ed⟩ := dv
  intro k
  induction k with
  | zero =>
    intro j z best c hk hj st hb oT out
    have ej : j = its.size := by omega
    refine codeAny_builtin PySem.F.entry_max_loop ?_
    rw [Around.under_plainId PySem.F.plain_max_loop _]
    show wpAny _ B.in1 (seqItems? (.ref T) >>= _) _ _ z
    refine wpAny_bind (wpAny_seqItems oT rfl ?_)
    show wpAny _ B.in1 (tryCatch (pyNext (.ref J)) _ >>= _) _ _ z
    refine wpAny_bind (wpAny_tryCatch (W.done z _ _ (ej ▸ st) fun hp tk kp => ?_))
    rcases hb with rfl | ⟨a, t, rfl⟩
    · show wpAny _ B.in1 (rule _ >>= fun _ => ret kv.2) _ _ _
      refine wpAny_bind (wpAny_rule (wpAny_pure ?_))
      rw [ed]
      exact out da dt hp tk fun b o h1 _ e => kp b o h1 e
    · have oT2 := kp T _ nW oT
      show wpAny _ B.in1 (updateSeq T (fun _ => #[]) >>= _) _ _ _
      refine wpAny_bind (wpAny_updateSeq oT2 rfl (wpAny_bind (wpAny_letGo (wpAny_pure ?_))))
      exact out a t _ tk fun b o h1 h2 e => (Heap.get?_update_other _ _ (Ne.symm h2)).trans (kp b o h1 e)
  | succ k ih =>
    intro j z best c hk hj st hb oT out
    have lt : j < its.size := by omega
    refine codeAny_builtin PySem.F.entry_max_loop ?_
    rw [Around.under_plainId PySem.F.plain_max_loop _]
    show wpAny _ B.in1 (seqItems? (.ref T) >>= _) _ _ z
    refine wpAny_bind (wpAny_seqItems oT rfl ?_)
    show wpAny _ B.in1 (tryCatch (pyNext (.ref J)) _ >>= _) _ _ z
    refine wpAny_bind (wpAny_tryCatch (W.item j z _ _ lt st fun v hp tk hv st2 kp => ?_))
    obtain ⟨va, vt, rfl⟩ := int j v hv
    have oT2 := kp T _ nW oT
    have apart : ∀ b, b ∈ fr → T ≠ b := fun b m q => nT (by rw [q]; exact m)
    rcases hb with rfl | ⟨a, t, rfl⟩
    · show wpAny _ B.in1 (updateSeq T (fun _ => #[.int va vt, .int va vt]) >>= _) _ _ _
      refine wpAny_bind (wpAny_updateSeq oT2 rfl ?_)
      rw [nm]
      refine wpAny_pure ⟨plainId_quiet PySem.F.plain_max_loop _, ih (j + 1) _ [.int va vt, .int va vt] _ (by omega) lt (W.frame _ _ _ st2 fun b m o e => (Heap.get?_update_other _ _ (apart b m)).trans e) (.inr ⟨va, vt, rfl⟩) (Heap.get?_update_self _ oT2 rfl) fun a' t' h2 tk2 kp2 => ?_⟩
      exact out a' t' h2 tk2 fun b o h1 h3 e => kp2 b o h1 h3 ((Heap.get?_update_other _ _ (Ne.symm h3)).trans (kp b o h1 e))
    · show wpAny _ B.in1 (tryCatch (holding [Value.int va vt, Value.int va vt] (richCompare .Gt (.int va vt) (.int a t) >>= _)) _ >>= _) _ _ _
      refine wpAny_bind (wpAny_tryCatch (wpAny_holding (wpAny_bind (gt_any fun r => ?_))))
      refine wpAny_bind (wpAny_holding (wpAny_truthy_bool (wpAny_bind (wpAny_letGo (wpAny_pure ?_)))))
      cases r with
      | true =>
        simp only [if_true]
        refine wpAny_bind (wpAny_updateSeq oT2 rfl (wpAny_bind (wpAny_letGo ?_)))
        rw [nm]
        refine wpAny_pure ⟨plainId_quiet PySem.F.plain_max_loop _, ih (j + 1) _ [.int va vt, .int va vt] _ (by omega) lt (W.frame _ _ _ st2 fun b m o e => (Heap.get?_update_other _ _ (apart b m)).trans e) (.inr ⟨va, vt, rfl⟩) (Heap.get?_update_self _ oT2 rfl) fun a' t' h2 tk2 kp2 => ?_⟩
        exact out a' t' h2 tk2 fun b o h1 h3 e => kp2 b o h1 h3 ((Heap.get?_update_other _ _ (Ne.symm h3)).trans (kp b o h1 e))
      | false =>
        simp only [Bool.false_eq_true, if_false]
        refine wpAny_bind (wpAny_letGo ?_)
        rw [nm]
        refine wpAny_pure ⟨plainId_quiet PySem.F.plain_max_loop _, ih (j + 1) _ [.int a t, .int a t] c (by omega) lt st2 (.inr ⟨a, t, rfl⟩) oT2 fun a' t' h2 tk2 kp2 => ?_⟩
        exact out a' t' h2 tk2 fun b o h1 h3 e => kp2 b o h1 h3 (kp b o h1 e)
end
def rMaxDef (K : PySem.W.Frag) : List V → List V → Hp → VK → Prop := fun vs zs H Q => ∃ (a : Addr) (ns : List Int) (d : Int), vs = [.ref a] ∧ zs = [.int d] ∧ SqL K H a (ns.map V.int) ∧ ∀ m : Int, Q (.int m) H
theorem cr_maxDef {X : Cx} (calm : X.calm = true) : CallRK X (.builtin "max") [Str.ofString "default"] (rMaxDef X.K) := by
  intro pins s σ H vs zs us ws Q I r rz h
  obtain ⟨a, ns, d, rfl, rfl, hs, q⟩ := h
  obtain rfl := Vals.ref1 r
  obtain ⟨w1, rfl, dt, rfl⟩ := vals1 rz
  obtain ⟨its, rv, pl, hz⟩ := I.list hs
  have hi := rv.ints
  have hl := pl.isList
  have nm : (toString "max" ++ toString ".loop" : String) = "max.loop" := by decide
  refine kmk_tree PySem.F.kind_max PySem.F.plain_max PySem.F.entry_max (args_maxd _ _) ?_
  show wpAny _ X.A.in1 (Builtin.Builtins.bindParams "max" ["key", "default"] 0 ⟨[], [(Str.ofString "default", .int d dt)]⟩ >>= _) _ _ s
  refine wpAny_bind (wpAny_of_eq (show Builtin.Builtins.bindParams "max" ["key", "default"] 0 ⟨[], [(Str.ofString "default", .int d dt)]⟩ = pure [none, some (.int d dt)] from rfl) ?_)
  refine wpAny_bind (wpAny_pure (wpAny_bind (wpAny_pyIter_list hl ?_)))
  refine wpAny_bind (wpAny_newObj_type ?_)
  rw [nm]
  have la : a < s.heap.objs.size := by
    obtain ⟨_, e, _⟩ := hl
    exact Heap.lt_size e
  have W := Walks.list (prog := X.prog) (w := X.w) (A := X.A.in1) (I.ok.hd calm) s.heap.objs.size a (Nat.ne_of_lt la) its.toArray
  have sz : ∀ (hp : Heap) (o : Obj), (hp.push o).objs.size = hp.objs.size + 1 := fun hp o => Heap.size_push ..
  refine wpAny_pure ⟨plainId_quiet PySem.F.plain_max_loop _, ?_⟩
  refine maxd_loop W (fun i v hv => ?_) ?_ ⟨d, dt, rfl⟩ _ 0 _ [] 0 rfl (Nat.zero_le _) ?_ (.inl rfl) (Heap.get?_push_size _ rfl) fun m t hp tk kp => ?_
  · obtain ⟨n, t, e, _⟩ := hi.at i v (by simpa using hv)
    exact ⟨n, t, e⟩
  · intro m
    have m' : (s.heap.push { cls := .type "list_iterator", data := .fields #[.ref a, .int 0 0] }).objs.size ∈ [s.heap.objs.size, a] := m
    rw [sz] at m'
    rcases List.mem_cons.mp m' with e | e
    · exact Nat.succ_ne_self _ e
    · exact absurd (List.mem_singleton.mp e).symm (Nat.ne_of_lt (Nat.lt_succ_of_lt la))
  · refine W.frame _ _ _ ⟨⟨_, Heap.get?_push_size _ rfl, rfl, rfl⟩, hl.push _⟩ fun b _ o e => Heap.get?_push_of_some _ e
  · refine ⟨.int m, H, I.kept (t' := tk) fun b o e => ?_, ⟨t, rfl⟩, q m⟩
    have lb := Heap.lt_size e
    refine kp b o (fun z => ?_) (fun z => ?_) (Heap.get?_push_of_some _ (Heap.get?_push_of_some _ e))
    · exact Nat.ne_of_lt lb (List.mem_singleton.mp z)
    · have z' : b = (s.heap.push { cls := .type "list_iterator", data := .fields #[.ref a, .int 0 0] }).objs.size := z
      rw [sz] at z'
      exact Nat.ne_of_lt (Nat.lt_succ_of_lt lb) z'
end WG

set_option Elab.async false
set_option linter.all false
set_option maxRecDepth 100000
set_option maxHeartbeats 4000000
namespace WB
open PySem PySem.Spec PyProof.Rows L2 CwR
open TL (tl)
/-! ### parts and rows -/
theorem cutW_len : ∀ (t : List Nat) (q : Bool) (cur : List Nat), cutW t q cur ≠ [] ∧ (cutW t q cur).length ≤ t.length + 1 ∧ ∀ p ∈ cutW t q cur, p.length ≤ cur.length + t.length
  | [], q, cur => ⟨by unfold cutW; simp, by unfold cutW; simp, fun p hp => by
      unfold cutW at hp
      rw [List.mem_singleton.mp hp]
      exact Nat.le_refl _⟩
  | c :: r, q, cur => by
    unfold cutW
    split
    · obtain ⟨h1, h2, h3⟩ := cutW_len r (!q) (cur ++ [c])
      refine ⟨h1, by rw [List.length_cons]; omega, fun p hp => ?_⟩
      have := h3 p hp
      rw [List.length_append] at this
      rw [List.length_cons]
      have e : [c].length = 1 := rfl
      omega
    · split
      · obtain ⟨h1, h2, h3⟩ := cutW_len r q []
        refine ⟨by simp, by rw [List.length_cons, List.length_cons]; omega, fun p hp => ?_⟩
        rcases List.mem_cons.mp hp with rfl | hp
        · omega
        · have := h3 p hp
          rw [List.length_cons]
          have e : ([] : List Nat).length = 0 := rfl
          omega
      · obtain ⟨h1, h2, h3⟩ := cutW_len r q (cur ++ [c])
        refine ⟨h1, by rw [List.length_cons]; omega, fun p hp => ?_⟩
        have := h3 p hp
        rw [List.length_append] at this
        rw [List.length_cons]
        have e : [c].length = 1 := rfl
        omega
theorem rowL_ge : ∀ (ws : List (List Nat)) (w : List Nat), ws.length ≤ (rowL (w :: ws)).length
  | [], w => Nat.zero_le _
  | v :: vs, w => by
    have ih := rowL_ge vs v
    rw [rowL_cons, if_neg (by simp), List.length_append, List.length_cons, List.length_cons]
    omega
/-- what is read, by the parts -/
theorem read_iff {z : Str} {ps : List Str} {us : List (List Nat)} (hne : tl z ≠ []) (hp : ps.map tl = cutW (tl z) false []) (hu : us = ps.map wofS) : (rowL us = tl z → rdT (tl z) = some us) ∧ (rdT (tl z) = none → rowL us ≠ tl z) ∧ (rowL us ≠ tl z → rdT (tl z) = none) := by
  have one : rowL us = tl z → rdT (tl z) = some us := fun e => by
    cases us with
    | nil => exact absurd e.symm hne
    | cons w ws =>
      unfold rdT
      rw [if_neg hne, ← e]
      exact rd_full ws w _ (by have := rowL_ge ws w; omega)
  refine ⟨one, (fun h e => by rw [one e] at h; cases h), fun h => ?_⟩
  cases hr : rdT (tl z) with
  | none => rfl
  | some W =>
    exfalso
    unfold rdT at hr
    rw [if_neg hne] at hr
    obtain ⟨k1, k2⟩ := rd_sound hr
    cases W with
    | nil => exact k1 rfl
    | cons w ws =>
      rw [k2, cutW_row] at hp
      refine h ?_
      have e : us = w :: ws := by
        rw [hu]
        have : ∀ (qs : List Str) (vs : List (List Nat)), qs.map tl = vs.map wq → qs.map wofS = vs := fun qs => by
          induction qs with
          | nil => intro vs hv; cases vs with | nil => rfl | cons _ _ => cases hv
          | cons x r ih =>
            intro vs hv
            cases vs with
            | nil => cases hv
            | cons v vs =>
              rw [List.map_cons, List.map_cons] at hv
              injection hv with h1 h2
              rw [List.map_cons, wofS_wq h1, ih vs h2]
        exact this ps (w :: ws) hp
      rw [e, k2]
/-- NoRow, as the written part tells it -/
structure NoR (K : PySem.W.Frag) (mg : Str → Option Value) (CN : Addr) : Prop where
  x : PySem.W.excIn K CN [.type "ValueError", .type "Exception", .type "BaseException", .type "object"] "ValueError.__new__" = true
  g : mg "NoRow" = some (.ref CN)
  k : PySem.W.keepIn K (.ref CN) = true
  b : PySem.W.subIn K (.ref CN) (.type "BaseException") = some true
  t : PySem.W.typeIn K (.ref CN) = some (.type "type")
section
variable {P : Program} {w : World} {K : PySem.W.Frag} {mg : Str → Option Value} {base : Heap}
/-- what is no text -/
def NoTx (K : PySem.W.Frag) (H : Hp) (v : V) : Prop := ∃ t : Value, TyX K H v t ∧ PySem.W.kitOne K t (.type "str") = some false
def spWordsOf (K : PySem.W.Frag) (CN : Addr) : Sp := fun vs H Q E => ∃ v : V, vs = [v] ∧ ((∃ z : Str, v = .str z ∧ z.length ≤ 900 ∧ (∀ (ys : List Str) l H', rdT (tl z) = some (ys.map tl) → Same H H' → H l = none → H' l = some (.lst (ys.map V.str)) → Q (.ref l) H') ∧ (rdT (tl z) = none → ∀ H', Same H H' → E (.ref CN) none H')) ∨
  (NoTx K H v ∧ E (.ref CN) none H))
theorem ok_words_of {CN f fN fW fR fC fO : Addr} {fd fdN fdW fdR fdC fdO : FuncData} {k : Nat} (F : Fun K "words_of" "words_of" st_words_of f fd) (TN : NoR K mg CN) (D_needs_quotes : Df K mg "needs_quotes" st_needs_quotes ["word"] fN fdN) (D_word_text : Df K mg "word_text" st_word_text ["word"] fW fdW)
    (D_row_text : Df K mg "row_text" st_row_text ["words"] fR fdR) (D_cut_between_words : Df K mg "cut_between_words" st_cut_between_words ["text"] fC fdC) (D_word_of : Df K mg "word_of" st_word_of ["part"] fO fdO)
    (m_enumerate : mg "enumerate" = none) (m_isinstance : mg "isinstance" = none) (m_str : mg "str" = none) : FnOk P w K mg base (L2.CX P w) (k + 4) f fd ["text"] (spWordsOf K CN) := by
  have G_row_text : FnOk P w K mg base CX0 (k + 3) fR fdR ["words"] spRowText := ok_row_text D_row_text.F D_needs_quotes D_word_text
  have G_cut_between_words : FnOk P w K mg base CX0 (k + 3) fC fdC ["text"] spCut := ok_cut D_cut_between_words.F m_enumerate
  have G_word_of : FnOk P w K mg base CX0 (k + 3) fO fdO ["part"] spWordOf := ok_word_of D_word_of.F
  refine F.okX sc_words_of (fun vs H Q E h => ?_) (fun cdv A outer s H vs Q E hr h => ?_)
  · obtain ⟨v, rfl, _⟩ := h
    rfl
  · obtain ⟨v, rfl, h⟩ := h
    refine ⟨_, pss_cons (ps_if (pt_not (pt_val (pe_callB call_isi (by rfl) m_isinstance (by decide +kernel) (pa_cons (pv 0) (pa_cons (pe_bltn (v := .ty "str") (by rfl) m_str (by decide +kernel) rfl) pa_nil))))) (pss_one (ps_raise rfl (takes_of rfl rfl rfl rfl) (pmk_own PySem.F.excBase_ValueError TN.x TN.g TN.k (raises_own TN.b TN.t) rfl))) pss_nil)
      (pss_cons (ps_if (pt_cmpR op_eq (pv 0) pe_str (nomark _)) (pss_one (ps_ret (pe_lst pa_nil))) pss_nil)
      (pss_cons (ps_setLc (i := 1) (own := [("part", 2)]) (g := gName 2) (tt := tYes)  rfl sc_words_of.nd rfl rfl (sw_true rfl rfl rfl (by decide +kernel)) (pi_list (pe_call G_cut_between_words hr (by rfl) D_cut_between_words.g D_cut_between_words.F.kp D_cut_between_words.b .nil pass0 (pa_cons (pv 0) pa_nil))) (blkOk_by (N := ["text", "words", "part"]) (sc := defScope st_words_of) (by decide +kernel)) (fun _ _ _ _ _ => (pg_name (i := 2) sc_words_of.nd rfl (Or.inl rfl))) (fun _ _ _ _ _ => pts_nil) (fun _ _ _ _ _ => (pe_call G_word_of hr (by rfl) D_word_of.g D_word_of.F.kp D_word_of.b .nil pass0 (pa_cons (pv 2) pa_nil))))
      (pss_cons (ps_if (pt_cmpR op_ne (pe_call G_row_text hr (by rfl) D_row_text.g D_row_text.F.kp D_row_text.b .nil pass0 (pa_cons (pv 1) pa_nil)) (pv 0) (nomark _)) (pss_one (ps_raise rfl (takes_of rfl rfl rfl rfl) (pmk_own PySem.F.excBase_ValueError TN.x TN.g TN.k (raises_own TN.b TN.t) rfl))) pss_nil)
      (pss_one (ps_ret (pv 1)))))), ?_⟩
    rcases h with ⟨z, rfl, lz, qs, qn⟩ | ⟨⟨t, ht, hk⟩, qx⟩
    · have te : tl (Str.ofString "") = [] := by decide +kernel
      have elz := TL.len_tl z
      refine ⟨_, rfl, _, _, _, _, true, rfl, ClsV.ty "str", TyX.base (TyOf.str _), kit_ty (by decide +kernel), _, rfl, ?_⟩
      refine ⟨_, rfl, rfl, _, rfl, ite2 (fun e => ?_) (fun e => ?_)⟩
      · have e1 : tl z = [] := by rw [V.str.inj (of_decide_eq_true e), te]
        exact ⟨Nat.zero_le _, fun o no => qs [] o _ (by unfold rdT; rw [if_pos e1]; rfl) (same_upd no) no upd_same⟩
      have hne : tl z ≠ [] := fun h => e (decide_eq_true (congrArg V.str (str_ext (by rw [h, te]))))
      refine ⟨.str z, rfl, z, rfl, by omega, fun H1 o ps s1 no eo eps => ?_⟩
      obtain ⟨c1, c2, c3⟩ := cutW_len (tl z) false []
      have lps : ps.length ≤ 901 := by
        have h := congrArg List.length eps
        rw [List.length_map] at h
        omega
      have lp : ∀ p ∈ ps, p.length ≤ 900 := fun p hp => by
        have h := c3 (tl p) (by rw [← eps]; exact List.mem_map_of_mem hp)
        rw [TL.len_tl]
        have e0 : ([] : List Nat).length = 0 := rfl
        omega
      refine ⟨o, rfl, ⟨_, SqL.of eo⟩, fun D nD => ?_⟩
      refine lc_list (K := K) (a := o) (xs := ps.map V.str) (fun i Hc => Same H1 Hc ∧ ∃ us : List Str, Hc D = some (.lst (us.map V.str)) ∧ us.map tl = (ps.take i).map wofS) ⟨same_upd nD, [], upd_same, rfl⟩ (fun i Hc _ ⟨sc, _⟩ => SqL.of (sc _ _ eo)) (fun i x Hc hx ⟨sc, us, eD, eu⟩ => ?_) (fun Hc ⟨sc, us, eD, eu⟩ => ?_)
      · rw [List.getElem?_map] at hx
        obtain ⟨p, ep, rfl⟩ := Option.map_eq_some_iff.mp hx
        have hp := lp p (List.mem_of_getElem? ep)
        have etk : ps.take (i + 1) = ps.take i ++ [p] := by
          rw [List.take_add_one, ep]
          rfl
        have elu : us.length ≤ 901 := by
          have h := congrArg List.length eu
          rw [List.length_map, List.length_map, List.length_take] at h
          omega
        refine ⟨rfl, .str p, rfl, p, rfl, hp, fun y hy => ⟨_, eD, ?_, ?_, us ++ [y], ?_, ?_⟩⟩
        · rw [List.length_map]
          exact small1000 (by omega)
        · intro b o' e
          rw [upd_ne (ne_of_none e nD)]
          exact sc b o' e
        · rw [upd_same, List.map_append]
          rfl
        · rw [etk, List.map_append, List.map_append, eu, List.map_cons, List.map_nil, hy]
          rfl
      · rw [List.length_map, List.take_length] at eu
        obtain ⟨i1, i2, i3⟩ := read_iff hne eps eu
        have lus : us.length ≤ 950 := by
          have h := congrArg List.length eu
          rw [List.length_map, List.length_map] at h
          omega
        have lu : ∀ u ∈ us, u.length ≤ 900 := fun u hu => by
          have h1 : tl u ∈ us.map tl := List.mem_map_of_mem hu
          rw [eu] at h1
          obtain ⟨p, hp, e⟩ := List.mem_map.mp h1
          have h2 := wofS_len p
          have h3 := lp p hp
          rw [TL.len_tl, ← e]
          omega
        refine ⟨.ref D, rfl, D, us, rfl, eD, lus, lu, fun H3 z3 s3 ez3 => ?_⟩
        have S3 : Same H H3 := (s1.trans sc).trans s3
        refine ⟨_, rfl, rfl, _, rfl, ite2 (fun e => ?_) (fun e => ?_)⟩
        · have en : rowL (us.map tl) ≠ tl z := fun h => by
            have : z3 = z := str_ext (by rw [ez3, h])
            rw [this] at e
            simp at e
          exact qn (i3 en) _ S3
        · have en : rowL (us.map tl) = tl z := by
            by_cases h : V.str z3 = V.str z
            · rw [← ez3, V.str.inj h]
            · exact absurd (by rw [decide_eq_false h]; rfl) e
          exact ⟨_, rfl, qs us D _ (i1 en) S3 (s1.free nD) (s3 _ _ eD)⟩
    · refine ⟨_, rfl, v, _, t, _, false, rfl, ClsV.ty "str", ht, hk, _, rfl, ?_⟩
      exact qx
end
end WB

set_option Elab.async false
set_option linter.all false
set_option maxRecDepth 100000
set_option maxHeartbeats 4000000
namespace WG
open PySem PySem.Spec PyProof.Rows L2
/-! ### a def's promise where no repr is under way -/
structure GOk (P : Program) (w : World) (K : PySem.W.Frag) (mg : Str → Option Value) (base : Heap) (CX : CXT) (k : Nat) (f : Addr) (fd : FuncData) (ps : List Str) (sp : Sp) : Prop where
  len : ∀ vs H Q E, sp vs H Q E → vs.length = ps.length
  run : ∀ (A : Around) (outer : List Env) (s : Shared) (H : Hp) (args : Args) (us : List Value) (vs : List V) (Q : VK) (E : XK), A.guards = some [] → Room k A → Env0 P w K mg base A outer s H →
    BindsTo s fd args (ps.zip us) → Vals vs us → sp vs H Q E → codeAny (model P w) A (.call (.ref f) args) (CR CX outer P w H s Q E) s
theorem GOk.of {P : Program} {w : World} {K : PySem.W.Frag} {mg : Str → Option Value} {base : Heap} {CX : CXT} {k : Nat} {f : Addr} {fd : FuncData} {ps : List Str} {sp : Sp} (F : FnOk P w K mg base CX k f fd ps sp) : GOk P w K mg base CX k f fd ps sp :=
  ⟨F.len, fun A o s H args us vs Q E _ => F.run A o s H args us vs Q E⟩
section
variable {CX : CXT} {P : Program} {w : World} {K : PySem.W.Frag} {mg : Str → Option Value} {base : Heap} {k : Nat} {f : Addr} {N ps : List Str} {sp : Sp}
theorem gfn_of {name qual : Str} {params : Arguments} {body : List Stmt} {scope : Scope} {dV kV doc pm cdv ct oc : Value} {an od : Option Addr} {osl : Array (Option Value)}
    (lk : K.lookup f = some ⟨oc, od, .func (PySem.W.fnOf name qual params body scope dV kV doc pm an cdv ct), osl⟩) (hcd : PySem.W.codeIn K cdv qual = true) (S : FnScope N ps scope) (len : ∀ vs H Q E, sp vs H Q E → vs.length = ps.length)
    (hbody : ∀ (A : Around) (outer : List Env) (s : Shared) (H : Hp) (vs : List V) (Q : VK) (E : XK), A.guards = some [] → Room k (A.deeper (envOfC qual scope s.heap.objs.size f cdv)) → sp vs H Q E →
      ∃ t, PSs (cxOf CX P w K mg base N qual scope f cdv A outer s H E) body t ∧ t { nx := fun _ H' => Q .non H', rt := Q } (L2.start N vs) H) :
    GOk P w K mg base CX (k + 1) f (PySem.W.fnOf name qual params body scope dV kV doc pm an cdv ct) ps sp := by
  refine ⟨len, fun A outer s H args us vs Q E hgd room env bnd rel want => ?_⟩
  have hlen := len _ _ _ _ want
  have kin : K.In s.heap := env.mod.kin.keeps fun b o q => (env.bs b o q).1
  have nolim : s.heap.NoLimit := env.mod.nolimit.keeps fun b o q => (env.bs b o q).1
  have kinds : ∀ y ∈ ps.zip us, scope.names.lookup y.1 = some .local ∨ (scope.names.lookup y.1 = some .cell ∧ ((cellsFrom (s.heap.objs.size + 1) scope.names []).lookup y.1).isSome = true) := by
    intro y hy
    obtain ⟨n, v⟩ := y
    cases S.par n (List.of_mem_zip hy).1 with
    | inl z => exact .inl z
    | inr z => exact .inr ⟨z, PySem.W.cellsFrom_some _ _ _ (.inl z)⟩
  refine codeAny_call_function room.depth (kin _ _ lk) rfl S.co S.gen rfl (PySem.W.codeRec_of kin hcd) (bnd _ _ _ _ ?_)
  refine wpAny_newFunctionEnv_cells S.kind kinds fun e2 he2 s1 hx => ?_
  subst he2
  refine ⟨nolim.keeps hx.toInCall.keep, codeAny_func ?_⟩
  obtain ⟨t, tb, tq⟩ := hbody A outer s H vs Q E hgd (room.deeper _) want
  have I : Inv (cxOf CX P w K mg base N qual scope f cdv A outer s H E) [] (L2.start N vs) H s1 := inv_start S room.hd env hlen rel hx
  refine wpAny_mono (tb.run [] s1 (L2.start N vs) H _ I tq) (fun fl s' hs => ?_) fun e s' hs => hs
  cases fl with
  | ret u =>
    obtain ⟨v, _, H', J, rv, q⟩ := hs
    exact ⟨v, H', J.os, J.bare, J.base, J.hok, rv, q⟩
  | next =>
    obtain ⟨_, H', J, q⟩ := hs
    exact ⟨V.non, H', J.os, J.bare, J.base, J.hok, rfl, q⟩
  | brk =>
    obtain ⟨_, _, _, q⟩ := hs
    exact False.elim q
  | cont =>
    obtain ⟨_, _, _, q⟩ := hs
    exact False.elim q
theorem gfun_ok {x qual : Str} {st : Stmt} {fd : FuncData} (F : Fun K x qual st f fd) (S : FnScope N ps (defScope st)) (len : ∀ vs H Q E, sp vs H Q E → vs.length = ps.length)
    (hbody : ∀ (cdv : Value) (A : Around) (outer : List Env) (s : Shared) (H : Hp) (vs : List V) (Q : VK) (E : XK), A.guards = some [] → Room k (A.deeper (envOfC qual (defScope st) s.heap.objs.size f cdv)) → sp vs H Q E →
      ∃ t, PSs (cxOf CX P w K mg base N qual (defScope st) f cdv A outer s H E) (defBody st) t ∧ t { nx := fun _ H' => Q .non H', rt := Q } (L2.start N vs) H) : GOk P w K mg base CX (k + 1) f fd ps sp := by
  obtain ⟨oc, od, kV, doc, pm, an, cdv, ct, osl, rfl, lk, hcd⟩ := F.ex
  exact gfn_of lk hcd S len fun A outer s H vs Q E hg hr hsp => hbody cdv A outer s H vs Q E hg hr hsp
end
section
variable {X : Cx} {CX : CXT} {k : Nat} {f : Addr} {fd : FuncData} {ps : List Str} {sp : Sp} {E : XK} {x : Str} {p pos : Pos} {e : Expr} {es : List Expr} {t : TA}
theorem pe_callG (F : GOk X.prog X.w X.K X.mg X.base CX k f fd ps sp) (hgd : X.A.guards = some []) (hr : Room k X.A) (hg : Gl X x) (hm : X.mg x = some (.ref f)) (hk : PySem.W.keepIn X.K (.ref f) = true) (hb : Binds X.K fd ps []) (hx : Passes CX X E)
    (ha : PA X (e :: es) t) (hdb : (x == ("__debug__" : Str)) = false := by decide) (he : starEach (e :: es) X.env = (false, eval e X.env) :: starEach es X.env := by rfl) (hpl : (backTo pos (starEach es X.env)).any (·.1) = false := by rfl) :
    PE X (.Call (.Name x p) (e :: es) [] pos) (tCall sp [] E t) := by
  constructor
  intro pins s σ H Q I h
  refine wpAny_Call_Name_kw (ld_glob I hg hm ?_ hdb)
  refine PySem.W.callWith_K (h₀ := X.base) I.ok.mod.kin hk (thn (ha.run pos pins s σ H _ I h) fun us s1 ⟨vs, H1, I1, r, q⟩ => ⟨I1.kIn, ?_⟩) he hpl
  have q : sp vs H1 Q E := by
    have z : sp (vs ++ []) H1 Q E := q
    rw [List.append_nil] at z
    exact z
  have hl : (us ++ []).length = ps.length := by
    rw [List.append_nil, ← r.length]
    exact F.len _ _ _ _ q
  have b := hb s1 us I1.kIn hl
  rw [List.append_nil] at b
  refine wpAny_call (codeAny_mono (F.run X.A X.stack s1 H1 ⟨us, []⟩ us vs Q E hgd hr I1.env0 b r q) fun rr s' hq => ?_)
  cases rr with
  | error er => exact hx pins σ H1 s1 er s' I1 hq
  | ok fl =>
    cases fl with
    | ret u => exact I1.after hq
    | next => exact hq.elim
    | brk => exact hq.elim
    | cont => exact hq.elim
end
/-! ### the law's end over such a promise -/
theorem glaw_call {P : Program} {w : World} {K : PySem.W.Frag} {mg mb : Str → Option Value} {CX : CXT} {k : Nat} {fa a : Addr} {fd : FuncData} {x : Str} {sp : Sp} {t : Shared} {vs : List Value} {ns : List Int}
    (kin : K.In t.heap) (nsm : t.heap.Ns mainGlobals mg) (nsb : t.heap.Ns builtinsNs mb) (hbb : ∀ x : Str, x ≠ "__name__" → mb x = bootBuiltins x) (nolim : t.heap.NoLimit) (nogen : t.gens = #[])
    (obj : t.heap.get? a = some { cls := .type "list", data := .seq vs.toArray }) (hints : IntsAre vs ns) (hl : ns.length ≤ sizeLine) (room : Room k callerA)
    (F : ∀ base : Heap, K.In base → base.Ns mainGlobals mg → GOk P w K mg base CX k fa fd [x] sp) (bnd : ∀ (s : Shared) (u : Value), BindsTo s fd ⟨[u], []⟩ [(x, u)])
    (want : ∀ H : Hp, Only H → SqL K H a (ns.map V.int) → sp [.ref a] H (fun v _ => v = .bl true) fun _ _ _ => False)
    (noX : ∀ H e s', CX [] H t (fun _ _ _ => False) e s' → False) :
    codeAny (model P w) callerA (.call (.ref fa) ⟨[.ref a], []⟩) (fun r s' => r = .ok (.ret (.bool true)) ∧ OldK t.heap s'.heap ∧ s'.os = t.os ∧ AllBare s'.gens) t := by
  have rv := vals_ints hints
  have hlv := hints.length
  have main : ∀ H : Hp, Only H → SqL K H a (ns.map V.int) → HOk P w H t.heap → (∀ b, H b ≠ none → b = a) → (H a ≠ none → K.lookup a = none) →
      codeAny (model P w) callerA (.call (.ref fa) ⟨[.ref a], []⟩) (fun r s' => r = .ok (.ret (.bool true)) ∧ OldK t.heap s'.heap ∧ s'.os = t.os ∧ AllBare s'.gens) t := by
    intro H only hS ok onlyA hK
    have noD : ∀ {b : Addr} {o : Obj} {es : Array DictEntry} {ep : Nat}, t.heap.get? b = some o → o.data = .dict es ep → H b = none := by
      intro b o es ep e d
      cases q : H b with
      | none => rfl
      | some u =>
        have z := onlyA b (by rw [q]; exact Option.some_ne_none u)
        subst z
        rw [obj] at e
        cases e
        cases d
    have nsH : ∀ {b : Addr} {m : Str → Option Value}, t.heap.Ns b m → (hidT t.heap H).Ns b m := by
      rintro b m ⟨o, es, ep, e, d, r⟩
      exact ⟨o, es, ep, hidT_get e (noD e d), d, r⟩
    have kinH : K.In (hidT t.heap H) := by
      intro b o e
      refine hidT_get (kin b o e) ?_
      cases q : H b with
      | none => rfl
      | some u =>
        have z := onlyA b (by rw [q]; exact Option.some_ne_none u)
        subst z
        rw [hK (by rw [q]; exact Option.some_ne_none u)] at e
        cases e
    have md : Mod K mg (hidT t.heap H) := by
      refine ⟨kinH, nsH nsm, ⟨mb, nsH nsb, hbb⟩, ?_⟩
      obtain ⟨mc, h1, h2⟩ := nolim
      exact ⟨mc, nsH h1, h2⟩
    have env : Env0 P w K mg (hidT t.heap H) callerA [] t H :=
      ⟨rfl, md, fun b o e => of_hidT e, Nat.le_of_eq (hidT_size _ _), trivial, fun b hb => (List.not_mem_nil (show b ∈ ([] : List Addr) from hb)).elim, ok, .of_eq nogen⟩
    refine codeAny_mono ((F _ kinH (nsH nsm)).run callerA [] t H ⟨[.ref a], []⟩ [.ref a] [.ref a] _ _ rfl room env (bnd t (.ref a)) (.cons rfl .nil) (want H only hS)) fun r s' h => ?_
    cases r with
    | error e => exact (noX H e s' h).elim
    | ok fl =>
      cases fl with
      | next => exact h.elim
      | brk => exact h.elim
      | cont => exact h.elim
      | ret u =>
        obtain ⟨v, H', os, bare, un, ok', r', q⟩ := h
        have q' : v = .bl true := q
        subst q'
        cases r'
        refine ⟨rfl, OldK.of_keep fun b o e => ?_, os, bare⟩
        cases q : H b with
        | none => exact un.keep b o e q (fun z => (List.not_mem_nil (show b ∈ ([] : List Addr) from z)).elim) List.not_mem_nil
        | some u =>
          rcases only b with z | ⟨ob, xs, z⟩
          · rw [q] at z
            cases z
          · obtain ⟨e1, _⟩ := ok b _ z
            obtain ⟨e2, _⟩ := ok' b _ (un.frzs b ob _ z)
            rw [e] at e1
            cases e1
            exact e2
  cases hk : K.lookup a with
  | some o =>
    have e := kin a o hk
    rw [obj] at e
    cases e
    refine main (fun _ => none) (fun _ => .inl rfl) (.inr ⟨_, vs.toArray, _, hk, rfl, rfl, rfl, ?_, by simpa using rv⟩) (fun b u z => by cases (show (none : Option HO) = some u from z)) (fun b z => absurd rfl z) fun z => absurd rfl z
    rw [List.size_toArray, hlv]
    exact hl
  | none =>
    refine main (fun b => if b = a then some (.frz { cls := .type "list", data := .seq vs.toArray } (.lst (ns.map V.int))) else none) (fun b => ?_) (.inl (.inr ⟨_, if_pos rfl⟩)) (fun b u z => ?_) (fun b z => ?_) fun _ => hk
    · by_cases hb : b = a
      · exact .inr ⟨_, _, if_pos hb⟩
      · exact .inl (if_neg hb)
    · by_cases hb : b = a
      · have z' := (if_pos hb).symm.trans z
        cases z'
        subst hb
        exact ⟨obj, by rw [List.length_map]; exact hl, vs, _, rv, obj⟩
      · have z' := (if_neg hb).symm.trans z
        cases z'
    · by_cases hb : b = a
      · exact hb
      · exact absurd (if_neg hb) z
theorem gwalk_of {l : PySem.W.OpenLaw} {n k : Nat} {q : Program} {loose : List Str} {XP : (Str → Option Value) → Heap → Prop} {YP : World → Heap → Prop} {d : DefRec} {K : Params → PySem.W.Frag} {CX : World → CXT} {sp : World → Sp} {x : Str}
    (hn : l.most = some n) (hn2 : n ≤ sizeLine) (hdf : d.params.defaults = []) (hr : Room k callerA) (hY : ∀ (w : World) (h : Heap), YP w h → (K w.params).In h)
    (F : ∀ (w : World) (mg : Str → Option Value) (fa : Addr) (h : Heap), (K w.params).In h → h.Ns mainGlobals mg → mg d.name = some (.ref fa) →
      ∃ fd : FuncData, (∀ (s : Shared) (u : Value), BindsTo s fd ⟨[u], []⟩ [(x, u)]) ∧ ∀ base : Heap, (K w.params).In base → base.Ns mainGlobals mg → GOk l.prog w (K w.params) mg base (CX w) k fa fd [x] (sp w))
    (hsp : ∀ (w : World) (H : Hp) (a : Addr) (ns : List Int), ns.length ≤ n → Only H → SqL (K w.params) H a (ns.map V.int) → sp w [.ref a] H (fun v _ => v = .bl true) fun _ _ _ => False)
    (hCX : ∀ (w : World) (H : Hp) (s : Shared) (e : Value) (s' : Shared), CX w [] H s (fun _ _ _ => False) e s' → False) : PySem.W.WalkO q loose XP YP l.row.toRowW d [] (fun f vs => PySem.call f vs) := by
  refine Att.attach_call hn hdf fun w s0 s1 mg mb fa o pm cd doc a vs ns G Y ho hd hcd hmg hobj hints hlen hg => ?_
  obtain ⟨fd, hb, hF⟩ := F w mg fa _ (hY w _ Y) G.T.g hmg
  exact glaw_call (hY w _ Y) G.T.g G.T.b G.T.builtins G.T.nolimit hg hobj hints (Nat.le_trans hlen hn2) hr hF hb (fun H hO hS => hsp w H a ns hlen hO hS) fun H e s' => hCX w H s1 e s'
/-! ### text * int -/
theorem fold_toList : ∀ (l : List (Array Nat)) (acc : Array Nat), (l.foldl (· ++ ·) acc).toList = acc.toList ++ (l.map Array.toList).flatten
  | [], acc => by simp
  | x :: l, acc => by
    rw [List.foldl_cons, fold_toList l]
    simp
theorem mul_tl (z : Str) (n : Nat) : (Txt.mul z (n : Int)).cps.toList = (List.replicate n z.cps.toList).flatten := by
  unfold Txt.mul
  by_cases h1 : (n : Int) < 1
  · have e : n = 0 := by omega
    subst e
    rw [if_pos h1]
    rfl
  · rw [if_neg h1]
    by_cases h2 : ((n : Int) == 1 || z.length == 0) = true
    · rw [if_pos h2]
      rcases Bool.or_eq_true_iff.mp h2 with e | e
      · have e1 : n = 1 := by
          have := eq_of_beq e
          omega
        subst e1
        simp
      · have e1 : z.cps.toList = [] := List.length_eq_zero_iff.mp (by
          have := eq_of_beq e
          simpa [Str.length] using this)
        rw [e1]
        simp
    · rw [if_neg h2]
      show ((List.replicate (n : Int).toNat z.cps).foldl (· ++ ·) #[]).toList = _
      rw [fold_toList, Int.toNat_natCast, List.map_replicate]
      rfl
theorem op_mul_str {X : Cx} : OpR X (binaryOp .Mult) (fun x y H Q => ∃ (z : Str) (n : Nat), x = .str z ∧ y = .int (n : Int) ∧ n ≤ 1000 ∧ z.length ≤ 1000 ∧ ∀ y : Str, y.length = z.length * n → (∀ c ∈ y.cps.toList, c ∈ z.cps.toList) → Q (.str y) H) := by
  intro pins s σ H x y v u Q I rx ry h
  obtain ⟨z, n, rfl, rfl, hn, hz, q⟩ := h
  obtain ⟨tx, rfl⟩ := rx
  obtain ⟨ty, rfl⟩ := ry
  have pw : z.length * n ≤ 1000000 := Nat.le_trans (Nat.mul_le_mul hz hn) (by decide)
  refine PySem.SB.mul ⟨?_, fun h1 h2 => ?_, fun h1 h2 => ?_⟩ fun t' k => ⟨.str _, H, I.tok k, ⟨t', rfl⟩, q _ ?_ ?_⟩
  · rw [decide_eq_false (by omega), decide_eq_false (by omega)]
    rfl
  · have e : (1000 : Int) ≤ (2 ^ 63 - 1) / (n : Int) := by
      have h3 : (0 : Int) < n := by omega
      exact (Int.le_ediv_iff_mul_le h3).mpr (by omega)
    omega
  · rw [Int.toNat_natCast]
    exact decide_eq_false (by show ¬ sizeLine < _; have : sizeLine = 16777216 := sizeLine_eq; omega)
  · rw [TL.len_tl, TL.len_tl z]
    show (Txt.mul z (n : Int)).cps.toList.length = _
    rw [mul_tl]
    simp [Nat.mul_comm]
  · intro c hc
    rw [mul_tl] at hc
    obtain ⟨l, hl, hcl⟩ := List.mem_flatten.mp hc
    rw [(List.mem_replicate.mp hl).2] at hcl
    exact hcl
/-! ### repr of a list -/
/-- a value and the data that it is: as in Dp, and dicts of none or one text with an int -/
inductive Itm (K : PySem.W.Frag) (H : Hp) : V → PyData → Prop
  | dp {v : V} {d : PyData} (h : Dp K H v d) (nd : d.hasDict = false) : Itm K H v d
  | d0 {a : Addr} (h : H a = some (.dK [])) : Itm K H (.ref a) (.dict [])
  | d1 {a : Addr} {x : Str} {i : Int} (h : H a = some (.dK [(Sum.inr x, .int i)])) : Itm K H (.ref a) (.dict [(.str x, .int i)])
inductive ItmAll (K : PySem.W.Frag) (H : Hp) : List V → List PyData → Prop
  | nil : ItmAll K H [] []
  | cons {v : V} {vs : List V} {d : PyData} {ds : List PyData} : Itm K H v d → ItmAll K H vs ds → ItmAll K H (v :: vs) (d :: ds)
section
variable {X : Cx} {pins : List (Addr × Obj)} {σ : L2.St} {H : Hp} {s : Shared}
theorem Itm.reads (I : Inv X pins σ H s) {v : V} {u : Value} {d : PyData} (h : Itm X.K H v d) (r : RelV v u) : ∃ as, Reads s.heap u d as ∧ (d.hasDict = true → sysModules ∉ as) := by
  cases h with
  | dp h nd =>
    obtain ⟨as, q⟩ := Dp.reads I d v u h r
    exact ⟨as, q, fun z => by rw [nd] at z; cases z⟩
  | @d0 a h =>
    cases r
    obtain ⟨_, ns, vs, kv, o, es, ep, ho, hx, hd, hk, hp, _⟩ := I.hok _ _ h
    cases kv
    generalize hl : es.toList = l at hp
    cases hp
    refine ⟨_, Reads.dict (kvs := []) (as := []) (bs := []) ho hx.1 hd (by rw [hl]; exact .nil) (by rw [hl]; exact .nil), fun _ => ?_⟩
    intro hm
    rcases List.mem_cons.mp hm with e | e
    · rw [← e] at ns
      exact absurd ns (by decide)
    · cases e
  | @d1 a x i h =>
    cases r
    obtain ⟨_, ns, vs, kv, o, es, ep, ho, hx, hd, hk, hp, _⟩ := I.hok _ _ h
    cases kv with
    | cons h1 h2 =>
      cases h2
      obtain ⟨e1, t, e2⟩ := h1
      rename_i b nd2
      obtain ⟨b1, b2⟩ := b
      dsimp only at e1 e2
      subst e1 e2
      generalize hl : es.toList = l at hp
      cases hp with
      | cons k1 k2 k3 =>
        cases k3
        rename_i en
        obtain ⟨hh, ky, vl⟩ := en
        dsimp only at k1 k2
        subst k2
        have k1' : keyIs (Sum.inr x) ky = true := k1
        rcases keyIs_shape k1' with ⟨j, t', z, _⟩ | ⟨y, t', z, rfl⟩
        · cases z
        · cases z
          refine ⟨_, Reads.dict (kvs := [(.str x, .int i)]) ho hx.1 hd (by rw [hl]; exact .cons (.str x t') .nil) (by rw [hl]; exact .cons (.int i t) .nil), fun _ => ?_⟩
          intro hm
          rcases List.mem_cons.mp hm with e | e
          · rw [← e] at ns
            exact absurd ns (by decide)
          · cases e
theorem ItmAll.all (I : Inv X pins σ H s) : ∀ {vs : List V} {ds : List PyData} {us : List Value}, ItmAll X.K H vs ds → Vals vs us → PyData.showableAll ds = true → (∀ t ∈ PyData.shownAll ds, t.length ≤ sizeLine) →
    (∃ as, ReadsAll s.heap us ds as) ∧ ∃ bs, ReadAtMost s.heap (PyData.depthAll ds) bs ∧ ReprAllK X.prog X.w bs s.heap (PyData.depthAll ds) us (PyData.shownAll ds)
  | _, _, _, .nil, .nil, _, _ => ⟨⟨_, .nil⟩, [], (fun _ h => nomatch h), by simp only [PyData.shownAll]; exact .nil⟩
  | _, _, _, .cons (d := d) (ds := ds) h1 h2, .cons r1 r2, hs, hz => by
    have hs' : d.showable = true ∧ PyData.showableAll ds = true := by simpa [PyData.showableAll] using hs
    obtain ⟨as, q, nq⟩ := h1.reads I r1
    obtain ⟨⟨as2, q2⟩, bs2, b2, k2⟩ := ItmAll.all I h2 r2 hs'.2 (fun t ht => hz t (by simp only [PyData.shownAll]; exact List.mem_cons_of_mem _ ht))
    obtain ⟨bs1, b1, k1⟩ := ReprK.of_reads (prog := X.prog) (w := X.w) q hs'.1 nq (hz _ (by simp only [PyData.shownAll]; exact List.mem_cons_self ..))
    refine ⟨⟨_, .cons q q2⟩, bs1 ++ bs2, ?_, ?_⟩
    · have e1 : d.depth ≤ PyData.depthAll (d :: ds) := by simp only [PyData.depthAll]; omega
      have e2 : PyData.depthAll ds ≤ PyData.depthAll (d :: ds) := by simp only [PyData.depthAll]; omega
      exact (b1.mono e1).append (b2.mono e2)
    · have e1 : d.depth ≤ PyData.depthAll (d :: ds) := by simp only [PyData.depthAll]; omega
      have e2 : PyData.depthAll ds ≤ PyData.depthAll (d :: ds) := by simp only [PyData.depthAll]; omega
      simp only [PyData.shownAll]
      exact .cons ((k1.more fun b hb => List.mem_append_left _ hb).level_le e1) (k2.more_le (fun b hb => List.mem_append_right _ hb) e2)
/-- repr(l) -/
def rRepr (K : PySem.W.Frag) : List V → Hp → VK → Prop := fun xs H Q => ∃ (a : Addr) (vs : List V) (ds : List PyData), xs = [.ref a] ∧ SqL K H a vs ∧ vs ≠ [] ∧ ItmAll K H vs ds ∧ PyData.showableAll ds = true ∧ PyData.depthAll ds ≤ 8 ∧
  (listText (PyData.shownAll ds)).length ≤ sizeLine ∧ Q (.str (listText (PyData.shownAll ds))) H
end
theorem call_repr_l {X : Cx} (hg : X.A.guards = some []) (hu : X.A.units + 16 < cLine) : CallR X (.builtin "repr") (rRepr X.K) := by
  intro pins s σ H xs us Q I r h
  obtain ⟨a, vs, ds, rfl, hS, hne, hI, hs, hdp, hz, q⟩ := h
  cases r with
  | cons ra rr =>
    cases rr
    cases ra
    obtain ⟨its, rv, ⟨o, n, ho, hc, hdx, hd⟩, _⟩ := I.list hS
    obtain ⟨⟨as, hr⟩, bs, hb, hk⟩ := ItmAll.all I hI rv hs (fun t ht => Nat.le_trans (listText_mem_le ht) hz)
    cases its with
    | nil =>
      cases rv
      exact absurd rfl hne
    | cons x l =>
      have rd : Reads s.heap (.ref a) (.list ds) _ := Reads.list ho hc hd hr
      have hna : a ∉ bs := not_mem_of_deeper rd (by simp only [PyData.depth]; omega) hb
      refine call_repr_slot (T := "list") (idr := "list.__repr__") (by omega) ⟨o, ho, hc⟩ F.slot_list_repr.toG ?_
      exact call_list_reprK (h₀ := s.heap) (as := bs) ho hc hd hna (by simpa using hk.length_eq) (fun i y e => hk.item i y (by simpa using e)) (g := []) hg (fun b _ => Clear.nil b) (by show X.A.units + 1 + (_ + 1) < cLine; omega) (fun _ _ e => e)
        (fun h' u tk hkp => ⟨_, _, rfl, .str _, H, I.kept (t' := tk) hkp, ⟨u, rfl⟩, q⟩) hz
end WG

set_option Elab.async false
set_option linter.all false
set_option maxRecDepth 100000
set_option maxHeartbeats 4000000
namespace WG
open PySem PySem.Spec PySem.Calls PyProof.Rows PySem.W
section
variable {prog : Program} {w : World} {A : Around} {E : Value → Shared → Prop} {s : Shared} {K : Frag} {x D : Addr} {ox : Obj} {od : Option Obj}
theorem find_dat {C : Addr} {name : Str} {a g : Value} (hc : (clsIn K C).isSome = true) (ha : findIn K (.ref C) name = some (some a)) (hg : specialIn K a "__get__" = some (some g)) (ht : takesIn K a = some true) :
    findObj K C od name = some (.bind g a) := by
  obtain ⟨cd, hcd⟩ := Option.isSome_iff_exists.mp hc
  unfold findObj
  rw [hcd, Option.bind_some, ha, Option.bind_some]
  simp [hg, ht]
theorem exc_class {Q : Option Value → Shared → Prop} (c : L2.ExcC K D) (kin : K.In s.heap) (at0 : InstAt s.heap x ox D od) (h : Q (some (.ref D)) { s with toks := s.toks + 1 }) : wpAny (model prog w) A (getAttr? (.ref x) "__class__") Q E s := by
  have hf : findObj K D od "__class__" = some (.bind (.builtin "getset_descriptor.__get__") (.builtin "object.__class__")) := by
    refine find_dat ?_ c.ha c.hn c.ht
    obtain ⟨cd, hcd, _⟩ := any_some c.hd
    rw [hcd] <;> rfl
  obtain ⟨hh, gs, dr, tk, os⟩ := s
  have t0 := at0.type (M := model prog w)
  have t1 := looks_findIn (M := model prog w) kin c.hg
  have t2 := looks_findIn (M := model prog w) kin c.hk
  have t3 := looks_find (M := model prog w) kin at0 hf
  have isb : Looks (model prog w) hh (isInstance (.ref x) (.type "BaseException")) true := t0.andThen (looks_subIn kin c.hs)
  have z0 : (false && onTheHeap (Value.builtin "BaseException.__getattribute__")) = false := rfl
  have z2 : (Value.builtin "BaseException.__getattribute__" == Value.builtin "object.__getattribute__") = false := by decide +kernel
  have z1 : (onTheHeap (Value.ref D) && Value.builtin "BaseException.__getattribute__" == Value.builtin "object.__getattribute__") = false := by
    rw [z2]
    rfl
  unfold getAttr? getAttrBy? getAttrBy
  refine wpAny_bind (wpAny_mkText (wpAny_bind (wpAny_attempt (wpAny_holding (wpAny_bind (t0.at (wpAny_bind (t1.at ?_))))))))
  show wpAny _ _ (if (onTheHeap (Value.ref D) && Value.builtin "BaseException.__getattribute__" == Value.builtin "object.__getattribute__") = true then _ else _) _ _ _
  rw [z1, if_neg Bool.false_ne_true]
  unfold getAttrByItsOwn hookBefore
  refine wpAny_bind ?_
  rw [if_pos (show onTheHeap (Value.ref D) = true from rfl)]
  refine t2.at (wpAny_bind (wpAny_attempt (wpAny_holding ?_)))
  unfold callGetattribute
  rw [z0, if_neg Bool.false_ne_true]
  unfold boundAndCalled
  rw [PySem.F.excAttr_ValueError.ga.bind (.ref x)]
  refine wpAny_bind (wpAny_pure ?_)
  show wpAny _ _ (call (.builtin "BaseException.__getattribute__") [.ref x, .str "__class__" tk]) _ _ _
  refine wpAny_call (codeAny_call_builtin PySem.F.excAttr_ValueError.ga.plain PySem.F.entry_bexc_ga ?_)
  refine @check_slot (model prog w) _ _ ⟨hh, gs, dr, tk + 1, os⟩ "BaseException.__getattribute__" "BaseException" "__getattribute__" (.ref x) [.str "__class__" tk] [] _ (by decide +kernel) (by decide +kernel) isb (PySem.F.args_bexc_ga (.ref x) (.str "__class__" tk)) ?_
  unfold Builtin.«object.__getattribute__»
  refine wpAny_bind (wpAny_of_eq (a := ((Value.ref x : Value), [Value.str "__class__" tk])) (by first | rfl | (simp only [slotArgs]; rfl)) ?_)
  refine wpAny_bind (wpAny_pure (wpAny_bind (t0.at (wpAny_bind (t3.at ?_)))))
  show wpAny _ _ (holding [Value.builtin "object.__class__"] (call (.builtin "getset_descriptor.__get__") [.builtin "object.__class__", .ref x, .ref D]) >>= ret) _ _ _
  refine wpAny_bind (wpAny_holding (wpAny_call (class_get (s := ⟨hh, gs, dr, tk + 1, os⟩) (ox := ox) (od := od) kin at0 c.hm ?_)))
  refine wpAny_pure ?_
  show wpAny _ _ (handedOut (.ref D)) _ _ _
  rw [handedOut_of (v := .ref D) rfl]
  first
    | exact wpAny_pure (wpAny_pure h)
    | exact wpAny_pure h
    | exact wpAny_pure (wpAny_bind (wpAny_pure (wpAny_pure h)))
theorem kit_exc (c : L2.ExcC K D) : KitX K (.ref x) (.ref D) (fun h => InstAt h x ox D od) := by
  obtain ⟨cd, hcd, _⟩ := any_some c.hd
  obtain ⟨o, ho, hdo⟩ : ∃ o, K.lookup D = some o ∧ o.data = .cls cd := by
    unfold clsIn at hcd
    split at hcd
    · rename_i c' d' cd' sl' hk
      cases hcd
      exact ⟨_, hk, rfl⟩
    · cases hcd
  obtain ⟨oc, odd, oda, osl⟩ := o
  dsimp only at hdo
  subst hdo
  refine { ty := fun _ _ _ J => J.type, it := fun _ _ kin _ => ?_, ne := fun h tp dd its n sl kin htp => ?_, ca := fun kin J k => exc_class c kin J k }
  · intro A' Q' E' s' kp q
    unfold isType loadHead
    exact wpAny_bind (wpAny_loadPart (kp _ _ (kin _ _ ho)) (wpAny_pure q))
  · refine Bool.eq_false_iff.mpr fun q => ?_
    have e : D = tp := Value.ref.inj (beq_iff_eq.mp q)
    subst e
    have z := (kin _ _ ho).symm.trans htp
    cases z
end
end WG
namespace WG
open PySem PySem.Spec PyProof.Rows L2
/-- isinstance(e, c), e the caught exception at a with its own dict -/
def rIsD (K : PySem.W.Frag) (a : Addr) (cls : Value) (d : Option Addr) : List V → Hp → VK → Prop := fun xs H Q => ∃ (D dd : Addr) (fs : List (Str × V)) (c : V) (cv : Value) (b : Bool), cls = .ref D ∧ d = some dd ∧ H dd = some (.xd fs) ∧ ExcC K D ∧
  xs = [.ref a, c] ∧ (∀ u, RelV c u → u = cv) ∧ PySem.W.kitOne K (.ref D) cv = some b ∧ Q (.bl b) H
theorem call_isD {X : Cx} {a : Addr} {oe : Obj} {cls : Value} {d : Option Addr} {pn : List (Addr × Obj)} (hz : Zc cls d oe) (hf : ∃ vs, oe.data = .fields vs) : CallR (X.suite a ((a, oe) :: pn)) (.builtin "isinstance") (rIsD X.K a cls d) := by
  intro pins s σ H xs us Q I r h
  obtain ⟨D, dd, fs, cl, cv, b, rfl, rfl, hx, c, rfl, hcv, e, q⟩ := h
  cases r with
  | cons rx rr =>
    cases rr with
    | cons rt rr =>
      cases rr
      cases rx
      have ec := hcv _ rt
      subst ec
      obtain ⟨hget, _⟩ := I.pin (a, oe) (List.mem_append.mpr (.inl List.mem_cons_self))
      obtain ⟨vs, hv⟩ := hf
      obtain ⟨mA, hns, _⟩ := I.hok dd _ hx
      obtain ⟨od, ho, _⟩ := lookIn_ns hns
      have J : PySem.W.InstAt s.heap a oe D (some od) := ⟨hget, hz.1, by unfold PySem.W.notCls; rw [hv] <;> rfl, by rw [hz.2]; exact ho⟩
      exact PySem.W.kia_one (kit_exc c) I.kIn J e (fun z => nomatch z) fun tk => ⟨.bl b, H, I.kept (t' := tk) fun _ _ z => z, rfl, q⟩
end WG

set_option Elab.async false
set_option linter.all false
set_option maxRecDepth 100000
set_option maxHeartbeats 4000000
namespace WG
open PySem PySem.Spec PyProof.Rows L2 L2H
/-! ### a def that is called within an except suite and gets the caught error -/
/-- the promise: Z tells of the error's object, sp of the error's address -/
structure FnP (P : Program) (w : World) (K : PySem.W.Frag) (mg : Str → Option Value) (base : Heap) (k : Nat) (f : Addr) (fd : FuncData) (ps : List Str) (Z : Obj → Prop) (sp : Addr → Sp) : Prop where
  len : ∀ a vs H Q E, sp a vs H Q E → vs.length = ps.length
  run : ∀ (A : Around) (outer : List Env) (s : Shared) (H : Hp) (args : Args) (us : List Value) (vs : List V) (Q : VK) (E : XK) (p : Addr × Obj), RoomH k A → Z p.2 → PinOk outer H s p → Env0 P w K mg base A outer s H →
    BindsTo s fd args (ps.zip us) → Vals vs us → sp p.1 vs H Q E → codeAny (model P w) A (.call (.ref f) args) (CR CX0 outer P w H s Q E) s
theorem fnP_of {P : Program} {w : World} {K : PySem.W.Frag} {mg : Str → Option Value} {base : Heap} {k : Nat} {f : Addr} {fd : FuncData} {x qual : Str} {st : Stmt} {N ps : List Str} {Z : Obj → Prop} {sp : Addr → Sp}
    (F : Fun K x qual st f fd) (S : FnScope N ps (defScope st)) (len : ∀ a vs H Q E, sp a vs H Q E → vs.length = ps.length)
    (body : ∀ (cdv : Value) (A : Around) (outer : List Env) (s : Shared) (H : Hp) (vs : List V) (Q : VK) (E : XK) (p : Addr × Obj), Z p.2 → RoomH k (A.deeper (envOfC qual (defScope st) s.heap.objs.size f cdv)) → sp p.1 vs H Q E →
      ∃ t, PSs (cxH CX0 P w K mg base N qual (defScope st) f cdv A outer s H E p) (defBody st) t ∧ t { nx := fun _ H' => Q .non H', rt := Q } (L2.start N vs) H) :
    FnP P w K mg base (k + 1) f fd ps Z sp := by
  obtain ⟨oc, od, kV, doc, pm, an, cdv, ct, osl, rfl, look, code⟩ := F.ex
  refine ⟨len, fun A outer s H args us vs Q E p room hz pin env bnd rels want => ?_⟩
  have hlen := len _ _ _ _ _ want
  have kin : K.In s.heap := env.mod.kin.keeps fun b o q => (env.bs b o q).1
  have nolim : s.heap.NoLimit := env.mod.nolimit.keeps fun b o q => (env.bs b o q).1
  have kinds : ∀ y ∈ ps.zip us, (defScope st).names.lookup y.1 = some .local ∨ ((defScope st).names.lookup y.1 = some .cell ∧ ((cellsFrom (s.heap.objs.size + 1) (defScope st).names []).lookup y.1).isSome = true) := by
    intro y hy
    obtain ⟨n, v⟩ := y
    cases S.par n (List.of_mem_zip hy).1 with
    | inl z => exact .inl z
    | inr z => exact .inr ⟨z, PySem.W.cellsFrom_some _ _ _ (.inl z)⟩
  refine codeAny_call_function room.depth (kin _ _ look) rfl S.co S.gen rfl (PySem.W.codeRec_of kin code) (bnd _ _ _ _ ?_)
  refine wpAny_newFunctionEnv_cells S.kind kinds fun e2 he2 s1 hx => ?_
  subst he2
  refine ⟨nolim.keeps hx.toInCall.keep, codeAny_func ?_⟩
  obtain ⟨t, tb, tq⟩ := body cdv A outer s H vs Q E p hz (room.deeper _) want
  have I : Inv (cxH CX0 P w K mg base N qual (defScope st) f cdv A outer s H E p) [] (L2.start N vs) H s1 := inv_startH S pin env hlen rels hx
  refine wpAny_mono (tb.run [] s1 (L2.start N vs) H _ I tq) (fun fl s' hs => ?_) fun e s' hs => hs
  cases fl with
  | ret u =>
    obtain ⟨v, _, H', J, rv, q⟩ := hs
    exact ⟨v, H', J.os, J.bare, J.base, J.hok, rv, q⟩
  | next =>
    obtain ⟨_, H', J, q⟩ := hs
    exact ⟨V.non, H', J.os, J.bare, J.base, J.hok, rfl, q⟩
  | brk =>
    obtain ⟨_, _, _, q⟩ := hs
    exact False.elim q
  | cont =>
    obtain ⟨_, _, _, q⟩ := hs
    exact False.elim q
def tCallP (a : Addr) (sp : Addr → Sp) (t : TA) : TE := fun σ H Q => t σ H fun vs H1 => sp a vs H1 Q (fun _ _ _ => False)
theorem pe_callP {X : Cx} {a : Addr} {oe : Obj} {pn : List (Addr × Obj)} {k : Nat} {f : Addr} {fd : FuncData} {ps : List Str} {Z : Obj → Prop} {sp : Addr → Sp} {x : Str} {q pos : Pos} {e : Expr} {es : List Expr} {t : TA}
    (F : FnP (X.suite a ((a, oe) :: pn)).prog (X.suite a ((a, oe) :: pn)).w (X.suite a ((a, oe) :: pn)).K (X.suite a ((a, oe) :: pn)).mg (X.suite a ((a, oe) :: pn)).base k f fd ps Z sp) (room : RoomH k (X.suite a ((a, oe) :: pn)).A) (hz : Z oe) (glob : Gl (X.suite a ((a, oe) :: pn)) x) (hm : (X.suite a ((a, oe) :: pn)).mg x = some (.ref f))
    (kp : PySem.W.keepIn (X.suite a ((a, oe) :: pn)).K (.ref f) = true) (bnd : Binds (X.suite a ((a, oe) :: pn)).K fd ps []) (args : PA (X.suite a ((a, oe) :: pn)) (e :: es) t) (n1 : (x == ("__debug__" : Str)) = false := by decide)
    (s1 : starEach (e :: es) (X.suite a ((a, oe) :: pn)).env = (false, eval e (X.suite a ((a, oe) :: pn)).env) :: starEach es (X.suite a ((a, oe) :: pn)).env := by rfl) (s2 : (backTo pos (starEach es (X.suite a ((a, oe) :: pn)).env)).any (·.1) = false := by rfl) :
    PE (X.suite a ((a, oe) :: pn)) (.Call (.Name x q) (e :: es) [] pos) (tCallP a sp t) := by
  constructor
  intro pins s σ H want I ask
  refine wpAny_Call_Name_kw (ld_glob I glob hm ?_ n1)
  refine PySem.W.callWith_K (h₀ := (X.suite a ((a, oe) :: pn)).base) I.ok.mod.kin kp (thn (args.run pos pins s σ H _ I ask) fun us st ⟨vs, H1, I1, rels, q1⟩ => ⟨I1.kIn, ?_⟩) s1 s2
  have hl : us.length = ps.length := by
    rw [← rels.length]
    exact F.len _ _ _ _ _ q1
  have b := bnd st us I1.kIn (by rw [List.append_nil]; exact hl)
  rw [List.append_nil] at b
  have P1 := I1.pin (a, oe) (List.mem_append.mpr (.inl List.mem_cons_self))
  have pin : PinOk (X.suite a ((a, oe) :: pn)).stack H1 st (a, oe) := ⟨P1.1, P1.2.1, fun m => (List.mem_cons.mp (I1.stkSub a m)).elim P1.2.2.1 P1.2.2.2.1, P1.2.2.2.2⟩
  refine wpAny_call (codeAny_mono (F.run (X.suite a ((a, oe) :: pn)).A (X.suite a ((a, oe) :: pn)).stack st H1 ⟨us, []⟩ us vs want (fun _ _ _ => False) (a, oe) room hz pin I1.env0 b rels q1) fun rr s' hq => ?_)
  cases rr with
  | error er => exact hq.elim
  | ok fl =>
    cases fl with
    | ret u => exact I1.after hq
    | next => exact hq.elim
    | brk => exact hq.elim
    | cont => exact hq.elim
/-! ### isinstance(e, (C1, ..)) in such a def -/
/-- the error's object: its class D, its own dict at d -/
def ZIs (D : Addr) (d : Option Addr) : Obj → Prop := fun o => Zc (.ref D) d o ∧ ∃ vs, o.data = .fields vs
def rIsP (K : PySem.W.Frag) (D : Addr) (d : Option Addr) (a : Addr) : List V → Hp → VK → Prop := fun xs H Q => ∃ (tp : Addr) (cs : List V) (ws : List Value) (b : Bool), xs = [.ref a, .ref tp] ∧ H tp = some (.tup cs) ∧ Paired ClsV cs ws ∧ ExcC K D ∧
  (match d with | some dd => ∃ fs, H dd = some (.xd fs) | none => True) ∧ PySem.W.kitAny K (.ref D) ws = some b ∧ Q (.bl b) H
theorem call_isP {CX : CXT} {P : Program} {w : World} {K : PySem.W.Frag} {mg : Str → Option Value} {base : Heap} {N : List Str} {qual : Str} {scope : Scope} {f : Addr} {cd : Value} {A : Around} {outer : List Env} {s0 : Shared} {H0 : Hp} {E : XK} {p : Addr × Obj} {D : Addr} {d : Option Addr} (hz : ZIs D d p.2) :
    CallR (cxH CX P w K mg base N qual scope f cd A outer s0 H0 E p) (.builtin "isinstance") (rIsP K D d p.1) := by
  intro pins s σ H xs us Q I rels ask
  obtain ⟨tp, cs, ws, b, rfl, ht, k, c, hd, e, q⟩ := ask
  obtain ⟨u1, u2, rfl, r1, r2⟩ := vals2 rels
  cases (show u1 = Value.ref p.1 from r1)
  cases (show u2 = Value.ref tp from r2)
  obtain ⟨⟨hc, hdd⟩, vs, hv⟩ := hz
  have P1 := I.pin p (List.mem_append.mpr (.inl (List.mem_cons_self)))
  obtain ⟨_, its, rv, o, h1, h2, n, h3⟩ := (show ObjOk _ _ H s.heap tp (.tup cs) from I.hok tp _ ht)
  have e3 := ClsV.all k rv
  subst e3
  obtain ⟨oc, od, dt, sl⟩ := o
  simp only at h2 h3
  subst h2 h3
  have J : ∃ od', PySem.W.InstAt s.heap p.1 p.2 D od' := by
    cases d with
    | none => exact ⟨none, P1.1, hc, by unfold PySem.W.notCls; rw [hv] <;> rfl, by rw [hdd]; trivial⟩
    | some dd =>
      obtain ⟨fs, hx⟩ := hd
      obtain ⟨mA, hns, _⟩ := I.hok dd _ hx
      obtain ⟨od, ho, _⟩ := lookIn_ns hns
      exact ⟨some od, P1.1, hc, by unfold PySem.W.notCls; rw [hv] <;> rfl, by rw [hdd]; exact ho⟩
  obtain ⟨od', J⟩ := J
  exact PySem.W.kia_tup (kit_exc c) I.kIn J h1 e (fun z => nomatch z) fun tk => ⟨.bl b, H, I.kept (t' := tk) fun _ _ z => z, rfl, q⟩
theorem kitAny_no {K : PySem.W.Frag} {t : Value} : ∀ {cs : List Value}, (∀ c ∈ cs, PySem.W.kitOne K t c = some false) → PySem.W.kitAny K t cs = some false
  | [], _ => rfl
  | c :: r, h => by
    unfold PySem.W.kitAny
    rw [h c List.mem_cons_self]
    exact kitAny_no fun d hd => h d (List.mem_cons_of_mem _ hd)
end WG

set_option Elab.async false
set_option linter.all false
set_option maxRecDepth 100000
set_option maxHeartbeats 4000000
namespace WG
open PySem PySem.Spec PyProof.Rows L2
/-- isinstance(e, c), e the caught exception at a, without a dict of its own -/
def rIsN (K : PySem.W.Frag) (a : Addr) (cls : Value) (d : Option Addr) : List V → Hp → VK → Prop := fun xs H Q => ∃ (D : Addr) (c : V) (cv : Value) (b : Bool), cls = .ref D ∧ d = none ∧ ExcC K D ∧ xs = [.ref a, c] ∧ (∀ u, RelV c u → u = cv) ∧ PySem.W.kitOne K (.ref D) cv = some b ∧ Q (.bl b) H
theorem call_isN {X : Cx} {a : Addr} {oe : Obj} {cls : Value} {d : Option Addr} {pn : List (Addr × Obj)} (hz : Zc cls d oe) (hf : ∃ vs, oe.data = .fields vs) : CallR (X.suite a ((a, oe) :: pn)) (.builtin "isinstance") (rIsN X.K a cls d) := by
  intro pins s σ H xs us Q I r h
  obtain ⟨D, cl, cv, b, rfl, rfl, c, rfl, hcv, e, q⟩ := h
  exact call_isE c hz hf pins s σ H _ us Q I r ⟨cl, cv, b, rfl, hcv, e, q⟩
end WG
namespace WB
open PySem PySem.Spec PyProof.Rows L2 WG L2H
open TL (tl)
theorem kit_subT {K : PySem.W.Frag} {a : Addr} {T : String} {b : Bool} (hm : PySem.W.kitMeta T = true) (h : PySem.W.subIn K (.ref a) (.type T) = some b) : PySem.W.kitOne K (.ref a) (.type T) = some b := by
  unfold PySem.W.kitOne
  rw [if_neg (by intro z; cases z)]
  unfold PySem.W.kitCls
  dsimp only
  rw [if_pos hm]
  exact h
theorem kit_subR {K : PySem.W.Frag} {a c : Addr} {b : Bool} (h1 : PySem.W.hasDictIn K c = true) (h2 : PySem.W.typeIn K (.ref c) = some (.type "type")) (h3 : PySem.W.subIn K (.ref a) (.ref c) = some b) (h4 : PySem.W.subIn K (.ref a) (.ref a) = some true) : PySem.W.kitOne K (.ref a) (.ref c) = some b := by
  obtain ⟨cd, hc, _⟩ := PySem.W.any_some h1
  unfold PySem.W.kitOne
  split
  · rename_i e
    have e2 : a = c := Value.ref.inj (beq_iff_eq.mp e)
    subst e2
    rw [h4] at h3
    exact h3
  · unfold PySem.W.kitCls
    dsimp only
    have e : ((PySem.W.clsIn K c).isSome && PySem.W.typeIn K (.ref c) == some (.type "type")) = true := by rw [hc, h2] <;> rfl
    rw [if_pos e]
    exact h3
abbrev st_is_other : Stmt := topS 29
theorem sc_is_other : FnScope ["_law_e"] ["_law_e"] (defScope st_is_other) := ⟨rfl, rfl, rfl, by decide +kernel, rfl, by decide +kernel, by decide +kernel⟩
abbrev st_told : Stmt := topS 30
theorem sc_told : FnScope ["_law_text_here", "_law_told_here", "_law_e"] ["_law_text_here"] (defScope st_told) := ⟨rfl, rfl, rfl, by decide +kernel, rfl, by decide +kernel, by decide +kernel⟩
/-! ### the caught error looked at -/
structure Others (K : PySem.W.Frag) (mg : Str → Option Value) (D : Addr) (C1 C2 C3 C4 C5 C6 C7 C8 C9 : Addr) : Prop where
  g1 : mg "BadDefault" = some (.ref C1)
  g2 : mg "Clash" = some (.ref C2)
  g3 : mg "Fault" = some (.ref C3)
  g4 : mg "NoCommand" = some (.ref C4)
  g5 : mg "NoMaker" = some (.ref C5)
  g6 : mg "NoName" = some (.ref C6)
  g7 : mg "NoOption" = some (.ref C7)
  g8 : mg "NoPlace" = some (.ref C8)
  g9 : mg "Unmade" = some (.ref C9)
  no : ∀ c ∈ [Value.ref C1, .ref C2, .ref C3, .ref C4, .ref C5, .ref C6, .ref C7, .ref C8, .ref C9], PySem.W.kitOne K (.ref D) c = some false
section
variable {P : Program} {w : World} {K : PySem.W.Frag} {mg : Str → Option Value} {base : Heap}
def ZC (cls : Value) (d : Option Addr) : Obj → Prop := fun o => Zc cls d o ∧ ∃ vs, o.data = .fields vs
def spOther (D : Addr) (cls : Value) (d : Option Addr) : Addr → Sp := fun a vs H Q _ => vs = [.ref a] ∧ cls = .ref D ∧ d = none ∧ ∀ H', Same H H' → Q (.bl false) H'
theorem ok_other {D f : Addr} {fd : FuncData} {k : Nat} {C1 C2 C3 C4 C5 C6 C7 C8 C9 : Addr} (F : Fun K "_law_is_other" "_law_is_other" st_is_other f fd) (O : Others K mg D C1 C2 C3 C4 C5 C6 C7 C8 C9) (TC : ExcC K D) (m_isinstance : mg "isinstance" = none) (cls : Value) (d : Option Addr) :
    FnP P w K mg base (k + 1) f fd ["_law_e"] (ZC cls d) (spOther D cls d) := by
  refine fnP_of F sc_is_other (fun a vs H Q E h => ?_) (fun cdv A outer s H vs Q E p hz hr h => ?_)
  · obtain ⟨rfl, _⟩ := h
    rfl
  · obtain ⟨rfl, rfl, rfl, q⟩ := h
    have hz2 : ZIs D none p.2 := hz
    refine ⟨_, pss_one (ps_ret (pe_callB (call_isP hz2) (by rfl) m_isinstance (by decide +kernel) (pa_cons (pv 0) (pa_cons (pe_tup (pa_cons (pe_glob (v := .ref C1) rfl O.g1 rfl) (pa_cons (pe_glob (v := .ref C2) rfl O.g2 rfl) (pa_cons (pe_glob (v := .ref C3) rfl O.g3 rfl) (pa_cons (pe_glob (v := .ref C4) rfl O.g4 rfl) (pa_cons (pe_glob (v := .ref C5) rfl O.g5 rfl) (pa_cons (pe_glob (v := .ref C6) rfl O.g6 rfl) (pa_cons (pe_glob (v := .ref C7) rfl O.g7 rfl) (pa_cons (pe_glob (v := .ref C8) rfl O.g8 rfl) (pa_cons (pe_glob (v := .ref C9) rfl O.g9 rfl) pa_nil)))))))))) pa_nil)))), ?_⟩
    refine ⟨_, rfl, by show 9 ≤ sizeLine; decide, fun tp nt => ?_⟩
    exact ⟨tp, _, _, false, rfl, upd_same, .cons (.own _) (.cons (.own _) (.cons (.own _) (.cons (.own _) (.cons (.own _) (.cons (.own _) (.cons (.own _) (.cons (.own _) (.cons (.own _) .nil)))))))), TC, True.intro, kitAny_no O.no, q _ (same_upd nt)⟩
/-- what may be asked of a caught NoRow -/
structure CaughtR (K : PySem.W.Frag) (CN BE : Addr) : Prop where
  c : ExcC K CN
  eb : PySem.W.exmOne K (.ref CN) (.ref BE) = some true
  v : PySem.W.kitOne K (.ref CN) (.type "ValueError") = some true
  n : PySem.W.kitOne K (.ref CN) (.ref CN) = some true
def tbTold (K : PySem.W.Frag) (CN : Addr) (W : WX) : TS := tAsg (tTup (tCons (tC (.str (Str.ofString "row"))) (tCons (tCallS (spWordsOf K CN) (WE W) (tCons (tVar 0) tNil)) tNil))) (gName 1)
def tsTold (K : PySem.W.Frag) (CN : Addr) : Addr → Value → Option Addr → TS := fun a cls d =>
  tAsg (tTup (tCons (tC (.str (Str.ofString "refused"))) (tCons (tCB (rIsN K a cls d) (tCons (tVar 2) (tCons (tC (.ref CN)) tNil))) (tCons (tCB (rIsN K a cls d) (tCons (tVar 2) (tCons (tC (.ty "ValueError")) tNil))) (tCons (tCallP a (spOther CN cls d) (tCons (tVar 2) tNil)) tNil))))) (gName 1)
abbrev refT : List V := [.str (Str.ofString "refused"), .bl true, .bl true, .bl false]
def spTold (K : PySem.W.Frag) : Sp := fun vs H Q _ => ∃ v : V, vs = [v] ∧ ((∃ z : Str, v = .str z ∧ z.length ≤ 900 ∧ (∀ (ys : List Str) t l H', rdT (tl z) = some (ys.map tl) → Same H H' → H t = none → H l = none → H' l = some (.lst (ys.map V.str)) → H' t = some (.tup [.str (Str.ofString "row"), .ref l]) → Q (.ref t) H') ∧
    (rdT (tl z) = none → ∀ t H', Same H H' → H t = none → H' t = some (.tup refT) → Q (.ref t) H')) ∨
  (NoTx K H v ∧ (∀ H', Same H H' → NoTx K H' v) ∧ ∀ t H', Same H H' → H t = none → H' t = some (.tup refT) → Q (.ref t) H'))
theorem ok_told {CN BE f fL fO : Addr} {fd fdL fdO : FuncData} {k : Nat} (F : Fun K "_law_told" "_law_told" st_told f fd) (D_words_of : Df K mg "words_of" st_words_of ["text"] fL fdL) (G_words_of : FnOk P w K mg base (L2.CX P w) (k + 4) fL fdL ["text"] (spWordsOf K CN))
    (D_other : Df K mg "_law_is_other" st_is_other ["_law_e"] fO fdO) (G_other : ∀ cls d, FnP P w K mg base (k + 4) fO fdO ["_law_e"] (ZC cls d) (spOther CN cls d)) (CT : CaughtR K CN BE) (gN : mg "NoRow" = some (.ref CN)) (gB : mg "BenchError" = some (.ref BE)) (m_isinstance : mg "isinstance" = none) (m_ValueError : mg "ValueError" = none) :
    FnOk P w K mg base CX0 (k + 5) f fd ["_law_text_here"] (spTold K) := by
  refine F.ok sc_told (fun vs H Q E h => ?_) (fun cdv A outer s H vs Q E hr h => ?_)
  · obtain ⟨v, rfl, _⟩ := h
    rfl
  · obtain ⟨v, rfl, h⟩ := h
    refine ⟨_, PSs.nox (pss_cons (ps_set (i := 1) sc_told.nd rfl (.inl rfl) (pe_tup (pa_cons pe_str pa_nil)))
      (pss_cons (ps_try_as (i := 2) (tb := tbTold K CN) (ts := tsTold K CN) (Wout := fun _ _ _ _ => False) rfl rfl sc_told.nd rfl rfl ⟨rfl, by decide, Or.inl gB⟩ takes0
          (fun W pn xe tk _ => pss_one (ps_set (i := 1) sc_told.nd rfl (Or.inl rfl) (by exact (pe_tup (pa_cons pe_str (pa_cons (by exact (pe_callS G_words_of hr (by rfl) D_words_of.g D_words_of.F.kp D_words_of.b (fun σ => passAt tk σ) (by exact (pa_cons (pv 0) pa_nil)))) pa_nil))))))
          (fun a oe cls d pn hz hf => pss_one (ps_set (i := 1) sc_told.nd rfl (Or.inl rfl) (by exact (pe_tup (pa_cons pe_str (pa_cons (pe_callB (call_isN hz hf) (by rfl) m_isinstance (by decide +kernel) (pa_cons (pv 2) (pa_cons (pe_glob (v := .ref CN) rfl gN rfl) pa_nil))) (pa_cons (pe_callB (call_isN hz hf) (by rfl) m_isinstance (by decide +kernel) (pa_cons (pv 2) (pa_cons (pe_bltn (v := .ty "ValueError") (by rfl) m_ValueError (by decide +kernel) rfl) pa_nil))) (pa_cons (pe_callP (G_other cls d) ⟨(roomH_of hr).dp, (roomH_of hr).un⟩ ⟨hz, hf⟩ (by rfl) D_other.g D_other.F.kp D_other.b (pa_cons (pv 2) pa_nil)) pa_nil)))))))))
      (pss_one (ps_ret (pv 1))))), ?_⟩
    refine ⟨by show 1 ≤ sizeLine; decide, fun t0 n0 => ?_⟩
    first | refine go n0 fun H1 s1 e1 => ?_ | refine goT n0 fun H1 s1 e1 => ?_
    rcases h with ⟨z, rfl, lz, qs, qn⟩ | ⟨nt, nts, q⟩
    · refine ⟨_, rfl, _, rfl, .inl ⟨z, rfl, lz, fun ys l H2 er s2 nl el => ?_, fun er H2 s2 => ⟨true, CT.eb, fun _ a0 na0 => ?_, fun r => Bool.noConfusion r⟩⟩⟩
      · refine ⟨by show 2 ≤ sizeLine; decide, fun t nt => ?_⟩
        refine ⟨_, rfl, qs ys t l _ er ((s1.trans s2).trans (same_upd nt)) ((s1.trans s2).free nt) (s1.free nl) ?_ upd_same⟩
        rw [upd_ne (ne_of_none el nt)]
        exact el
      · refine ⟨.ref a0, rfl, CN, .ref CN, .ref CN, true, rfl, rfl, CT.c, rfl, fun u hu => hu, CT.n, ?_⟩
        refine ⟨.ref a0, rfl, CN, .ty "ValueError", .type "ValueError", true, rfl, rfl, CT.c, rfl, fun u hu => hu, CT.v, ?_⟩
        refine ⟨.ref a0, rfl, rfl, rfl, rfl, fun H3 s3 => ?_⟩
        refine ⟨by show 4 ≤ sizeLine; decide, fun t nt => ?_⟩
        exact ⟨_, rfl, qn er t _ (((s1.trans s2).trans s3).trans (same_upd nt)) (((s1.trans s2).trans s3).free nt) upd_same⟩
    · refine ⟨_, rfl, v, rfl, .inr ⟨nts _ s1, ⟨true, CT.eb, fun _ a0 na0 => ?_, fun r => Bool.noConfusion r⟩⟩⟩
      refine ⟨.ref a0, rfl, CN, .ref CN, .ref CN, true, rfl, rfl, CT.c, rfl, fun u hu => hu, CT.n, ?_⟩
      refine ⟨.ref a0, rfl, CN, .ty "ValueError", .type "ValueError", true, rfl, rfl, CT.c, rfl, fun u hu => hu, CT.v, ?_⟩
      refine ⟨.ref a0, rfl, rfl, rfl, rfl, fun H3 s3 => ?_⟩
      refine ⟨by show 4 ≤ sizeLine; decide, fun t nt => ?_⟩
      exact ⟨_, rfl, q t _ ((s1.trans s3).trans (same_upd nt)) ((s1.trans s3).free nt) upd_same⟩
end
end WB

set_option Elab.async false
set_option linter.all false
set_option maxRecDepth 100000
set_option maxHeartbeats 4000000
namespace WB
open PySem PySem.Spec PyProof.Rows L2
open TL (tl)
abbrev st_right : Stmt := topS 31
theorem sc_right : FnScope ["_law_text_here", "_law_due", "_law_told_here", "_law_word"] ["_law_text_here"] (defScope st_right) := ⟨rfl, rfl, rfl, by decide +kernel, rfl, by decide +kernel, by decide +kernel⟩
theorem tt_gen {t : TT} {σ : L2.St} {H : Hp} (D : Bool → Hp → Prop) {R : Bool → Hp → Prop} (e : ∀ R : Bool → Hp → Prop, (∀ b H', D b H' → R b H') → t σ H R) (c : ∀ b H', D b H' → R b H') : t σ H R := e R c
theorem mem_dblq {c : Nat} : ∀ {w : List Nat}, c ∈ w → c ∈ dblq w
  | [], h => h
  | d :: w, h => by
    rw [dblq_cons]
    rcases List.mem_cons.mp h with rfl | h
    · refine List.mem_append_left _ ?_
      split
      · rename_i e
        rw [e]
        exact List.mem_cons_self
      · exact List.mem_cons_self
    · exact List.mem_append_right _ (mem_dblq h)
theorem mem_wq {c : Nat} {w : List Nat} (h : c ∈ w) : c ∈ wq w := by
  unfold wq
  split
  · exact List.mem_cons_of_mem _ (List.mem_append_left _ (mem_dblq h))
  · exact h
theorem mem_rowL {c : Nat} {w : List Nat} : ∀ {ws : List (List Nat)}, w ∈ ws → c ∈ w → c ∈ rowL ws
  | [], h, _ => by cases h
  | v :: vs, h, hc => by
    rw [rowL_cons]
    rcases List.mem_cons.mp h with rfl | h
    · exact List.mem_append_left _ (mem_wq hc)
    · refine List.mem_append_right _ ?_
      rw [if_neg (fun z => by rw [z] at h; cases h)]
      exact List.mem_cons_of_mem _ (mem_rowL h hc)
theorem read_mem {t : List Nat} {ws : List (List Nat)} (h : rdT t = some ws) : ∀ w ∈ ws, ∀ c ∈ w, c ∈ t := by
  intro w hw c hc
  unfold rdT at h
  split at h
  · cases h
    cases hw
  · obtain ⟨_, e⟩ := rd_sound h
    rw [e]
    exact mem_rowL hw hc
theorem dblq_ge : ∀ w : List Nat, w.length ≤ (dblq w).length
  | [] => Nat.zero_le _
  | d :: w => by
    have ih := dblq_ge w
    rw [dblq_cons, List.length_append, List.length_cons]
    split
    · show w.length + 1 ≤ 2 + (dblq w).length
      omega
    · show w.length + 1 ≤ 1 + (dblq w).length
      omega
theorem wq_ge (w : List Nat) : w.length ≤ (wq w).length := by
  unfold wq
  split
  · have := dblq_ge w
    rw [List.length_cons, List.length_append]
    omega
  · exact Nat.le_refl _
theorem rowL_word {w : List Nat} : ∀ {ws : List (List Nat)}, w ∈ ws → w.length ≤ (rowL ws).length
  | [], h => by cases h
  | v :: vs, h => by
    rw [rowL_cons, List.length_append]
    rcases List.mem_cons.mp h with rfl | h
    · have := wq_ge w
      omega
    · have ih := rowL_word h
      rw [if_neg (fun z => by rw [z] at h; cases h), List.length_cons]
      omega
theorem read_len {t : List Nat} {ws : List (List Nat)} (h : rdT t = some ws) : ∀ w ∈ ws, w.length ≤ t.length := by
  intro w hw
  unfold rdT at h
  split at h
  · cases h
    cases hw
  · obtain ⟨_, e⟩ := rd_sound h
    rw [e]
    exact rowL_word hw
theorem row_shaped (ys : List Str) (h : ∀ y ∈ ys, PyData.strOk y = true) : SeqAt.shaped (.tuple [.str (Str.ofString "row"), .list (ys.map PyData.str)]) = true := by
  obtain ⟨h1, h2⟩ := lay_strs ys h
  have h3 : PyData.strOk (Str.ofString "row") = true := by decide +kernel
  unfold SeqAt.shaped
  simp [PyData.canLay0, PyData.canLayAll0, PyData.depth, PyData.depthAll, h1, h2, h3]
theorem row_eqv (ys : List Str) : PyData.eqv (.tuple [.str (Str.ofString "row"), .list (ys.map PyData.str)]) (.tuple [.str (Str.ofString "row"), .list (ys.map PyData.str)]) = true := by
  have e := eqv_strs ys ys
  rw [decide_eq_true rfl] at e
  simp only [PyData.eqv, PyData.eqvAll, Bool.and_true] at e ⊢
  simp [e]
section
variable {P : Program} {w : World} {K : PySem.W.Frag} {mg : Str → Option Value} {base : Heap}
def spRight : Sp := fun vs H Q _ => ∃ z : Str, vs = [.str z] ∧ Tq B8 900 z ∧ ∀ H', Same H H' → Q (.bl true) H'
theorem ok_right {f fQ fB fR fT : Addr} {fd fdQ fdB fdR fdT : FuncData} {k : Nat} (F : Fun K "_law_right" "_law_right" st_right f fd) (D_read : Df K mg "_law_read" st_read ["_law_text_here"] fR fdR) (D_quoted : Df K mg "_law_quoted" st_quoted ["_law_text_here", "_law_at"] fQ fdQ) (D_bare : Df K mg "_law_bare" st_bare ["_law_text_here", "_law_at"] fB fdB)
    (D_told : Df K mg "_law_told" st_told ["_law_text_here"] fT fdT) (G_told : FnOk P w K mg base CX0 (k + 5) fT fdT ["_law_text_here"] (spTold K)) (m_len : mg "len" = none) (m_max : mg "max" = none) (m_isinstance : mg "isinstance" = none) (m_list : mg "list" = none) :
    FnOk P w K mg base CX0 (k + 6) f fd ["_law_text_here"] spRight := by
  have G_read : FnOk P w K mg base CX0 (k + 5) fR fdR ["_law_text_here"] spRead := ok_read D_read.F D_quoted D_bare m_len
  refine F.ok sc_right (fun vs H Q E h => ?_) (fun cdv A outer s H vs Q E hr h => ?_)
  · obtain ⟨z, rfl, _⟩ := h
    rfl
  · obtain ⟨z, rfl, tz, q⟩ := h
    refine ⟨_, pss_cons (ps_set (i := 1) sc_right.nd rfl (.inl rfl) (pe_call G_read hr (by rfl) D_read.g D_read.F.kp D_read.b .nil pass0 (pa_cons (pv 0) pa_nil)))
      (pss_cons (ps_if (pt_cmpR op_isN (pv 1) pe_non (nomark _)) (pss_one (ps_ret (pe_cmpR (op_eqD hr.units) (pe_call G_told hr (by rfl) D_told.g D_told.F.kp D_told.b .nil pass0 (pa_cons (pv 0) pa_nil)) (pe_tup (pa_cons pe_str (pa_cons pe_bl (pa_cons pe_bl (pa_cons pe_bl pa_nil))))) (nomark _)))) pss_nil)
      (pss_cons (ps_if (PW.pt (pw_or (pt_cmpR op_gt (pe_callB call_len_seq (by rfl) m_len PySem.boot_len (pa_cons (pv 1) pa_nil)) pe_int (nomark _)) (pw_or1 (pt_cmpR op_gt (pe_callBK (WG.cr_maxDef rfl) (by rfl) m_max (by decide +kernel) (pa_cons (pe_lc (own := [("_law_word", 3)]) (g := gName 3) (tt := tYes) rfl sc_right.nd (pi_list (pv 1)) (blkOk_by (N := ["_law_text_here", "_law_due", "_law_told_here", "_law_word"]) (sc := defScope st_right) (by decide +kernel)) (fun _ _ _ _ _ => pg_name (i := 3) sc_right.nd rfl (Or.inl rfl)) (fun _ _ _ _ _ => pts_nil) (fun _ _ _ _ _ => (pe_callB call_len_str (by rfl) m_len PySem.boot_len (pa_cons (pv 3) pa_nil)))) pa_nil) (pk_cons pe_int pk_nil)) pe_int (nomark _))))) (pss_one (ps_ret pe_bl)) pss_nil)
      (pss_cons (ps_set (i := 2) sc_right.nd rfl (.inl rfl) (pe_call G_told hr (by rfl) D_told.g D_told.F.kp D_told.b .nil pass0 (pa_cons (pv 0) pa_nil)))
      (pss_one (ps_ret (pe_and (pe_cmpR (op_eqD hr.units) (pv 2) (pe_tup (pa_cons pe_str (pa_cons (pv 1) pa_nil))) (nomark _)) (pe_one (pe_callB call_isi (by rfl) m_isinstance (by decide +kernel) (pa_cons (pe_ix ix_tup (pv 2) pe_int (fun _ _ => rfl)) (pa_cons (pe_bltn (v := .ty "list") (by rfl) m_list (by decide +kernel) rfl) pa_nil)))))))))), ?_⟩
    have hz : z.length ≤ 900 := tz.le
    refine ⟨.str z, rfl, z, rfl, hz, fun er H1 s1 => ?_, fun ys l H1 er s1 nl el => ?_⟩
    · refine ⟨_, rfl, rfl, _, rfl, ?_⟩
      rw [decide_eq_true rfl]
      refine ⟨.str z, rfl, .str z, rfl, .inl ⟨z, rfl, hz, (fun ys _ _ _ er' => by rw [er] at er'; cases er'), fun _ t H2 s2 nt et => ?_⟩⟩
      refine ⟨by show 4 ≤ sizeLine; decide, fun p np => ?_⟩
      have et2 : (upd H2 p (.tup refT)) t = some (.tup refT) := by
        rw [upd_ne (ne_of_none et np)]
        exact et
      refine ⟨_, _, .tup (SqT.of et2) (.cons (.str _) (.cons (.bl _) (.cons (.bl _) (.cons (.bl _) .nil)))), .tup (SqT.of upd_same) (.cons (.str _) (.cons (.bl _) (.cons (.bl _) (.cons (.bl _) .nil)))), by decide +kernel, by decide +kernel, ?_⟩
      rw [show PyData.eqv (.tuple [.str (Str.ofString "refused"), .bool true, .bool true, .bool false]) (.tuple [.str (Str.ofString "refused"), .bool true, .bool true, .bool false]) = true from by decide +kernel]
      exact q _ ((s1.trans s2).trans (same_upd np))
    · have okz : ∀ y ∈ ys, PyData.strOk y = true := fun y hy => strOk_of fun c hc => tz.pl c (read_mem er (tl y) (List.mem_map_of_mem hy) c hc)
      refine ⟨_, rfl, rfl, _, rfl, ?_⟩
      rw [decide_eq_false (show ¬ V.ref l = V.non from fun h => by cases h)]
      -- the two looks
      dsimp only [tSeq, tIfS]
      refine iteF ?_
      dsimp only [tNext]
      refine tt_gen (t := tOr _ _) (fun _ H' => Same H1 H') (fun R c => ?_) ?_
      · refine ⟨.ref l, rfl, l, _, rfl, .inl (SqL.of el), _, 40, rfl, rfl, _, rfl, ite2 (fun e => c _ _ (Same.refl _)) (fun e => ?_)⟩
        refine ⟨.ref l, rfl, l, rfl, ⟨_, SqL.of el⟩, fun D nD => ?_⟩
        refine lc_list (K := K) (a := l) (xs := ys.map V.str) (fun i Hc => Same H1 Hc ∧ ∃ ns : List Int, Hc D = some (.lst (ns.map V.int)) ∧ ns.length = i) ⟨same_upd nD, [], upd_same, rfl⟩ (fun i Hc _ ⟨sc, _⟩ => SqL.of (sc _ _ el)) (fun i x Hc hx ⟨sc, ns, eD, eu⟩ => ?_) (fun Hc ⟨sc, ns, eD, eu⟩ => ?_)
        · rw [List.getElem?_map] at hx
          obtain ⟨p, ep, rfl⟩ := Option.map_eq_some_iff.mp hx
          have hil : i < ys.length := (List.getElem?_eq_some_iff.mp ep).1
          have h40 : ys.length ≤ 40 := by
            have : ¬ ((40 : Int) < ((ys.map V.str).length : Int)) := fun h => e (decide_eq_true h)
            rw [List.length_map] at this
            omega
          have lp : p.length ≤ sizeLine := by
            have h1 := read_len er (tl p) (List.mem_map_of_mem (List.mem_of_getElem? ep))
            have h2 := TL.len_tl p
            have h3 := TL.len_tl z
            rw [sizeLine_eq]
            omega
          refine ⟨rfl, .str p, rfl, p, rfl, lp, _, eD, ?_, ?_, ns ++ [(p.length : Int)], ?_, ?_⟩
          · rw [List.length_map]
            exact small1000 (by omega)
          · intro b o e
            rw [upd_ne (ne_of_none e nD)]
            exact sc b o e
          · rw [upd_same, List.map_append]
            rfl
          · rw [List.length_append, eu]
            rfl
        · refine ⟨D, ns, 0, rfl, rfl, SqL.of eD, fun m => ?_⟩
          exact ⟨_, 60, rfl, rfl, _, rfl, c _ _ sc⟩
      · intro b H2 s2
        refine ite2 (fun _ => ?_) (fun _ => ?_)
        · exact q _ (s1.trans s2)
        refine ⟨.str z, rfl, .str z, rfl, .inl ⟨z, rfl, hz, fun ys' t l' H3 er' s3 nt nl' el' et => ?_, fun er' => by rw [er] at er'; cases er'⟩⟩
        have ey : ys' = ys := TL.map_tl_inj (Option.some.inj (er'.symm.trans er))
        subst ey
        have el3 := s3 _ _ (s2 _ _ el)
        refine ⟨.ref t, rfl, .ref l, rfl, by show 2 ≤ sizeLine; decide, fun p np => ?_⟩
        first | refine goT np fun H4 s4 e4 => ?_ | refine go np fun H4 s4 e4 => ?_
        refine ⟨_, _, .tup (SqT.of (s4 _ _ et)) (.cons (.str _) (.cons (.lst (SqL.of (s4 _ _ el')) (dp_strs _)) .nil)), .tup (SqT.of e4) (.cons (.str _) (.cons (.lst (SqL.of (s4 _ _ el3)) (dp_strs _)) .nil)), row_shaped _ okz, row_shaped _ okz, ?_⟩
        rw [row_eqv]
        refine ⟨_, rfl, ?_⟩
        refine ⟨.ref t, rfl, t, _, 1, .ref l', rfl, rfl, SqT.of (s4 _ _ et), atI_nat (j := 1) rfl, .ref l', _, _, _, true, rfl, ClsV.ty "list", TyX.base (TyOf.lst (s4 _ _ el')), kit_ty (show kitB "list" "list" = some true from by decide +kernel), ?_⟩
        exact q _ (((s1.trans s2).trans s3).trans s4)
end
end WB

set_option Elab.async false
set_option linter.all false
set_option maxRecDepth 100000
set_option maxHeartbeats 4000000
namespace WB
open PySem PySem.Spec PyProof.Rows L2
open TL (tl)
abbrev st_row : Stmt := topS 32
theorem sc_row : FnScope ["_law_pot_here", "_law_signs_here", "_law_k"] ["_law_pot_here"] (defScope st_row) := ⟨rfl, rfl, rfl, by decide +kernel, rfl, by decide +kernel, by decide +kernel⟩
abbrev st_spoilt : Stmt := topS 33
theorem sc_spoilt : FnScope ["_law_pot_here", "_law_text_here", "_law_at", "_law_signs_here", "_law_sign", "_law_way"] ["_law_pot_here", "_law_text_here"] (defScope st_spoilt) := ⟨rfl, rfl, rfl, by decide +kernel, rfl, by decide +kernel, by decide +kernel⟩
theorem row_sets : ∀ y ∈ [signs2, Str.ofString " 'a-=b", Str.ofString " 'a"], 0 < y.length ∧ y.length ≤ 200 ∧ ∀ c ∈ tl y, c < 256 := by decide +kernel
theorem rowL_most : ∀ (ws : List (List Nat)), (∀ w ∈ ws, w.length ≤ 12) → (rowL ws).length ≤ ws.length * 27
  | [], _ => Nat.zero_le _
  | w :: ws, h => by
    have ih := rowL_most ws fun v hv => h v (List.mem_cons_of_mem _ hv)
    have h1 := wq_len2 w
    have h2 := h w List.mem_cons_self
    rw [rowL_cons, List.length_append, List.length_cons, Nat.succ_mul]
    split
    · have : ([] : List Nat).length = 0 := rfl
      omega
    · rw [List.length_cons]
      omega
theorem dblq_mem {c : Nat} : ∀ {w : List Nat}, c ∈ dblq w → c ∈ w
  | [], h => h
  | d :: w, h => by
    rw [dblq_cons] at h
    rcases List.mem_append.mp h with h | h
    · split at h
      · rename_i e
        have h2 : c = 39 := by simpa using h
        rw [h2, e]
        exact List.mem_cons_self
      · rw [List.mem_singleton.mp h]
        exact List.mem_cons_self
    · exact List.mem_cons_of_mem _ (dblq_mem h)
theorem wq_mem {c : Nat} {w : List Nat} (h : c ∈ wq w) : c = 39 ∨ c ∈ w := by
  unfold wq at h
  split at h
  · rcases List.mem_cons.mp h with h | h
    · exact .inl h
    · rcases List.mem_append.mp h with h | h
      · exact .inr (dblq_mem h)
      · exact .inl (List.mem_singleton.mp h)
  · exact .inr h
theorem rowL_plain {p : Nat → Prop} (h32 : p 32) (h39 : p 39) : ∀ (ws : List (List Nat)), (∀ w ∈ ws, ∀ c ∈ w, p c) → ∀ c ∈ rowL ws, p c
  | [], _, c, hc => by
    have hc' : c ∈ ([] : List Nat) := hc
    cases hc'
  | w :: ws, h, c, hc => by
    rw [rowL_cons] at hc
    rcases List.mem_append.mp hc with hc | hc
    · rcases wq_mem hc with e | e
      · rw [e]
        exact h39
      · exact h w List.mem_cons_self c e
    · split at hc
      · cases hc
      · rcases List.mem_cons.mp hc with e | e
        · rw [e]
          exact h32
        · exact rowL_plain h32 h39 ws (fun v hv => h v (List.mem_cons_of_mem _ hv)) c e
section
variable {P : Program} {w : World} {K : PySem.W.Frag} {mg : Str → Option Value} {base : Heap}
def spRow : Sp := fun vs H Q _ => ∃ p : Addr, vs = [.ref p] ∧ Pot H p ∧ ∀ H' l (ys : List Str), But p H H' → Pot H' p → H' l = some (.lst (ys.map V.str)) → ys.length ≤ 12 → (∀ y ∈ ys, Tq B8 12 y) → Q (.ref l) H'
theorem ok_row {f fD fS fT : Addr} {fd fdD fdS fdT : FuncData} {k : Nat} (F : Fun K "_law_row" "_law_row" st_row f fd) (D_draw : Df K mg "_law_draw" sDraw ["_law_pot_here", "_law_many"] fD fdD) (D_signs : Df K mg "_law_signs" sSigns [] fS fdS)
    (D_text : Df K mg "_law_text" sText ["_law_pot_here", "_law_most", "_law_signs_here"] fT fdT) (m_divmod : mg "divmod" = none) (m_len : mg "len" = none) (m_range : mg "range" = none) :
    FnOk P w K mg base CX0 (k + 3) f fd ["_law_pot_here"] spRow := by
  have G_draw : FnOk P w K mg base CX0 (k + 2) fD fdD ["_law_pot_here", "_law_many"] spDraw := ok_draw D_draw.F m_divmod
  have G_signs : FnOk P w K mg base CX0 (k + 2) fS fdS [] spSigns := ok_signs D_signs.F
  have G_text : FnOk P w K mg base CX0 (k + 2) fT fdT ["_law_pot_here", "_law_most", "_law_signs_here"] spText := ok_text D_text.F D_draw m_divmod m_len m_range
  refine F.ok sc_row (fun vs H Q E h => ?_) (fun cdv A outer s H vs Q E hr h => ?_)
  · obtain ⟨p, rfl, _⟩ := h
    rfl
  · obtain ⟨p, rfl, hp, q⟩ := h
    refine ⟨_, pss_cons (ps_set (i := 1) sc_row.nd rfl (.inr rfl) (pe_ix ix_list (pe_lst (pa_cons (pe_call0 G_signs hr (by rfl) D_signs.g D_signs.F.kp D_signs.b .nil pass0) (pa_cons pe_str (pa_cons pe_str pa_nil)))) (pe_call G_draw hr (by rfl) D_draw.g D_draw.F.kp D_draw.b .nil pass0 (pa_cons (pv 0) (pa_cons pe_int pa_nil))) (fun _ _ => rfl)))
      (pss_one (ps_ret (pe_lc (own := [("_law_k", 2)]) (g := gName 2) (tt := tYes) rfl sc_row.nd (pi_range1 rfl m_range (pa_cons (pe_call G_draw hr (by rfl) D_draw.g D_draw.F.kp D_draw.b .nil pass0 (pa_cons (pv 0) (pa_cons pe_int pa_nil))) pa_nil)) (blkOk_by (N := ["_law_pot_here", "_law_signs_here", "_law_k"]) (sc := defScope st_row) (by decide +kernel)) (fun _ _ _ _ _ => (pg_name (i := 2) sc_row.nd rfl (Or.inl rfl))) (fun _ _ _ _ _ => pts_nil) (fun _ _ _ _ _ => (pe_call G_text hr (by rfl) D_text.g D_text.F.kp D_text.b .nil pass0 (pa_cons (pv 0) (pa_cons (pe_ix (r := rIxL K) ix_list (pe_lst (pa_cons pe_int (pa_cons pe_int (pa_cons pe_int pa_nil)))) (pe_call G_draw hr (by rfl) D_draw.g D_draw.F.kp D_draw.b .nil pass0 (pa_cons (pv 0) (pa_cons pe_int pa_nil))) (fun _ _ => rfl)) (pa_cons (pv 1) pa_nil)))))))), ?_⟩
    refine ⟨rfl, by show 3 ≤ sizeLine; decide, fun l1 n1 => ?_⟩
    refine ⟨.ref p, rfl, p, 3, rfl, hp.new n1, by decide, by decide, fun H2 d2 b2 p2 d20 d21 => ?_⟩
    obtain ⟨sg, sgm, sge⟩ := at_strs [signs2, Str.ofString " 'a-=b", Str.ofString " 'a"] d2 d20 (by show d2 < 3; exact d21)
    obtain ⟨hz0, hz1, hz2⟩ := row_sets sg sgm
    refine ⟨l1, _, d2, .str sg, rfl, rfl, SqL.of (b2 _ _ (hp.ne n1).symm upd_same), sge, ?_⟩
    have b12 : But p H H2 := (But.new n1).trans b2
    refine ⟨.ref p, rfl, p, 13, rfl, p2, by decide, by decide, fun H3 d b3 p3 d0 d1 => ?_⟩
    refine ⟨d, rfl, by omega, by omega, fun D nD => ?_⟩
    have npD : p ≠ D := p3.ne nD
    refine lc_range (lo := 0) (n := d.toNat) (fun i Hc => But p H3 Hc ∧ Pot Hc p ∧ ∃ ys : List Str, Hc D = some (.lst (ys.map V.str)) ∧ ys.length = i ∧ ∀ y ∈ ys, Tq B8 12 y)
      ⟨But.new nD, p3.new nD, [], upd_same, rfl, fun y hy => by cases hy⟩ (fun i Hc hi ⟨bc, pc, ys, eD, el, hys⟩ => ?_) (fun Hc ⟨bc, pc, ys, eD, el, hys⟩ => ?_)
    · refine ⟨rfl, .ref p, rfl, by show 3 ≤ sizeLine; decide, fun l2 n2 => ?_⟩
      refine ⟨.ref p, rfl, p, 3, rfl, pc.new n2, by decide, by decide, fun H6 d6 b6 p6 d60 d61 => ?_⟩
      obtain ⟨mo, mom, moe⟩ := at_ints [(1 : Int), 4, 12] d6 d60 (by show d6 < 3; exact d61)
      have hmo : 0 < mo ∧ mo ≤ 12 := (by decide : ∀ y ∈ [(1 : Int), 4, 12], 0 < y ∧ y ≤ 12) mo mom
      refine ⟨l2, _, d6, .int mo, rfl, rfl, SqL.of (b6 _ _ (pc.ne n2).symm upd_same), moe, .str sg, rfl, p, mo, sg, rfl, p6, by omega, by omega, hz0, hz1, fun H7 y b7 p7 ty => ?_⟩
      have eD7 : H7 D = some (.lst (ys.map V.str)) := b7 _ _ npD.symm (b6 _ _ npD.symm (by rw [upd_ne (ne_of_none eD n2)]; exact eD))
      have bc7 : But p H3 H7 := ((bc.trans (But.new n2)).trans b6).trans b7
      refine ⟨ys.map V.str, eD7, ?_, ?_, ?_, ys ++ [y], ?_, ?_, ?_⟩
      · rw [List.length_map, el]
        exact small1000 (by omega)
      · exact fun b o nb e => by
          rw [upd_ne (ne_of_none e nD)]
          exact bc7 b o nb e
      · obtain ⟨x, y, e, h1, h2⟩ := p7
        refine ⟨x, y, ?_, h1, h2⟩
        rw [upd_ne npD]
        exact e
      · rw [upd_same, List.map_append]
        rfl
      · rw [List.length_append, el]
        rfl
      · intro z hz
        rcases List.mem_append.mp hz with hz | hz
        · exact hys z hz
        · rw [List.mem_singleton.mp hz]
          exact ty.mono (by omega) hz2
    · exact q _ D ys ((b12.trans b3).trans bc) pc eD (by omega) hys
/-! ### _law_spoilt -/
def spSpoilt : Sp := fun vs H Q _ => ∃ (p : Addr) (z : Str) (n : Nat), vs = [.ref p, .str z] ∧ Pot H p ∧ Tq B8 n z ∧ n ≤ 500 ∧ ∀ H' (y : Str), But p H H' → Pot H' p → Tq B8 (n + 2) y → Q (.str y) H'
theorem ok_spoilt {f fD fS : Addr} {fd fdD fdS : FuncData} {k : Nat} (F : Fun K "_law_spoilt" "_law_spoilt" st_spoilt f fd) (D_draw : Df K mg "_law_draw" sDraw ["_law_pot_here", "_law_many"] fD fdD) (D_signs : Df K mg "_law_signs" sSigns [] fS fdS)
    (m_divmod : mg "divmod" = none) (m_len : mg "len" = none) : FnOk P w K mg base CX0 (k + 2) f fd ["_law_pot_here", "_law_text_here"] spSpoilt := by
  have G_draw : FnOk P w K mg base CX0 (k + 1) fD fdD ["_law_pot_here", "_law_many"] spDraw := ok_draw D_draw.F m_divmod
  have G_signs : FnOk P w K mg base CX0 (k + 1) fS fdS [] spSigns := ok_signs D_signs.F
  refine F.ok sc_spoilt (fun vs H Q E h => ?_) (fun cdv A outer s H vs Q E hr h => ?_)
  · obtain ⟨p, z, n, rfl, _⟩ := h
    rfl
  · obtain ⟨p, z, n, rfl, hp, tz, hn, q⟩ := h
    refine ⟨_, pss_cons (ps_set (i := 2) sc_spoilt.nd rfl (.inl rfl) (pe_call G_draw hr (by rfl) D_draw.g D_draw.F.kp D_draw.b .nil pass0 (pa_cons (pv 0) (pa_cons (pe_op op_add (pe_callB call_len_str (by rfl) m_len PySem.boot_len (pa_cons (pv 1) pa_nil)) pe_int) pa_nil))))
      (pss_cons (ps_set (i := 3) sc_spoilt.nd rfl (.inl rfl) (pe_call0 G_signs hr (by rfl) D_signs.g D_signs.F.kp D_signs.b .nil pass0))
      (pss_cons (ps_set (i := 4) sc_spoilt.nd rfl (.inl rfl) (pe_ix ix_list (pe_lst (pa_cons pe_str (pa_cons pe_str (pa_cons pe_str (pa_cons pe_str (pa_cons (pe_ix ix_str (pv 3) (pe_call G_draw hr (by rfl) D_draw.g D_draw.F.kp D_draw.b .nil pass0 (pa_cons (pv 0) (pa_cons (pe_callB call_len_str (by rfl) m_len PySem.boot_len (pa_cons (pv 3) pa_nil)) pa_nil))) (fun _ _ => rfl)) pa_nil)))))) (pe_call G_draw hr (by rfl) D_draw.g D_draw.F.kp D_draw.b .nil pass0 (pa_cons (pv 0) (pa_cons pe_int pa_nil))) (fun _ _ => rfl)))
      (pss_cons (ps_set (i := 5) sc_spoilt.nd rfl (.inl rfl) (pe_call G_draw hr (by rfl) D_draw.g D_draw.F.kp D_draw.b .nil pass0 (pa_cons (pv 0) (pa_cons pe_int pa_nil))))
      (pss_cons (ps_if (pt_cmpR op_eq (pv 5) pe_int (nomark _)) (pss_one (ps_ret (pe_op op_add_str (pe_op op_add_str (pe_slice sl_str (pv 1) po_none (po_some (pv 2))) (pv 4)) (pe_slice sl_str (pv 1) (po_some (pv 2)) po_none)))) pss_nil)
      (pss_one (ps_ret (pe_op op_add_str (pe_op op_add_str (pe_slice sl_str (pv 1) po_none (po_some (pv 2))) (pe_ix ix_list (pe_lst (pa_cons pe_str (pa_cons pe_str (pa_cons (pv 4) pa_nil)))) (pv 5) (fun _ _ => rfl))) (pe_slice sl_str (pv 1) (po_some (pe_op op_add (pv 2) pe_int)) po_none)))))))), ?_⟩
    have hz := tz.le
    have sz : sizeLine = 16777216 := sizeLine_eq
    obtain ⟨hs0, hs1, hs2⟩ := row_sets signs2 List.mem_cons_self
    refine ⟨.ref p, rfl, .str z, rfl, z, rfl, by omega, _, 1, rfl, rfl, p, _, rfl, hp, by omega, by omega, fun H1 a b1 p1 a0 a1 => ?_⟩
    obtain ⟨at', rfl⟩ := Int.eq_ofNat_of_zero_le a0
    refine ⟨rfl, ?_⟩
    refine ⟨.str signs2, rfl, .ref p, rfl, .str signs2, rfl, signs2, rfl, by omega, p, (signs2.length : Int), rfl, p1, by omega, by omega, fun H2 j b2 p2 j0 j1 => ?_⟩
    obtain ⟨m, rfl⟩ := Int.eq_ofNat_of_zero_le j0
    have hm : m < signs2.cps.toList.length := by
      have e : signs2.cps.toList.length = signs2.length := by simp [Str.length]
      omega
    refine ⟨signs2, m, signs2.cps.toList[m], rfl, rfl, by omega, atI_nat (List.getElem?_eq_getElem hm), by show 5 ≤ sizeLine; decide, fun l3 n3 => ?_⟩
    have hc : signs2.cps.toList[m] < 256 := hs2 _ (List.getElem_mem hm)
    generalize signs2.cps.toList[m] = c at hc
    refine ⟨.ref p, rfl, p, 5, rfl, p2.new n3, by decide, by decide, fun H4 d4 b4 p4 d40 d41 => ?_⟩
    obtain ⟨sg, sgm, sge⟩ := at_strs [Str.ofString " ", Str.ofString "'", Str.ofString "''", Str.ofString "a", ⟨#[c]⟩] d4 d40 (by show d4 < 5; exact d41)
    have tsg : Tq B8 2 sg := by
      have h4 : ∀ y ∈ [Str.ofString " ", Str.ofString "'", Str.ofString "''", Str.ofString "a"], y.length ≤ 2 ∧ ∀ c ∈ tl y, c < 256 := by decide +kernel
      have e : sg ∈ [Str.ofString " ", Str.ofString "'", Str.ofString "''", Str.ofString "a"] ++ [⟨#[c]⟩] := sgm
      rcases List.mem_append.mp e with e | e
      · exact ⟨(h4 sg e).1, (h4 sg e).2⟩
      · rw [List.mem_singleton.mp e]
        exact (Tq.sign (p := B8) hc).mono (by decide) fun _ z => z
    refine ⟨l3, _, d4, .str sg, rfl, rfl, SqL.of (b4 _ _ (p2.ne n3).symm upd_same), sge, ?_⟩
    refine ⟨.ref p, rfl, p, 3, rfl, p4, by decide, by decide, fun H5 way b5 p5 w0 w1 => ?_⟩
    have bb : But p H H5 := (((b1.trans b2).trans (But.new n3)).trans b4).trans b5
    have ez := TL.len_tl z
    have l1 : (cutS z none (some (at' : Int))).length = min at' z.length := by rw [TL.len_tl, tl_cut_to, List.length_take, ← ez]
    have l2 : ∀ j : Nat, (cutS z (some (j : Int)) none).length = z.length - j := fun j => by rw [TL.len_tl, tl_cut_from, List.length_drop, ← ez]
    have hl2 := l2 at'
    have hl3 := l2 (at' + 1)
    have t1 := tz.cut none (some (at' : Int))
    have fin : ∀ (mid : Str) (j : Nat), Tq B8 2 mid → at' ≤ j → Tq B8 (n + 2) (cutS z none (some (at' : Int)) ++ mid ++ cutS z (some (j : Int)) none) := fun mid j tm hj => by
      have t3 := (t1.app tm).app (tz.cut (some (j : Int)) none)
      refine ⟨?_, t3.pl⟩
      have := tm.le
      have := l2 j
      rw [Str.length_append, Str.length_append, l1]
      omega
    have lsg := tsg.le
    refine ⟨_, rfl, rfl, _, rfl, ite2 (fun e => ?_) (fun e => ?_)⟩
    · refine ⟨.str z, rfl, _, rfl, _, rfl, z, rfl, by omega, .str sg, rfl, _, _, rfl, rfl, ?_, .str z, rfl, _, rfl, _, rfl, z, rfl, by omega, _, _, rfl, rfl, ?_, q _ _ bb p5 (fin sg at' tsg (Nat.le_refl _))⟩
      · rw [l1]
        omega
      · rw [Str.length_append, l1, hl2]
        omega
    · refine ⟨.str z, rfl, _, rfl, _, rfl, z, rfl, by omega, .str sg, rfl, by show 3 ≤ sizeLine; decide, fun l6 n6 => ?_⟩
      obtain ⟨md, mdm, mde⟩ := at_strs [Str.ofString "", Str.ofString "", sg] way w0 (by show way < 3; exact w1)
      have tmd : Tq B8 2 md := by
        rcases List.mem_cons.mp mdm with e | e
        · rw [e]
          exact ⟨by decide +kernel, by decide +kernel⟩
        · rcases List.mem_cons.mp e with e | e
          · rw [e]
            exact ⟨by decide +kernel, by decide +kernel⟩
          · rw [List.mem_singleton.mp e]
            exact tsg
      have lmd := tmd.le
      refine ⟨_, rfl, l6, _, way, .str md, rfl, rfl, SqL.of upd_same, mde, _, _, rfl, rfl, ?_, .str z, rfl, _, rfl, _, 1, rfl, rfl, _, rfl, z, rfl, by omega, _, _, rfl, rfl, ?_, q _ _ (bb.trans (But.new n6)) (p5.new n6) (fin md (at' + 1) tmd (by omega))⟩
      · rw [l1]
        omega
      · rw [Str.length_append, l1]
        show min at' z.length + md.length + (cutS z (some ((at' + 1 : Nat) : Int)) none).length ≤ sizeLine
        rw [hl3]
        omega
end
end WB

set_option Elab.async false
set_option linter.all false
set_option maxRecDepth 100000
set_option maxHeartbeats 4000000
namespace WB
open PySem PySem.Spec PyProof.Rows L2
open TL (tl)
abbrev st_law : Stmt := topS 34
theorem sc_law : FnScope ["_law_script", "_law_k", "_law_pot_here", "_law_way", "_law_text_here", "_law_turn", "_law_fixed", "_law_things", "_law_thing"] ["_law_script"] (defScope st_law) := ⟨rfl, rfl, rfl, by decide +kernel, rfl, by decide +kernel, by decide +kernel⟩
/-! ### things that are no texts -/
inductive Tg (H : Hp) : V → Prop
  | non : Tg H .non
  | bl (b : Bool) : Tg H (.bl b)
  | int (i : Int) : Tg H (.int i)
  | lst {a : Addr} {xs : List V} (e : H a = some (.lst xs)) : Tg H (.ref a)
  | tup {a : Addr} {xs : List V} (e : H a = some (.tup xs)) : Tg H (.ref a)
  | dK {a : Addr} {xs : List (Key × V)} (e : H a = some (.dK xs)) : Tg H (.ref a)
theorem Tg.same {H H' : Hp} {v : V} (h : Tg H v) (s : Same H H') : Tg H' v := by
  cases h with
  | non => exact .non
  | bl b => exact .bl b
  | int i => exact .int i
  | lst e => exact .lst (s _ _ e)
  | tup e => exact .tup (s _ _ e)
  | dK e => exact .dK (s _ _ e)
theorem Tg.no {K : PySem.W.Frag} {H : Hp} {v : V} (h : Tg H v) : NoTx K H v := by
  cases h with
  | non => exact ⟨_, .base .non, kit_ty (show kitB "NoneType" "str" = some false from by decide +kernel)⟩
  | bl b => exact ⟨_, .base (.bl b), kit_ty (show kitB "bool" "str" = some false from by decide +kernel)⟩
  | int i => exact ⟨_, .base (.int i), kit_ty (show kitB "int" "str" = some false from by decide +kernel)⟩
  | lst e => exact ⟨_, .base (.lst e), kit_ty (show kitB "list" "str" = some false from by decide +kernel)⟩
  | tup e => exact ⟨_, .base (.tup e), kit_ty (show kitB "tuple" "str" = some false from by decide +kernel)⟩
  | dK e => exact ⟨_, .base (.dK e), kit_ty (show kitB "dict" "str" = some false from by decide +kernel)⟩
theorem go2 {R : Hp → Prop} {H : Hp} {a : Addr} {o o' : HO} (n : H a = none) (h : ∀ H', Same H H' → H' a = some o' → R H') : R (upd (upd H a o) a o') :=
  h _ (fun b x e => by
    have nb : b ≠ a := ne_of_none e n
    rw [upd_ne nb, upd_ne nb]
    exact e) upd_same
abbrev fixedS : List Str := [Str.ofString "", Str.ofString " ", Str.ofString "'", Str.ofString "''", Str.ofString "'''", Str.ofString "''''", Str.ofString "a ", Str.ofString " a", Str.ofString "a  b", Str.ofString "'a'", Str.ofString "a'b", Str.ofString "'a b'c", Str.ofString "'' ''", Str.ofString "'a''b' c"]
theorem fixed_ok : ∀ y ∈ fixedS, y.length ≤ 900 ∧ ∀ c ∈ tl y, c < 256 := by decide +kernel
theorem three_ok : 0 < (Str.ofString " 'a").length ∧ (Str.ofString " 'a").length ≤ 200 ∧ ∀ c ∈ tl (Str.ofString " 'a"), c < 256 := by decide +kernel
section
variable {P : Program} {w : World} {K : PySem.W.Frag} {mg : Str → Option Value} {base : Heap}
def spLaw (K : PySem.W.Frag) : Sp := fun vs H Q _ => ∃ (a : Addr) (ns : List Int), vs = [.ref a] ∧ SqL K H a (ns.map V.int) ∧ ns.length ≤ 63 ∧ ∀ H', Q (.bl true) H'
theorem ok_law {f fC fP fD fS fT fW fR fG fX fY : Addr} {fd fdC fdP fdD fdS fdT fdW fdR fdG fdX fdY : FuncData} (F : Fun K "law" "law" st_law f fd)
    (D_cell : Df K mg "_law_cell" sCell ["_law_script", "_law_k"] fC fdC) (D_pot : Df K mg "_law_pot" sPot ["_law_script", "_law_k"] fP fdP) (D_draw : Df K mg "_law_draw" sDraw ["_law_pot_here", "_law_many"] fD fdD) (D_signs : Df K mg "_law_signs" sSigns [] fS fdS)
    (D_text : Df K mg "_law_text" sText ["_law_pot_here", "_law_most", "_law_signs_here"] fT fdT) (D_written : Df K mg "_law_written" st_written ["_law_words"] fW fdW) (D_row : Df K mg "_law_row" st_row ["_law_pot_here"] fR fdR) (D_spoilt : Df K mg "_law_spoilt" st_spoilt ["_law_pot_here", "_law_text_here"] fX fdX)
    (D_right : Df K mg "_law_right" st_right ["_law_text_here"] fG fdG) (G_right : FnOk P w K mg base CX0 6 fG fdG ["_law_text_here"] spRight) (D_told : Df K mg "_law_told" st_told ["_law_text_here"] fY fdY) (G_told5 : FnOk P w K mg base CX0 6 fY fdY ["_law_text_here"] (spTold K))
    (m_len : mg "len" = none) (m_max : mg "max" = none) (m_min : mg "min" = none) (m_divmod : mg "divmod" = none) (m_range : mg "range" = none) (m_all : mg "all" = none) (m_enumerate : mg "enumerate" = none) (m_int : mg "int" = none) :
    FnOk P w K mg base CX0 7 f fd ["_law_script"] (spLaw K) := by
  have G_told := G_told5
  have G_pot : FnOk P w K mg base CX0 6 fP fdP ["_law_script", "_law_k"] (spPot K) := ok_pot D_pot.F D_cell m_len m_max
  have G_draw : FnOk P w K mg base CX0 6 fD fdD ["_law_pot_here", "_law_many"] spDraw := ok_draw D_draw.F m_divmod
  have G_text : FnOk P w K mg base CX0 6 fT fdT ["_law_pot_here", "_law_most", "_law_signs_here"] spText := ok_text D_text.F D_draw m_divmod m_len m_range
  have G_written : FnOk P w K mg base CX0 6 fW fdW ["_law_words"] spWritten := ok_written D_written.F m_enumerate m_int
  have G_row : FnOk P w K mg base CX0 6 fR fdR ["_law_pot_here"] spRow := ok_row D_row.F D_draw D_signs D_text m_divmod m_len m_range
  have G_spoilt : FnOk P w K mg base CX0 6 fX fdX ["_law_pot_here", "_law_text_here"] spSpoilt := ok_spoilt D_spoilt.F D_draw D_signs m_divmod m_len
  refine F.ok sc_law (fun vs H Q E h => ?_) (fun cdv A outer s H vs Q E hr h => ?_)
  · obtain ⟨a, ns, rfl, _⟩ := h
    rfl
  · obtain ⟨a, ns, rfl, hS, hlen, q⟩ := h
    refine ⟨_, pss_cons (ps_for PassesOwn.never rfl (pi_range1 rfl m_range (pa_cons (pe_callB (call_max2 rfl) (by rfl) m_max (by decide +kernel) (pa_cons pe_int (pa_cons (pe_callB (call_min2 rfl) (by rfl) m_min (by decide +kernel) (pa_cons (pe_callB call_len_seq (by rfl) m_len PySem.boot_len (pa_cons (pv 0) pa_nil)) (pa_cons pe_int pa_nil))) pa_nil))) pa_nil)) (pg_name (i := 1) sc_law.nd rfl (Or.inl rfl)) (pss_cons (ps_set (i := 2) sc_law.nd rfl (.inl rfl) (pe_call G_pot hr (by rfl) D_pot.g D_pot.F.kp D_pot.b .nil pass0 (pa_cons (pv 0) (pa_cons (pv 1) pa_nil))))
      (pss_cons (ps_set (i := 3) sc_law.nd rfl (.inl rfl) (pe_call G_draw hr (by rfl) D_draw.g D_draw.F.kp D_draw.b .nil pass0 (pa_cons (pv 2) (pa_cons pe_int pa_nil))))
      (pss_cons (ps_set (i := 4) sc_law.nd rfl (.inl rfl) (pe_call G_text hr (by rfl) D_text.g D_text.F.kp D_text.b .nil pass0 (pa_cons (pv 2) (pa_cons pe_int (pa_cons pe_str pa_nil)))))
      (pss_cons (ps_if (pt_cmpR op_gt (pv 3) pe_int (nomark _)) (pss_cons (ps_set (i := 4) sc_law.nd rfl (.inl rfl) (pe_call G_written hr (by rfl) D_written.g D_written.F.kp D_written.b .nil pass0 (pa_cons (pe_call G_row hr (by rfl) D_row.g D_row.F.kp D_row.b .nil pass0 (pa_cons (pv 2) pa_nil)) pa_nil)))
      (pss_one (ps_for PassesOwn.never rfl (pi_range1 rfl m_range (pa_cons (pe_op op_sub (pv 3) pe_int) pa_nil)) (pg_name (i := 5) sc_law.nd rfl (Or.inl rfl)) (pss_one (ps_set (i := 4) sc_law.nd rfl (.inl rfl) (pe_call G_spoilt hr (by rfl) D_spoilt.g D_spoilt.F.kp D_spoilt.b .nil pass0 (pa_cons (pv 2) (pa_cons (pv 4) pa_nil)))))))) pss_nil)
      (pss_one (ps_if (pt_not (pt_val (pe_call G_right hr (by rfl) D_right.g D_right.F.kp D_right.b .nil pass0 (pa_cons (pv 4) pa_nil)))) (pss_one (ps_ret pe_bl)) pss_nil)))))))
      (pss_cons (ps_set (i := 6) sc_law.nd rfl (.inl rfl) (pe_lst (pa_cons pe_str (pa_cons pe_str (pa_cons pe_str (pa_cons pe_str (pa_cons pe_str (pa_cons pe_str (pa_cons pe_str (pa_cons pe_str (pa_cons pe_str (pa_cons pe_str (pa_cons pe_str (pa_cons pe_str (pa_cons pe_str (pa_cons pe_str pa_nil))))))))))))))))
      (pss_cons (ps_if (pt_not (pt_val (pe_callB (cr_all rfl) (by rfl) m_all (by decide +kernel) (pa_cons (pe_lc (own := [("_law_text_here", 4)]) (g := gName 4) (tt := tYes) rfl sc_law.nd (pi_list (pv 6)) (blkOk_by (N := ["_law_script", "_law_k", "_law_pot_here", "_law_way", "_law_text_here", "_law_turn", "_law_fixed", "_law_things", "_law_thing"]) (sc := defScope st_law) (by decide +kernel)) (fun _ _ _ _ _ => (pg_name (i := 4) sc_law.nd rfl (Or.inl rfl))) (fun _ _ _ _ _ => pts_nil) (fun _ _ _ _ _ => (pe_call G_right hr (by rfl) D_right.g D_right.F.kp D_right.b .nil pass0 (pa_cons (pv 4) pa_nil)))) pa_nil)))) (pss_one (ps_ret pe_bl)) pss_nil)
      (pss_cons (ps_set (i := 7) sc_law.nd rfl (.inl rfl) (pe_lst (pa_cons pe_non (pa_cons pe_int (pa_cons pe_int (pa_cons pe_bl (pa_cons pe_bl (pa_cons (pe_lst pa_nil) (pa_cons (pe_lst (pa_cons pe_str pa_nil)) (pa_cons (pe_lst (pa_cons pe_str pa_nil)) (pa_cons (pe_lst (pa_cons pe_str (pa_cons pe_str pa_nil))) (pa_cons (pe_lst (pa_cons pe_int pa_nil)) (pa_cons (pe_tup pa_nil) (pa_cons (pe_tup (pa_cons pe_str pa_nil)) (pa_cons pe_dnewK (pa_cons (pe_disp (pps_cons pe_str pe_int pps_nil) (by rfl) (by rfl) (fun z => by cases z) (by decide)) pa_nil))))))))))))))))
      (pss_one (ps_ret (pe_callB (cr_all rfl) (by rfl) m_all (by decide +kernel) (pa_cons (pe_lc (own := [("_law_thing", 8)]) (g := gName 8) (tt := tYes) rfl sc_law.nd (pi_list (pv 7)) (blkOk_by (N := ["_law_script", "_law_k", "_law_pot_here", "_law_way", "_law_text_here", "_law_turn", "_law_fixed", "_law_things", "_law_thing"]) (sc := defScope st_law) (by decide +kernel)) (fun _ _ _ _ _ => (pg_name (i := 8) sc_law.nd rfl (Or.inl rfl))) (fun _ _ _ _ _ => pts_nil) (fun _ _ _ _ _ => (pe_cmpR (r := rEqD K) (op_eqD hr.units) (pe_call G_told hr (by rfl) D_told.g D_told.F.kp D_told.b .nil pass0 (pa_cons (pv 8) pa_nil)) (pe_tup (pa_cons pe_str (pa_cons pe_bl (pa_cons pe_bl (pa_cons pe_bl pa_nil))))) (nomark _)))) pa_nil))))))), ?_⟩
    refine ⟨.ref a, rfl, a, _, rfl, .inl hS, _, 8, rfl, 1, _, rfl, _, rfl, ?_, ?_, for_range (lo := 0) (n := _) (fun i σ H' => Same H H' ∧ ∃ x1 x2 x3 x4 x5 x6 x7 x8, σ = [some (.ref a), x1, x2, x3, x4, x5, x6, x7, x8])
      ⟨Same.refl _, none, none, none, none, none, none, none, none, rfl⟩ ?_ ?_⟩
    · split <;> split <;> omega
    · split <;> split <;> omega
    · rintro i σ H0 hi ⟨sm, x1, x2, x3, x4, x5, x6, x7, x8, rfl⟩
      obtain ⟨t0, t1, t2⟩ := three_ok
      refine ⟨.ref a, rfl, .int (0 + (i : Int)), rfl, a, ns, _, rfl, sm.seq hS, by omega, fun H1 p s1 np p1 => ?_⟩
      refine ⟨.ref p, rfl, p, 5, rfl, p1, by decide, by decide, fun H2 way b2 p2 w0 w1 => ?_⟩
      refine ⟨.ref p, rfl, p, 60, _, rfl, p2, by decide, by decide, t0, t1, fun H3 y b3 p3 ty => ?_⟩
      have B3 : But p H1 H3 := b2.trans b3
      dsimp only [tSeq, tAsg, tC, gName]
      refine ts_gen (t := tIfS _ _ _) (fun σ' H' => But p H1 H' ∧ ∃ (z : Str) (x5 : Option V), Tq B8 900 z ∧ σ' = [some (.ref a), some (.int (0 + (i : Int))), some (.ref p), some (.int way), some (.str z), x5, x6, x7, x8]) (fun κ c => ?_) ?_
      · refine ⟨_, rfl, _, 0, rfl, rfl, _, rfl, ite2 (fun e => ?_) (fun e => ?_)⟩
        · have hw : 0 < way := of_decide_eq_true e
          refine ⟨.ref p, rfl, p, rfl, p3, fun H4 l ys b4 p4 el h12 hys => ?_⟩
          refine ⟨l, ys, rfl, el, ⟨by omega, fun y hy => (hys y hy).mono (by decide) fun _ z => z⟩, fun H5 z s5 ez => ?_⟩
          have tz : Tq B8 330 z := by
            refine ⟨?_, ?_⟩
            · have h1 := rowL_most (ys.map tl) fun v hv => by
                obtain ⟨y, hy, rfl⟩ := List.mem_map.mp hv
                rw [← TL.len_tl]
                exact (hys y hy).le
              rw [List.length_map] at h1
              rw [TL.len_tl, ez]
              omega
            · rw [ez]
              refine rowL_plain (p := B8) (by decide) (by decide) _ fun v hv => ?_
              obtain ⟨y, hy, rfl⟩ := List.mem_map.mp hv
              exact (hys y hy).pl
          refine ⟨_, rfl, way, 1, rfl, rfl, way - 1, rfl, by omega, by omega, for_range (lo := 0) (n := (way - 1).toNat) (fun j σ H' => But p H1 H' ∧ Pot H' p ∧ ∃ (z : Str) (x5 : Option V), Tq B8 (330 + 2 * j) z ∧ σ = [some (.ref a), some (.int (0 + (i : Int))), some (.ref p), some (.int way), some (.str z), x5, x6, x7, x8])
            ⟨(B3.trans b4).trans (But.of_same s5), p4.same s5, z, x5, tz, rfl⟩ ?_ ?_⟩
          · rintro j σ H6 hj ⟨b6, p6, z6, y5, t6, rfl⟩
            refine ⟨.ref p, rfl, .str z6, rfl, p, z6, 330 + 2 * j, rfl, p6, t6, by omega, fun H7 y7 b7 p7 t7 => ?_⟩
            exact ⟨b6.trans b7, p7, y7, _, t7.mono (by omega) fun _ z => z, rfl⟩
          · rintro σ H6 ⟨b6, p6, z6, y5, t6, rfl⟩
            exact c _ _ ⟨b6, z6, y5, t6.mono (by omega) fun _ z => z, rfl⟩
        · exact c _ _ ⟨B3, y, x5, ty.mono (by decide) t2, rfl⟩
      · rintro σ' H4 ⟨b4, z, y5, tz, rfl⟩
        have S4 : Same H H4 := fun b o e => b4 b o (ne_of_none (sm b o e) np) (s1 b o (sm b o e))
        refine ⟨.str z, rfl, z, rfl, tz, fun H5 s5 => ?_⟩
        exact ⟨_, rfl, S4.trans s5, _, _, _, _, _, _, _, _, rfl⟩
    · rintro σ H0 ⟨sm, x1, x2, x3, x4, x5, x6, x7, x8, rfl⟩
      -- the texts written here
      refine ⟨by show 14 ≤ sizeLine; decide, fun lf nf => ?_⟩
      first | refine go nf fun H1 s1 ef => ?_ | refine goT nf fun H1 s1 ef => ?_
      refine ⟨.ref lf, rfl, lf, rfl, ⟨_, SqL.of ef⟩, fun D nD => ?_⟩
      refine lc_list (K := K) (a := lf) (xs := fixedS.map V.str) (fun i Hc => Same H1 Hc ∧ Hc D = some (.lst ((List.replicate i true).map V.bl))) ⟨same_upd nD, upd_same⟩ (fun i Hc _ ⟨sc, _⟩ => SqL.of (sc _ _ ef)) (fun i x Hc hx ⟨sc, eD⟩ => ?_) (fun Hc ⟨sc, eD⟩ => ?_)
      · have hi : i < 14 := (List.getElem?_eq_some_iff.mp hx).1
        rw [List.getElem?_map] at hx
        obtain ⟨y, ey, rfl⟩ := Option.map_eq_some_iff.mp hx
        have fy := fixed_ok y (List.mem_of_getElem? ey)
        refine ⟨rfl, .str y, rfl, y, rfl, ⟨fy.1, fy.2⟩, fun H2 s2 => ?_⟩
        refine ⟨_, s2 _ _ eD, ?_, ?_, ?_⟩
        · rw [List.length_map, List.length_replicate]
          exact small1000 (by omega)
        · intro b o' e
          rw [upd_ne (ne_of_none e nD)]
          exact s2 _ _ (sc b o' e)
        · rw [upd_same, List.replicate_succ', List.map_append]
          rfl
      refine ⟨D, _, rfl, SqL.of eD, _, rfl, ?_⟩
      rw [show (List.replicate (fixedS.map V.str).length true).all id = true from by decide]
      -- the things written here
      refine ⟨Nat.zero_le _, fun a1 n1 => ?_⟩
      first | refine go n1 fun G1 g1 h1 => ?_ | refine goT n1 fun G1 g1 h1 => ?_
      refine ⟨by show 1 ≤ sizeLine; decide, fun a2 n2 => ?_⟩
      first | refine go n2 fun G2 g2 h2 => ?_ | refine goT n2 fun G2 g2 h2 => ?_
      refine ⟨by show 1 ≤ sizeLine; decide, fun a3 n3 => ?_⟩
      first | refine go n3 fun G3 g3 h3 => ?_ | refine goT n3 fun G3 g3 h3 => ?_
      refine ⟨by show 2 ≤ sizeLine; decide, fun a4 n4 => ?_⟩
      first | refine go n4 fun G4 g4 h4 => ?_ | refine goT n4 fun G4 g4 h4 => ?_
      refine ⟨by show 1 ≤ sizeLine; decide, fun a5 n5 => ?_⟩
      first | refine go n5 fun G5 g5 h5 => ?_ | refine goT n5 fun G5 g5 h5 => ?_
      refine ⟨Nat.zero_le _, fun a6 n6 => ?_⟩
      first | refine go n6 fun G6 g6 h6 => ?_ | refine goT n6 fun G6 g6 h6 => ?_
      refine ⟨by show 1 ≤ sizeLine; decide, fun a7 n7 => ?_⟩
      first | refine go n7 fun G7 g7 h7 => ?_ | refine goT n7 fun G7 g7 h7 => ?_
      intro a8 n8
      first | refine go n8 fun G8 g8 h8 => ?_ | refine goT n8 fun G8 g8 h8 => ?_
      intro a9 n9
      refine ⟨upd_same, [(Sum.inr (Str.ofString "a"), .int 1)], rfl, by decide, ?_⟩
      refine go2 n9 fun G9 g9 h9 => ?_
      refine ⟨by show 14 ≤ sizeLine; decide, fun lt nt => ?_⟩
      first | refine go nt fun G0 g0 h0 => ?_ | refine goT nt fun G0 g0 h0 => ?_
      have all : ∀ v ∈ [V.non, .int 7, .int 0, .bl true, .bl false, .ref a1, .ref a2, .ref a3, .ref a4, .ref a5, .ref a6, .ref a7, .ref a8, .ref a9], Tg G0 v := by
        have k9 : Tg G0 (.ref a9) := (Tg.dK h9).same g0
        have k8 : Tg G0 (.ref a8) := ((Tg.dK h8).same g9).same g0
        have k7 : Tg G0 (.ref a7) := (((Tg.tup h7).same g8).same g9).same g0
        have k6 : Tg G0 (.ref a6) := ((((Tg.tup h6).same g7).same g8).same g9).same g0
        have k5 : Tg G0 (.ref a5) := (((((Tg.lst h5).same g6).same g7).same g8).same g9).same g0
        have k4 : Tg G0 (.ref a4) := ((((((Tg.lst h4).same g5).same g6).same g7).same g8).same g9).same g0
        have k3 : Tg G0 (.ref a3) := (((((((Tg.lst h3).same g4).same g5).same g6).same g7).same g8).same g9).same g0
        have k2 : Tg G0 (.ref a2) := ((((((((Tg.lst h2).same g3).same g4).same g5).same g6).same g7).same g8).same g9).same g0
        have k1 : Tg G0 (.ref a1) := (((((((((Tg.lst h1).same g2).same g3).same g4).same g5).same g6).same g7).same g8).same g9).same g0
        intro v hv
        simp only [List.mem_cons, List.not_mem_nil, or_false] at hv
        rcases hv with rfl | rfl | rfl | rfl | rfl | rfl | rfl | rfl | rfl | rfl | rfl | rfl | rfl | rfl
        · exact .non
        · exact .int _
        · exact .int _
        · exact .bl _
        · exact .bl _
        · exact k1
        · exact k2
        · exact k3
        · exact k4
        · exact k5
        · exact k6
        · exact k7
        · exact k8
        · exact k9
      refine ⟨.ref lt, rfl, lt, rfl, ⟨_, SqL.of h0⟩, fun D2 nD2 => ?_⟩
      refine lc_list (K := K) (a := lt) (xs := [V.non, .int 7, .int 0, .bl true, .bl false, .ref a1, .ref a2, .ref a3, .ref a4, .ref a5, .ref a6, .ref a7, .ref a8, .ref a9]) (fun i Hc => Same G0 Hc ∧ Hc D2 = some (.lst ((List.replicate i true).map V.bl))) ⟨same_upd nD2, upd_same⟩ (fun i Hc _ ⟨sc, _⟩ => SqL.of (sc _ _ h0)) (fun i x Hc hx ⟨sc2, eD2⟩ => ?_) (fun Hc ⟨sc2, eD2⟩ => ?_)
      · have hi : i < 14 := (List.getElem?_eq_some_iff.mp hx).1
        have tx : Tg Hc x := (all x (List.mem_of_getElem? hx)).same sc2
        refine ⟨rfl, x, rfl, x, rfl, .inr ⟨tx.no, fun H' s' => (tx.same s').no, fun t H2 s2 nt2 et2 => ?_⟩⟩
        refine ⟨by show 4 ≤ sizeLine; decide, fun p np => ?_⟩
        have et3 : (upd H2 p (.tup refT)) t = some (.tup refT) := by
          rw [upd_ne (ne_of_none et2 np)]
          exact et2
        refine ⟨_, _, .tup (SqT.of et3) (.cons (.str _) (.cons (.bl _) (.cons (.bl _) (.cons (.bl _) .nil)))), .tup (SqT.of upd_same) (.cons (.str _) (.cons (.bl _) (.cons (.bl _) (.cons (.bl _) .nil)))), by decide +kernel, by decide +kernel, ?_⟩
        rw [show PyData.eqv (.tuple [.str (Str.ofString "refused"), .bool true, .bool true, .bool false]) (.tuple [.str (Str.ofString "refused"), .bool true, .bool true, .bool false]) = true from by decide +kernel]
        have S3 : Same Hc (upd H2 p (.tup refT)) := s2.trans (same_upd np)
        refine ⟨_, S3 _ _ eD2, ?_, ?_, ?_⟩
        · rw [List.length_map, List.length_replicate]
          exact small1000 (by omega)
        · intro b o' e
          rw [upd_ne (ne_of_none e nD2)]
          exact S3 _ _ (sc2 b o' e)
        · rw [upd_same, List.replicate_succ', List.map_append]
          rfl
      refine ⟨D2, _, rfl, SqL.of eD2, ?_⟩
      rw [show (List.replicate [V.non, .int 7, .int 0, .bl true, .bl false, .ref a1, .ref a2, .ref a3, .ref a4, .ref a5, .ref a6, .ref a7, .ref a8, .ref a9].length true).all id = true from by simp]
      exact q _
end
end WB

set_option Elab.async false
set_option linter.all false
set_option maxRecDepth 100000
set_option maxHeartbeats 4000000
namespace WB
open PySem PySem.Spec PyProof.Rows L2 WG
open TL (tl)
theorem df_mk {K : PySem.W.Frag} {h : Heap} {mg : Str → Option Value} {x : Str} {st : Stmt} {ps : List Str} {f : Addr} {oc : Value} {od an : Option Addr} {osl : Array (Option Value)} {kV doc pm cdv ct : Value} (X : K.In h) (G : h.Ns mainGlobals mg)
    (a : PySem.W.nsIn K mainGlobals x = some (some (.ref f))) (l : K.lookup f = some ⟨oc, od, .func (PySem.W.fnOf x x (defArgs st) (defBody st) (defScope st) .none kV doc pm an cdv ct), osl⟩)
    (c : PySem.W.codeIn K cdv x = true) (k : PySem.W.keepIn K (.ref f) = true)
    (b : ∀ (kV doc pm : Value) (an : Option Addr) (cdv ct : Value) (us : List Value), us.length = ps.length → bindArgs (PySem.W.fnOf x x (defArgs st) (defBody st) (defScope st) .none kV doc pm an cdv ct) ⟨us, []⟩ = pure (ps.zip us)) :
    Df K mg x st ps f (PySem.W.fnOf x x (defArgs st) (defBody st) (defScope st) .none kV doc pm an cdv ct) := by
  have F := fun_mk (st := st) l c k
  exact ⟨F, F.binds b, PySem.W.mg_of X G a⟩
theorem all_mk {l : PySem.W.OpenLaw} {w : World} {K : PySem.W.Frag} {h : Heap} {mg : Str → Option Value} {fa : Addr} (X : K.In h) (G : h.Ns mainGlobals mg) (hfa : mg "law" = some (.ref fa))
    {fCell : Addr} {odCell anCell : Option Addr} {slCell : Array (Option Value)} {ocCell kVCell dcCell pmCell cdCell ctCell : Value} {fPot : Addr} {odPot anPot : Option Addr} {slPot : Array (Option Value)} {ocPot kVPot dcPot pmPot cdPot ctPot : Value} {fDraw : Addr} {odDraw anDraw : Option Addr} {slDraw : Array (Option Value)} {ocDraw kVDraw dcDraw pmDraw cdDraw ctDraw : Value} {fSigns : Addr} {odSigns anSigns : Option Addr} {slSigns : Array (Option Value)} {ocSigns kVSigns dcSigns pmSigns cdSigns ctSigns : Value} {fText : Addr} {odText anText : Option Addr} {slText : Array (Option Value)} {ocText kVText dcText pmText cdText ctText : Value} {fWritten : Addr} {odWritten anWritten : Option Addr} {slWritten : Array (Option Value)} {ocWritten kVWritten dcWritten pmWritten cdWritten ctWritten : Value} {fQuoted : Addr} {odQuoted anQuoted : Option Addr} {slQuoted : Array (Option Value)} {ocQuoted kVQuoted dcQuoted pmQuoted cdQuoted ctQuoted : Value} {fBare : Addr} {odBare anBare : Option Addr} {slBare : Array (Option Value)} {ocBare kVBare dcBare pmBare cdBare ctBare : Value} {fRead : Addr} {odRead anRead : Option Addr} {slRead : Array (Option Value)} {ocRead kVRead dcRead pmRead cdRead ctRead : Value} {fOther : Addr} {odOther anOther : Option Addr} {slOther : Array (Option Value)} {ocOther kVOther dcOther pmOther cdOther ctOther : Value} {fTold : Addr} {odTold anTold : Option Addr} {slTold : Array (Option Value)} {ocTold kVTold dcTold pmTold cdTold ctTold : Value} {fRight : Addr} {odRight anRight : Option Addr} {slRight : Array (Option Value)} {ocRight kVRight dcRight pmRight cdRight ctRight : Value} {fRow : Addr} {odRow anRow : Option Addr} {slRow : Array (Option Value)} {ocRow kVRow dcRow pmRow cdRow ctRow : Value} {fSpoilt : Addr} {odSpoilt anSpoilt : Option Addr} {slSpoilt : Array (Option Value)} {ocSpoilt kVSpoilt dcSpoilt pmSpoilt cdSpoilt ctSpoilt : Value} {fNeeds : Addr} {odNeeds anNeeds : Option Addr} {slNeeds : Array (Option Value)} {ocNeeds kVNeeds dcNeeds pmNeeds cdNeeds ctNeeds : Value} {fWordText : Addr} {odWordText anWordText : Option Addr} {slWordText : Array (Option Value)} {ocWordText kVWordText dcWordText pmWordText cdWordText ctWordText : Value} {fRowText : Addr} {odRowText anRowText : Option Addr} {slRowText : Array (Option Value)} {ocRowText kVRowText dcRowText pmRowText cdRowText ctRowText : Value} {fCut : Addr} {odCut anCut : Option Addr} {slCut : Array (Option Value)} {ocCut kVCut dcCut pmCut cdCut ctCut : Value} {fWordOf : Addr} {odWordOf anWordOf : Option Addr} {slWordOf : Array (Option Value)} {ocWordOf kVWordOf dcWordOf pmWordOf cdWordOf ctWordOf : Value} {fWordsOf : Addr} {odWordsOf anWordsOf : Option Addr} {slWordsOf : Array (Option Value)} {ocWordsOf kVWordsOf dcWordsOf pmWordsOf cdWordsOf ctWordsOf : Value} {CN BE : Addr} {C1 C2 C3 C4 C5 C6 C7 C8 C9 : Addr} {fLaw : Addr} {odLaw anLaw : Option Addr} {slLaw : Array (Option Value)} {ocLaw kVLaw dcLaw pmLaw cdLaw ctLaw : Value}
    (aCell : PySem.W.nsIn K mainGlobals "_law_cell" = some (some (.ref fCell)))
    (lCell : K.lookup fCell = some ⟨ocCell, odCell, .func (PySem.W.fnOf "_law_cell" "_law_cell" (defArgs sCell) (defBody sCell) (defScope sCell) .none kVCell dcCell pmCell anCell cdCell ctCell), slCell⟩)
    (cCell : PySem.W.codeIn K cdCell "_law_cell" = true)
    (kCell : PySem.W.keepIn K (.ref fCell) = true)
    (aPot : PySem.W.nsIn K mainGlobals "_law_pot" = some (some (.ref fPot)))
    (lPot : K.lookup fPot = some ⟨ocPot, odPot, .func (PySem.W.fnOf "_law_pot" "_law_pot" (defArgs sPot) (defBody sPot) (defScope sPot) .none kVPot dcPot pmPot anPot cdPot ctPot), slPot⟩)
    (cPot : PySem.W.codeIn K cdPot "_law_pot" = true)
    (kPot : PySem.W.keepIn K (.ref fPot) = true)
    (aDraw : PySem.W.nsIn K mainGlobals "_law_draw" = some (some (.ref fDraw)))
    (lDraw : K.lookup fDraw = some ⟨ocDraw, odDraw, .func (PySem.W.fnOf "_law_draw" "_law_draw" (defArgs sDraw) (defBody sDraw) (defScope sDraw) .none kVDraw dcDraw pmDraw anDraw cdDraw ctDraw), slDraw⟩)
    (cDraw : PySem.W.codeIn K cdDraw "_law_draw" = true)
    (kDraw : PySem.W.keepIn K (.ref fDraw) = true)
    (aSigns : PySem.W.nsIn K mainGlobals "_law_signs" = some (some (.ref fSigns)))
    (lSigns : K.lookup fSigns = some ⟨ocSigns, odSigns, .func (PySem.W.fnOf "_law_signs" "_law_signs" (defArgs sSigns) (defBody sSigns) (defScope sSigns) .none kVSigns dcSigns pmSigns anSigns cdSigns ctSigns), slSigns⟩)
    (cSigns : PySem.W.codeIn K cdSigns "_law_signs" = true)
    (kSigns : PySem.W.keepIn K (.ref fSigns) = true)
    (aText : PySem.W.nsIn K mainGlobals "_law_text" = some (some (.ref fText)))
    (lText : K.lookup fText = some ⟨ocText, odText, .func (PySem.W.fnOf "_law_text" "_law_text" (defArgs sText) (defBody sText) (defScope sText) .none kVText dcText pmText anText cdText ctText), slText⟩)
    (cText : PySem.W.codeIn K cdText "_law_text" = true)
    (kText : PySem.W.keepIn K (.ref fText) = true)
    (aWritten : PySem.W.nsIn K mainGlobals "_law_written" = some (some (.ref fWritten)))
    (lWritten : K.lookup fWritten = some ⟨ocWritten, odWritten, .func (PySem.W.fnOf "_law_written" "_law_written" (defArgs st_written) (defBody st_written) (defScope st_written) .none kVWritten dcWritten pmWritten anWritten cdWritten ctWritten), slWritten⟩)
    (cWritten : PySem.W.codeIn K cdWritten "_law_written" = true)
    (kWritten : PySem.W.keepIn K (.ref fWritten) = true)
    (aQuoted : PySem.W.nsIn K mainGlobals "_law_quoted" = some (some (.ref fQuoted)))
    (lQuoted : K.lookup fQuoted = some ⟨ocQuoted, odQuoted, .func (PySem.W.fnOf "_law_quoted" "_law_quoted" (defArgs st_quoted) (defBody st_quoted) (defScope st_quoted) .none kVQuoted dcQuoted pmQuoted anQuoted cdQuoted ctQuoted), slQuoted⟩)
    (cQuoted : PySem.W.codeIn K cdQuoted "_law_quoted" = true)
    (kQuoted : PySem.W.keepIn K (.ref fQuoted) = true)
    (aBare : PySem.W.nsIn K mainGlobals "_law_bare" = some (some (.ref fBare)))
    (lBare : K.lookup fBare = some ⟨ocBare, odBare, .func (PySem.W.fnOf "_law_bare" "_law_bare" (defArgs st_bare) (defBody st_bare) (defScope st_bare) .none kVBare dcBare pmBare anBare cdBare ctBare), slBare⟩)
    (cBare : PySem.W.codeIn K cdBare "_law_bare" = true)
    (kBare : PySem.W.keepIn K (.ref fBare) = true)
    (aRead : PySem.W.nsIn K mainGlobals "_law_read" = some (some (.ref fRead)))
    (lRead : K.lookup fRead = some ⟨ocRead, odRead, .func (PySem.W.fnOf "_law_read" "_law_read" (defArgs st_read) (defBody st_read) (defScope st_read) .none kVRead dcRead pmRead anRead cdRead ctRead), slRead⟩)
    (cRead : PySem.W.codeIn K cdRead "_law_read" = true)
    (kRead : PySem.W.keepIn K (.ref fRead) = true)
    (aOther : PySem.W.nsIn K mainGlobals "_law_is_other" = some (some (.ref fOther)))
    (lOther : K.lookup fOther = some ⟨ocOther, odOther, .func (PySem.W.fnOf "_law_is_other" "_law_is_other" (defArgs st_is_other) (defBody st_is_other) (defScope st_is_other) .none kVOther dcOther pmOther anOther cdOther ctOther), slOther⟩)
    (cOther : PySem.W.codeIn K cdOther "_law_is_other" = true)
    (kOther : PySem.W.keepIn K (.ref fOther) = true)
    (aTold : PySem.W.nsIn K mainGlobals "_law_told" = some (some (.ref fTold)))
    (lTold : K.lookup fTold = some ⟨ocTold, odTold, .func (PySem.W.fnOf "_law_told" "_law_told" (defArgs st_told) (defBody st_told) (defScope st_told) .none kVTold dcTold pmTold anTold cdTold ctTold), slTold⟩)
    (cTold : PySem.W.codeIn K cdTold "_law_told" = true)
    (kTold : PySem.W.keepIn K (.ref fTold) = true)
    (aRight : PySem.W.nsIn K mainGlobals "_law_right" = some (some (.ref fRight)))
    (lRight : K.lookup fRight = some ⟨ocRight, odRight, .func (PySem.W.fnOf "_law_right" "_law_right" (defArgs st_right) (defBody st_right) (defScope st_right) .none kVRight dcRight pmRight anRight cdRight ctRight), slRight⟩)
    (cRight : PySem.W.codeIn K cdRight "_law_right" = true)
    (kRight : PySem.W.keepIn K (.ref fRight) = true)
    (aRow : PySem.W.nsIn K mainGlobals "_law_row" = some (some (.ref fRow)))
    (lRow : K.lookup fRow = some ⟨ocRow, odRow, .func (PySem.W.fnOf "_law_row" "_law_row" (defArgs st_row) (defBody st_row) (defScope st_row) .none kVRow dcRow pmRow anRow cdRow ctRow), slRow⟩)
    (cRow : PySem.W.codeIn K cdRow "_law_row" = true)
    (kRow : PySem.W.keepIn K (.ref fRow) = true)
    (aSpoilt : PySem.W.nsIn K mainGlobals "_law_spoilt" = some (some (.ref fSpoilt)))
    (lSpoilt : K.lookup fSpoilt = some ⟨ocSpoilt, odSpoilt, .func (PySem.W.fnOf "_law_spoilt" "_law_spoilt" (defArgs st_spoilt) (defBody st_spoilt) (defScope st_spoilt) .none kVSpoilt dcSpoilt pmSpoilt anSpoilt cdSpoilt ctSpoilt), slSpoilt⟩)
    (cSpoilt : PySem.W.codeIn K cdSpoilt "_law_spoilt" = true)
    (kSpoilt : PySem.W.keepIn K (.ref fSpoilt) = true)
    (aNeeds : PySem.W.nsIn K mainGlobals "needs_quotes" = some (some (.ref fNeeds)))
    (lNeeds : K.lookup fNeeds = some ⟨ocNeeds, odNeeds, .func (PySem.W.fnOf "needs_quotes" "needs_quotes" (defArgs st_needs_quotes) (defBody st_needs_quotes) (defScope st_needs_quotes) .none kVNeeds dcNeeds pmNeeds anNeeds cdNeeds ctNeeds), slNeeds⟩)
    (cNeeds : PySem.W.codeIn K cdNeeds "needs_quotes" = true)
    (kNeeds : PySem.W.keepIn K (.ref fNeeds) = true)
    (aWordText : PySem.W.nsIn K mainGlobals "word_text" = some (some (.ref fWordText)))
    (lWordText : K.lookup fWordText = some ⟨ocWordText, odWordText, .func (PySem.W.fnOf "word_text" "word_text" (defArgs st_word_text) (defBody st_word_text) (defScope st_word_text) .none kVWordText dcWordText pmWordText anWordText cdWordText ctWordText), slWordText⟩)
    (cWordText : PySem.W.codeIn K cdWordText "word_text" = true)
    (kWordText : PySem.W.keepIn K (.ref fWordText) = true)
    (aRowText : PySem.W.nsIn K mainGlobals "row_text" = some (some (.ref fRowText)))
    (lRowText : K.lookup fRowText = some ⟨ocRowText, odRowText, .func (PySem.W.fnOf "row_text" "row_text" (defArgs st_row_text) (defBody st_row_text) (defScope st_row_text) .none kVRowText dcRowText pmRowText anRowText cdRowText ctRowText), slRowText⟩)
    (cRowText : PySem.W.codeIn K cdRowText "row_text" = true)
    (kRowText : PySem.W.keepIn K (.ref fRowText) = true)
    (aCut : PySem.W.nsIn K mainGlobals "cut_between_words" = some (some (.ref fCut)))
    (lCut : K.lookup fCut = some ⟨ocCut, odCut, .func (PySem.W.fnOf "cut_between_words" "cut_between_words" (defArgs st_cut_between_words) (defBody st_cut_between_words) (defScope st_cut_between_words) .none kVCut dcCut pmCut anCut cdCut ctCut), slCut⟩)
    (cCut : PySem.W.codeIn K cdCut "cut_between_words" = true)
    (kCut : PySem.W.keepIn K (.ref fCut) = true)
    (aWordOf : PySem.W.nsIn K mainGlobals "word_of" = some (some (.ref fWordOf)))
    (lWordOf : K.lookup fWordOf = some ⟨ocWordOf, odWordOf, .func (PySem.W.fnOf "word_of" "word_of" (defArgs st_word_of) (defBody st_word_of) (defScope st_word_of) .none kVWordOf dcWordOf pmWordOf anWordOf cdWordOf ctWordOf), slWordOf⟩)
    (cWordOf : PySem.W.codeIn K cdWordOf "word_of" = true)
    (kWordOf : PySem.W.keepIn K (.ref fWordOf) = true)
    (aWordsOf : PySem.W.nsIn K mainGlobals "words_of" = some (some (.ref fWordsOf)))
    (lWordsOf : K.lookup fWordsOf = some ⟨ocWordsOf, odWordsOf, .func (PySem.W.fnOf "words_of" "words_of" (defArgs st_words_of) (defBody st_words_of) (defScope st_words_of) .none kVWordsOf dcWordsOf pmWordsOf anWordsOf cdWordsOf ctWordsOf), slWordsOf⟩)
    (cWordsOf : PySem.W.codeIn K cdWordsOf "words_of" = true)
    (kWordsOf : PySem.W.keepIn K (.ref fWordsOf) = true)
    (aB : PySem.W.nsIn K mainGlobals "BenchError" = some (some (.ref BE)))
    (aN : PySem.W.nsIn K mainGlobals "NoRow" = some (some (.ref CN)))
    (xN : PySem.W.excIn K CN [.type "ValueError", .type "Exception", .type "BaseException", .type "object"] "ValueError.__new__" = true)
    (gaN : PySem.W.findIn K (.ref CN) "__getattribute__" = some (some (.builtin "BaseException.__getattribute__")))
    (ggN : PySem.W.findIn K (.ref CN) "__getattr__" = some none)
    (hcN : PySem.W.findIn K (.ref CN) "__class__" = some (some (.builtin "object.__class__")))
    (kN : PySem.W.keepIn K (.ref CN) = true)
    (eN : PySem.W.subIn K (.ref CN) (.type "BaseException") = some true)
    (eB : PySem.W.subIn K (.ref BE) (.type "BaseException") = some true)
    (tN : PySem.W.typeIn K (.ref CN) = some (.type "type"))
    (hdN : PySem.W.hasDictIn K CN = true)
    (sN : PySem.W.subIn K (.ref CN) (.ref CN) = some true)
    (spN : PySem.W.specialIn K (.builtin "object.__class__") "__get__" = some (some (.builtin "getset_descriptor.__get__")))
    (tkN : PySem.W.takesIn K (.builtin "object.__class__") = some true)
    (moN : PySem.W.mroIn K CN (.type "object") = some true)
    (tB : PySem.W.typeIn K (.ref BE) = some (.type "type"))
    (hdB : PySem.W.hasDictIn K BE = true)
    (sB : PySem.W.subIn K (.ref CN) (.ref BE) = some true)
    (sV : PySem.W.subIn K (.ref CN) (.type "ValueError") = some true)
    (oa1 : PySem.W.nsIn K mainGlobals "BadDefault" = some (some (.ref C1)))
    (oh1 : PySem.W.hasDictIn K C1 = true)
    (ot1 : PySem.W.typeIn K (.ref C1) = some (.type "type"))
    (os1 : PySem.W.subIn K (.ref CN) (.ref C1) = some false)
    (oa2 : PySem.W.nsIn K mainGlobals "Clash" = some (some (.ref C2)))
    (oh2 : PySem.W.hasDictIn K C2 = true)
    (ot2 : PySem.W.typeIn K (.ref C2) = some (.type "type"))
    (os2 : PySem.W.subIn K (.ref CN) (.ref C2) = some false)
    (oa3 : PySem.W.nsIn K mainGlobals "Fault" = some (some (.ref C3)))
    (oh3 : PySem.W.hasDictIn K C3 = true)
    (ot3 : PySem.W.typeIn K (.ref C3) = some (.type "type"))
    (os3 : PySem.W.subIn K (.ref CN) (.ref C3) = some false)
    (oa4 : PySem.W.nsIn K mainGlobals "NoCommand" = some (some (.ref C4)))
    (oh4 : PySem.W.hasDictIn K C4 = true)
    (ot4 : PySem.W.typeIn K (.ref C4) = some (.type "type"))
    (os4 : PySem.W.subIn K (.ref CN) (.ref C4) = some false)
    (oa5 : PySem.W.nsIn K mainGlobals "NoMaker" = some (some (.ref C5)))
    (oh5 : PySem.W.hasDictIn K C5 = true)
    (ot5 : PySem.W.typeIn K (.ref C5) = some (.type "type"))
    (os5 : PySem.W.subIn K (.ref CN) (.ref C5) = some false)
    (oa6 : PySem.W.nsIn K mainGlobals "NoName" = some (some (.ref C6)))
    (oh6 : PySem.W.hasDictIn K C6 = true)
    (ot6 : PySem.W.typeIn K (.ref C6) = some (.type "type"))
    (os6 : PySem.W.subIn K (.ref CN) (.ref C6) = some false)
    (oa7 : PySem.W.nsIn K mainGlobals "NoOption" = some (some (.ref C7)))
    (oh7 : PySem.W.hasDictIn K C7 = true)
    (ot7 : PySem.W.typeIn K (.ref C7) = some (.type "type"))
    (os7 : PySem.W.subIn K (.ref CN) (.ref C7) = some false)
    (oa8 : PySem.W.nsIn K mainGlobals "NoPlace" = some (some (.ref C8)))
    (oh8 : PySem.W.hasDictIn K C8 = true)
    (ot8 : PySem.W.typeIn K (.ref C8) = some (.type "type"))
    (os8 : PySem.W.subIn K (.ref CN) (.ref C8) = some false)
    (oa9 : PySem.W.nsIn K mainGlobals "Unmade" = some (some (.ref C9)))
    (oh9 : PySem.W.hasDictIn K C9 = true)
    (ot9 : PySem.W.typeIn K (.ref C9) = some (.type "type"))
    (os9 : PySem.W.subIn K (.ref CN) (.ref C9) = some false)
    (z_len : PySem.W.nsIn K mainGlobals "len" = some none)
    (z_max : PySem.W.nsIn K mainGlobals "max" = some none)
    (z_min : PySem.W.nsIn K mainGlobals "min" = some none)
    (z_divmod : PySem.W.nsIn K mainGlobals "divmod" = some none)
    (z_range : PySem.W.nsIn K mainGlobals "range" = some none)
    (z_list : PySem.W.nsIn K mainGlobals "list" = some none)
    (z_isinstance : PySem.W.nsIn K mainGlobals "isinstance" = some none)
    (z_str : PySem.W.nsIn K mainGlobals "str" = some none)
    (z_all : PySem.W.nsIn K mainGlobals "all" = some none)
    (z_enumerate : PySem.W.nsIn K mainGlobals "enumerate" = some none)
    (z_int : PySem.W.nsIn K mainGlobals "int" = some none)
    (z_ValueError : PySem.W.nsIn K mainGlobals "ValueError" = some none)
    (aLaw : PySem.W.nsIn K mainGlobals "law" = some (some (.ref fLaw)))
    (lLaw : K.lookup fLaw = some ⟨ocLaw, odLaw, .func (PySem.W.fnOf "law" "law" (defArgs st_law) (defBody st_law) (defScope st_law) .none kVLaw dcLaw pmLaw anLaw cdLaw ctLaw), slLaw⟩)
    (cLaw : PySem.W.codeIn K cdLaw "law" = true)
    (kLaw : PySem.W.keepIn K (.ref fLaw) = true) :
    ∃ fd : FuncData, (∀ (s : Shared) (v : Value), BindsTo s fd ⟨[v], []⟩ [("_law_script", v)]) ∧ ∀ base : Heap, K.In base → base.Ns mainGlobals mg → FnOk l.prog w K mg base CX0 7 fa fd ["_law_script"] (spLaw K) := by
  have e := hfa.symm.trans (PySem.W.mg_of X G aLaw)
  cases e
  have g0 : ∀ {x : Str}, PySem.W.nsIn K mainGlobals x = some none → mg x = none := fun {x} z => PySem.W.mg_none_of X G z
  have DCell := df_mk (st := sCell) (ps := ["_law_script", "_law_k"]) X G aCell lCell cCell kCell fun _ _ _ _ _ _ us hl => match us, hl with | [_, _], _ => rfl
  have DPot := df_mk (st := sPot) (ps := ["_law_script", "_law_k"]) X G aPot lPot cPot kPot fun _ _ _ _ _ _ us hl => match us, hl with | [_, _], _ => rfl
  have DDraw := df_mk (st := sDraw) (ps := ["_law_pot_here", "_law_many"]) X G aDraw lDraw cDraw kDraw fun _ _ _ _ _ _ us hl => match us, hl with | [_, _], _ => rfl
  have DSigns := df_mk (st := sSigns) (ps := []) X G aSigns lSigns cSigns kSigns fun _ _ _ _ _ _ us hl => match us, hl with | [], _ => rfl
  have DText := df_mk (st := sText) (ps := ["_law_pot_here", "_law_most", "_law_signs_here"]) X G aText lText cText kText fun _ _ _ _ _ _ us hl => match us, hl with | [_, _, _], _ => rfl
  have DWritten := df_mk (st := st_written) (ps := ["_law_words"]) X G aWritten lWritten cWritten kWritten fun _ _ _ _ _ _ us hl => match us, hl with | [_], _ => rfl
  have DQuoted := df_mk (st := st_quoted) (ps := ["_law_text_here", "_law_at"]) X G aQuoted lQuoted cQuoted kQuoted fun _ _ _ _ _ _ us hl => match us, hl with | [_, _], _ => rfl
  have DBare := df_mk (st := st_bare) (ps := ["_law_text_here", "_law_at"]) X G aBare lBare cBare kBare fun _ _ _ _ _ _ us hl => match us, hl with | [_, _], _ => rfl
  have DRead := df_mk (st := st_read) (ps := ["_law_text_here"]) X G aRead lRead cRead kRead fun _ _ _ _ _ _ us hl => match us, hl with | [_], _ => rfl
  have DOther := df_mk (st := st_is_other) (ps := ["_law_e"]) X G aOther lOther cOther kOther fun _ _ _ _ _ _ us hl => match us, hl with | [_], _ => rfl
  have DTold := df_mk (st := st_told) (ps := ["_law_text_here"]) X G aTold lTold cTold kTold fun _ _ _ _ _ _ us hl => match us, hl with | [_], _ => rfl
  have DRight := df_mk (st := st_right) (ps := ["_law_text_here"]) X G aRight lRight cRight kRight fun _ _ _ _ _ _ us hl => match us, hl with | [_], _ => rfl
  have DRow := df_mk (st := st_row) (ps := ["_law_pot_here"]) X G aRow lRow cRow kRow fun _ _ _ _ _ _ us hl => match us, hl with | [_], _ => rfl
  have DSpoilt := df_mk (st := st_spoilt) (ps := ["_law_pot_here", "_law_text_here"]) X G aSpoilt lSpoilt cSpoilt kSpoilt fun _ _ _ _ _ _ us hl => match us, hl with | [_, _], _ => rfl
  have DNeeds := df_mk (st := st_needs_quotes) (ps := ["word"]) X G aNeeds lNeeds cNeeds kNeeds fun _ _ _ _ _ _ us hl => match us, hl with | [_], _ => rfl
  have DWordText := df_mk (st := st_word_text) (ps := ["word"]) X G aWordText lWordText cWordText kWordText fun _ _ _ _ _ _ us hl => match us, hl with | [_], _ => rfl
  have DRowText := df_mk (st := st_row_text) (ps := ["words"]) X G aRowText lRowText cRowText kRowText fun _ _ _ _ _ _ us hl => match us, hl with | [_], _ => rfl
  have DCut := df_mk (st := st_cut_between_words) (ps := ["text"]) X G aCut lCut cCut kCut fun _ _ _ _ _ _ us hl => match us, hl with | [_], _ => rfl
  have DWordOf := df_mk (st := st_word_of) (ps := ["part"]) X G aWordOf lWordOf cWordOf kWordOf fun _ _ _ _ _ _ us hl => match us, hl with | [_], _ => rfl
  have DWordsOf := df_mk (st := st_words_of) (ps := ["text"]) X G aWordsOf lWordsOf cWordsOf kWordsOf fun _ _ _ _ _ _ us hl => match us, hl with | [_], _ => rfl
  have FLaw := fun_mk (st := st_law) lLaw cLaw kLaw
  have TN : NoR K mg CN := ⟨xN, PySem.W.mg_of X G aN, kN, eN, tN⟩
  have TC : ExcC K CN := ⟨gaN, ggN, eN, hdN, hcN, spN, tkN, moN⟩
  have CT : CaughtR K CN BE := ⟨TC, PySem.W.exm_ref eB hdB tB sB, kit_subT (by decide +kernel) sV, kit_subR hdN tN sN sN⟩
  have OO : Others K mg CN C1 C2 C3 C4 C5 C6 C7 C8 C9 := ⟨PySem.W.mg_of X G oa1, PySem.W.mg_of X G oa2, PySem.W.mg_of X G oa3, PySem.W.mg_of X G oa4, PySem.W.mg_of X G oa5, PySem.W.mg_of X G oa6, PySem.W.mg_of X G oa7, PySem.W.mg_of X G oa8, PySem.W.mg_of X G oa9, fun c hc => by
    simp only [List.mem_cons, List.not_mem_nil, or_false] at hc
    rcases hc with rfl | rfl | rfl | rfl | rfl | rfl | rfl | rfl | rfl
    · exact kit_subR oh1 ot1 os1 sN
    · exact kit_subR oh2 ot2 os2 sN
    · exact kit_subR oh3 ot3 os3 sN
    · exact kit_subR oh4 ot4 os4 sN
    · exact kit_subR oh5 ot5 os5 sN
    · exact kit_subR oh6 ot6 os6 sN
    · exact kit_subR oh7 ot7 os7 sN
    · exact kit_subR oh8 ot8 os8 sN
    · exact kit_subR oh9 ot9 os9 sN⟩
  refine ⟨PySem.W.fnOf "law" "law" (defArgs st_law) (defBody st_law) (defScope st_law) .none kVLaw dcLaw pmLaw anLaw cdLaw ctLaw, fun s v => ?_, fun base _ _ => ?_⟩
  · exact .of_eq rfl
  · have GW : ∀ k, FnOk l.prog w K mg base (L2.CX l.prog w) (k + 4) fWordsOf _ ["text"] (spWordsOf K CN) := fun k => ok_words_of DWordsOf.F TN DNeeds DWordText DRowText DCut DWordOf (g0 z_enumerate) (g0 z_isinstance) (g0 z_str)
    have GO : ∀ k cls d, WG.FnP l.prog w K mg base (k + 4) fOther _ ["_law_e"] (ZC cls d) (spOther CN cls d) := fun k cls d => ok_other DOther.F OO TC (g0 z_isinstance) cls d
    have GT : ∀ k, FnOk l.prog w K mg base CX0 (k + 5) fTold _ ["_law_text_here"] (spTold K) := fun k => ok_told DTold.F DWordsOf (GW k) DOther (GO k) CT (PySem.W.mg_of X G aN) (PySem.W.mg_of X G aB) (g0 z_isinstance) (g0 z_ValueError)
    exact ok_law FLaw DCell DPot DDraw DSigns DText DWritten DRow DSpoilt DRight (ok_right DRight.F DRead DQuoted DBare DTold (GT 0) (g0 z_len) (g0 z_max) (g0 z_isinstance) (g0 z_list)) DTold (GT 1) (g0 z_len) (g0 z_max) (g0 z_min) (g0 z_divmod) (g0 z_range) (g0 z_all) (g0 z_enumerate) (g0 z_int)
end WB

open PySem PySem.W PyProof.Rows
set_option maxRecDepth 100000
set_option Elab.async false
set_option maxHeartbeats 0 in
theorem PySem.Challenge.cw_wordbench_k26_whole_texts_read_or_not_holds : PySem.Challenge.rw_wordbench_k26_whole_texts_read_or_not.Holds := by
  w_on; o_law; k_head; (case hw => w_witness2)
  k_fill
  refine L2.walk_of (l := PySem.Challenge.rw_wordbench_k26_whole_texts_read_or_not) (n := 63) (k := 7) (x := "_law_script") (CX := fun _ => L2.CX0) (sp := fun w => WB.spLaw _) rfl (by decide) rfl ⟨rfl, by decide, by decide⟩ (fun w h Y => PySem.W.kIn_of Y) ?F (fun _ _ a ns hl _ hS => ⟨a, ns, rfl, hS, hl, fun _ => rfl⟩) (fun _ _ _ _ _ h => h)
  case F =>
    intro w mg fa h KX G hmg
    refine' WB.all_mk KX G hmg ?aCell ?lCell ?cCell ?kCell ?aPot ?lPot ?cPot ?kPot ?aDraw ?lDraw ?cDraw ?kDraw ?aSigns ?lSigns ?cSigns ?kSigns ?aText ?lText ?cText ?kText ?aWritten ?lWritten ?cWritten ?kWritten ?aQuoted ?lQuoted ?cQuoted ?kQuoted ?aBare ?lBare ?cBare ?kBare ?aRead ?lRead ?cRead ?kRead ?aOther ?lOther ?cOther ?kOther ?aTold ?lTold ?cTold ?kTold ?aRight ?lRight ?cRight ?kRight ?aRow ?lRow ?cRow ?kRow ?aSpoilt ?lSpoilt ?cSpoilt ?kSpoilt ?aNeeds ?lNeeds ?cNeeds ?kNeeds ?aWordText ?lWordText ?cWordText ?kWordText ?aRowText ?lRowText ?cRowText ?kRowText ?aCut ?lCut ?cCut ?kCut ?aWordOf ?lWordOf ?cWordOf ?kWordOf ?aWordsOf ?lWordsOf ?cWordsOf ?kWordsOf ?aB ?aN ?xN ?gaN ?ggN ?hcN ?kN ?eN ?eB ?tN ?hdN ?sN ?spN ?tkN ?moN ?tB ?hdB ?sB ?sV ?oa1 ?oh1 ?ot1 ?os1 ?oa2 ?oh2 ?ot2 ?os2 ?oa3 ?oh3 ?ot3 ?os3 ?oa4 ?oh4 ?ot4 ?os4 ?oa5 ?oh5 ?ot5 ?os5 ?oa6 ?oh6 ?ot6 ?os6 ?oa7 ?oh7 ?ot7 ?os7 ?oa8 ?oh8 ?ot8 ?os8 ?oa9 ?oh9 ?ot9 ?os9 ?z_len ?z_max ?z_min ?z_divmod ?z_range ?z_list ?z_isinstance ?z_str ?z_all ?z_enumerate ?z_int ?z_ValueError ?aLaw ?lLaw ?cLaw ?kLaw
    (case aCell => k_is)
    (case lCell => k_is)
    (case cCell => k_is)
    (case kCell => k_is)
    (case aPot => k_is)
    (case lPot => k_is)
    (case cPot => k_is)
    (case kPot => k_is)
    (case aDraw => k_is)
    (case lDraw => k_is)
    (case cDraw => k_is)
    (case kDraw => k_is)
    (case aSigns => k_is)
    (case lSigns => k_is)
    (case cSigns => k_is)
    (case kSigns => k_is)
    (case aText => k_is)
    (case lText => k_is)
    (case cText => k_is)
    (case kText => k_is)
    (case aWritten => k_is)
    (case lWritten => k_is)
    (case cWritten => k_is)
    (case kWritten => k_is)
    (case aQuoted => k_is)
    (case lQuoted => k_is)
    (case cQuoted => k_is)
    (case kQuoted => k_is)
    (case aBare => k_is)
    (case lBare => k_is)
    (case cBare => k_is)
    (case kBare => k_is)
    (case aRead => k_is)
    (case lRead => k_is)
    (case cRead => k_is)
    (case kRead => k_is)
    (case aOther => k_is)
    (case lOther => k_is)
    (case cOther => k_is)
    (case kOther => k_is)
    (case aTold => k_is)
    (case lTold => k_is)
    (case cTold => k_is)
    (case kTold => k_is)
    (case aRight => k_is)
    (case lRight => k_is)
    (case cRight => k_is)
    (case kRight => k_is)
    (case aRow => k_is)
    (case lRow => k_is)
    (case cRow => k_is)
    (case kRow => k_is)
    (case aSpoilt => k_is)
    (case lSpoilt => k_is)
    (case cSpoilt => k_is)
    (case kSpoilt => k_is)
    (case aNeeds => k_is)
    (case lNeeds => k_is)
    (case cNeeds => k_is)
    (case kNeeds => k_is)
    (case aWordText => k_is)
    (case lWordText => k_is)
    (case cWordText => k_is)
    (case kWordText => k_is)
    (case aRowText => k_is)
    (case lRowText => k_is)
    (case cRowText => k_is)
    (case kRowText => k_is)
    (case aCut => k_is)
    (case lCut => k_is)
    (case cCut => k_is)
    (case kCut => k_is)
    (case aWordOf => k_is)
    (case lWordOf => k_is)
    (case cWordOf => k_is)
    (case kWordOf => k_is)
    (case aWordsOf => k_is)
    (case lWordsOf => k_is)
    (case cWordsOf => k_is)
    (case kWordsOf => k_is)
    (case aB => k_is)
    (case aN => k_is)
    (case xN => k_exc)
    (case gaN => k_is)
    (case ggN => k_is)
    (case hcN => k_is)
    (case kN => k_is)
    (case eN => k_is)
    (case eB => k_is)
    (case tN => k_is)
    (case hdN => k_is)
    (case sN => k_is)
    (case spN => k_is)
    (case tkN => k_is)
    (case moN => k_is)
    (case tB => k_is)
    (case hdB => k_is)
    (case sB => k_is)
    (case sV => k_is)
    (case oa1 => k_is)
    (case oh1 => k_is)
    (case ot1 => k_is)
    (case os1 => k_is)
    (case oa2 => k_is)
    (case oh2 => k_is)
    (case ot2 => k_is)
    (case os2 => k_is)
    (case oa3 => k_is)
    (case oh3 => k_is)
    (case ot3 => k_is)
    (case os3 => k_is)
    (case oa4 => k_is)
    (case oh4 => k_is)
    (case ot4 => k_is)
    (case os4 => k_is)
    (case oa5 => k_is)
    (case oh5 => k_is)
    (case ot5 => k_is)
    (case os5 => k_is)
    (case oa6 => k_is)
    (case oh6 => k_is)
    (case ot6 => k_is)
    (case os6 => k_is)
    (case oa7 => k_is)
    (case oh7 => k_is)
    (case ot7 => k_is)
    (case os7 => k_is)
    (case oa8 => k_is)
    (case oh8 => k_is)
    (case ot8 => k_is)
    (case os8 => k_is)
    (case oa9 => k_is)
    (case oh9 => k_is)
    (case ot9 => k_is)
    (case os9 => k_is)
    (case z_len => k_is)
    (case z_max => k_is)
    (case z_min => k_is)
    (case z_divmod => k_is)
    (case z_range => k_is)
    (case z_list => k_is)
    (case z_isinstance => k_is)
    (case z_str => k_is)
    (case z_all => k_is)
    (case z_enumerate => k_is)
    (case z_int => k_is)
    (case z_ValueError => k_is)
    (case aLaw => k_is)
    (case lLaw => k_is)
    (case cLaw => k_is)
    (case kLaw => k_is)
