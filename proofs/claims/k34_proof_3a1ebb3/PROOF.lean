import PyProof.Rows.All
import Wide.All
import OpenK.AllK
import Wide.FinOn
import PySem.Challenge.RW_wordbench_k34_one_of_some_words
import HandS.ForMost
import HandS.IsInst
import KE.KIsAll
import PyProof.ReprRoads
import PyProof.StrBlock2
import HandS.Exc
import HandS.ExcInit
import HandS.ExcField
import HandS.ExcIs
import HandS.TryOnly
import HandS.WordsExc
import HandS.Defaults
import HandS.MakeKw
import HandS.MakeKwOnly
import HandS.EndTab
import HandS.HeadWalk
import HandS.Nested
import HandS.ExcValue
import KE.KNestM
import HandS.ExcOwn
import HandS.CallLocal
import HandS.StrMore
import HandS.More
import HandS.Text
import HandS.Finally
import PyProof.Rows.StrNews2
import PyProof.MeetsStr3
import PyProof.StrLawsLast
import HandS.Walk
import PyProof.ReprLen
import HandS.Style
set_option Elab.async false
set_option linter.all false
set_option maxRecDepth 100000
set_option maxHeartbeats 4000000
namespace WB
open PySem PySem.Spec PyProof.Rows L2
open TL (tl)
def topS (i : Nat) : Stmt := PySem.Challenge.pw_wordbench_k34_one_of_some_words.main.body.getD i (.Pass ⟨0, 0, 0, 0⟩)
abbrev st_cell : Stmt := topS 8
theorem sc_cell : FnScope ["_law_script", "_law_k"] ["_law_script", "_law_k"] (defScope st_cell) := ⟨rfl, rfl, rfl, by decide +kernel, rfl, by decide +kernel, by decide +kernel⟩
abbrev st_pot : Stmt := topS 9
theorem sc_pot : FnScope ["_law_script", "_law_k", "_law_cell_here"] ["_law_script", "_law_k"] (defScope st_pot) := ⟨rfl, rfl, rfl, by decide +kernel, rfl, by decide +kernel, by decide +kernel⟩
abbrev st_draw : Stmt := topS 10
theorem sc_draw : FnScope ["_law_pot_here", "_law_many", "_law_digit"] ["_law_pot_here", "_law_many"] (defScope st_draw) := ⟨rfl, rfl, rfl, by decide +kernel, rfl, by decide +kernel, by decide +kernel⟩
abbrev sCell := st_cell
abbrev sPot := st_pot
abbrev sDraw := st_draw
abbrev scCell := sc_cell
abbrev scPot := sc_pot
abbrev scDraw := sc_draw
/-- a def of the top: its object, how it binds, its name -/
structure Df (K : PySem.W.Frag) (mg : Str → Option Value) (x : Str) (st : Stmt) (ps : List Str) (f : Addr) (fd : FuncData) : Prop where
  F : Fun K x x st f fd
  b : Binds K fd ps []
  g : mg x = some (.ref f)
/-! ### heaps -/
theorem same_upd {H : Hp} {p : Addr} {o : HO} (h : H p = none) : Same H (upd H p o) := fun b x e => by
  rw [upd_ne (ne_of_none e h)]
  exact e
/-- all that was tracked but at p is as it was -/
def But (p : Addr) (H H' : Hp) : Prop := ∀ b o, b ≠ p → H b = some o → H' b = some o
theorem But.refl (p : Addr) (H : Hp) : But p H H := fun _ _ _ h => h
theorem But.trans {p : Addr} {H H1 H2 : Hp} (a : But p H H1) (b : But p H1 H2) : But p H H2 := fun c o n h => b c o n (a c o n h)
theorem But.of_same {p : Addr} {H H' : Hp} (a : Same H H') : But p H H' := fun c o _ h => a c o h
theorem But.upd (p : Addr) (H : Hp) (o : HO) : But p H (upd H p o) := fun c u n h => by
  rw [upd_ne n]
  exact h
theorem But.new {p : Addr} {H : Hp} {q : Addr} {o : HO} (h : H q = none) : But p H (L2.upd H q o) := But.of_same (same_upd h)
/-- at p a pot stands -/
def Pot (H : Hp) (p : Addr) : Prop := ∃ a b : Int, H p = some (.lst [.int a, .int b]) ∧ 0 ≤ b ∧ b < 2147483648
theorem Pot.some {H : Hp} {p : Addr} (h : Pot H p) : ∃ o, H p = some o := by
  obtain ⟨a, b, e, _⟩ := h
  exact ⟨_, e⟩
theorem Pot.ne {H : Hp} {p q : Addr} (h : Pot H p) (n : H q = none) : p ≠ q := by
  obtain ⟨a, b, e, _⟩ := h
  exact ne_of_none e n
theorem Pot.new {H : Hp} {p q : Addr} {o : HO} (h : Pot H p) (n : H q = none) : Pot (L2.upd H q o) p := by
  have ne := h.ne n
  obtain ⟨a, b, e, h1, h2⟩ := h
  refine ⟨a, b, ?_, h1, h2⟩
  rw [upd_ne ne]
  exact e
/-! ### texts of some signs -/
structure Tq (p : Nat → Prop) (n : Nat) (y : Str) : Prop where
  le : y.length ≤ n
  pl : ∀ c ∈ tl y, p c
theorem Tq.mono {p q : Nat → Prop} {n m : Nat} {y : Str} (h : Tq p n y) (e : n ≤ m) (f : ∀ c, p c → q c) : Tq q m y := ⟨Nat.le_trans h.le e, fun c hc => f c (h.pl c hc)⟩
theorem Tq.app {p : Nat → Prop} {n m : Nat} {x y : Str} (h : Tq p n x) (k : Tq p m y) : Tq p (n + m) (x ++ y) := by
  refine ⟨?_, fun c hc => ?_⟩
  · rw [Str.length_append]
    exact Nat.add_le_add h.le k.le
  · rw [TL.tl_append] at hc
    exact (List.mem_append.mp hc).elim (h.pl c) (k.pl c)
theorem Tq.cut {p : Nat → Prop} {n : Nat} {x : Str} (h : Tq p n x) (lo hi : Option Int) : Tq p n (cutS x lo hi) := by
  refine ⟨Nat.le_trans (cutS_length x lo hi) h.le, fun c hc => h.pl c ?_⟩
  have e : c ∈ (x.cps.toList.drop _).take _ := hc
  exact List.mem_of_mem_drop (List.mem_of_mem_take e)
theorem Tq.sign {p : Nat → Prop} {c : Nat} (h : p c) : Tq p 1 ⟨#[c]⟩ := by
  refine ⟨Nat.le_refl 1, fun d hd => ?_⟩
  have e : d ∈ [c] := hd
  rw [List.mem_singleton.mp e]
  exact h
theorem mem_joinL (S : List Nat) : ∀ (ps : List (List Nat)) (c : Nat), c ∈ TL.joinL S ps → c ∈ S ∨ ∃ p ∈ ps, c ∈ p
  | [], c, h => by cases h
  | [p], c, h => .inr ⟨p, List.mem_singleton.mpr rfl, h⟩
  | p :: q :: r, c, h => by
    rcases List.mem_append.mp (show c ∈ p ++ (S ++ TL.joinL S (q :: r)) from h) with h | h
    · exact .inr ⟨p, List.mem_cons_self, h⟩
    · rcases List.mem_append.mp h with h | h
      · exact .inl h
      · rcases mem_joinL S (q :: r) c h with h | ⟨p', hp, hc⟩
        · exact .inl h
        · exact .inr ⟨p', List.mem_cons_of_mem _ hp, hc⟩
theorem sum_most {p : Nat → Prop} (m : Nat) : ∀ ys : List Str, (∀ y ∈ ys, Tq p m y) → (ys.map (·.length)).sum ≤ ys.length * m
  | [], _ => Nat.zero_le _
  | y :: r, h => by
    have h1 := sum_most m r fun z hz => h z (List.mem_cons_of_mem _ hz)
    have h2 := (h y List.mem_cons_self).le
    rw [List.map_cons, List.sum_cons, List.length_cons, Nat.succ_mul]
    omega
theorem Tq.join {p : Nat → Prop} {sep : Str} {k m n : Nat} {ys : List Str} (hs : Tq p k sep) (h : ∀ y ∈ ys, Tq p m y) (hn : ys.length * m + ys.length * k ≤ n) : Tq p n (Txt.join sep ys) := by
  refine ⟨?_, fun c hc => ?_⟩
  · rw [TL.join_eq]
    have e := StrLaws.join_length_le sep ys
    have e2 := sum_most m ys h
    have e3 : ys.length * sep.length ≤ ys.length * k := Nat.mul_le_mul_left _ hs.le
    omega
  · rw [TL.join_eq, TL.tl_join] at hc
    rcases mem_joinL _ _ c hc with h1 | ⟨p, hp, h1⟩
    · exact hs.pl c h1
    · obtain ⟨y, hy, rfl⟩ := List.mem_map.mp hp
      exact (h y hy).pl c h1
section
variable {P : Program} {w : World} {K : PySem.W.Frag} {mg : Str → Option Value} {base : Heap}
/-! ### _law_cell -/
def spCell (K : PySem.W.Frag) : Sp := fun vs H Q _ => ∃ (a : Addr) (ns : List Int) (k : Int), vs = [.ref a, .int k] ∧ SqL K H a (ns.map V.int) ∧ 0 ≤ k ∧ ∀ z : Int, Q (.int z) H
theorem ok_cell {f : Addr} {fd : FuncData} {k : Nat} (F : Fun K "_law_cell" "_law_cell" sCell f fd) (mL : mg "len" = none) : FnOk P w K mg base CX0 (k + 1) f fd ["_law_script", "_law_k"] (spCell K) := by
  refine F.ok scCell (fun vs H Q E h => ?_) (fun cdv A outer s H vs Q E hr h => ?_)
  · obtain ⟨a, ns, k, rfl, _⟩ := h
    rfl
  · obtain ⟨a, ns, k, rfl, hS, hk, q⟩ := h
    refine ⟨_, pss_one (ps_ret (pe_ifExp (pt_cmpR op_lt (pv 1) (pe_callB call_len_seq (by rfl) mL PySem.boot_len (pa_cons (pv 0) pa_nil)) (nomark _)) (pe_ix ix_list (pv 0) (pv 1) (fun _ _ => rfl)) pe_int)), ?_⟩
    refine ⟨.int k, rfl, .ref a, rfl, a, _, rfl, .inl hS, k, _, rfl, rfl, _, rfl, ite2 (fun e => ?_) (fun e => q 0)⟩
    have e1 := of_decide_eq_true e
    obtain ⟨n, rfl⟩ := Int.eq_ofNat_of_zero_le hk
    rw [List.length_map] at e1
    have hn : n < ns.length := by omega
    exact ⟨.ref a, rfl, .int n, rfl, a, _, _, .int ns[n], rfl, rfl, hS, atI_nat (j := n) (by rw [List.getElem?_map, List.getElem?_eq_getElem hn]; rfl), q _⟩
/-! ### _law_pot -/
def spPot (K : PySem.W.Frag) : Sp := fun vs H Q _ => ∃ (a : Addr) (ns : List Int) (k : Int), vs = [.ref a, .int k] ∧ SqL K H a (ns.map V.int) ∧ 0 ≤ k ∧
  ∀ H' p, Same H H' → H p = none → Pot H' p → Q (.ref p) H'
theorem ok_pot {f fC : Addr} {fd fdC : FuncData} {k : Nat} (F : Fun K "_law_pot" "_law_pot" sPot f fd) (C : Df K mg "_law_cell" sCell ["_law_script", "_law_k"] fC fdC) (mL : mg "len" = none) (mM : mg "max" = none) :
    FnOk P w K mg base CX0 (k + 2) f fd ["_law_script", "_law_k"] (spPot K) := by
  have GC : FnOk P w K mg base CX0 (k + 1) fC fdC ["_law_script", "_law_k"] (spCell K) := ok_cell C.F mL
  refine F.ok scPot (fun vs H Q E h => ?_) (fun cdv A outer s H vs Q E hr h => ?_)
  · obtain ⟨a, ns, k, rfl, _⟩ := h
    rfl
  · obtain ⟨a, ns, k, rfl, hS, hk, q⟩ := h
    refine ⟨_, pss_cons (ps_set (i := 2) scPot.nd rfl (.inl rfl) (pe_call GC hr (by rfl) C.g C.F.kp C.b .nil pass0 (pa_cons (pv 0) (pa_cons (pv 1) pa_nil))))
      (pss_one (ps_ret (pe_lst (pa_cons (pe_callB (call_max2 rfl) (by rfl) mM (by decide +kernel) (pa_cons pe_int (pa_cons (pe_op op_sub (pv 2) (pe_op op_pow pe_int pe_int)) pa_nil)))
        (pa_cons (pe_op op_mod (pe_op op_add (pe_op op_add (pe_op op_mul (pe_op op_mod (pv 2) pe_int) pe_int) (pe_op op_mul pe_int (pv 1))) pe_int) pe_int) pa_nil))))), ?_⟩
    refine ⟨.ref a, rfl, .int k, rfl, a, ns, k, rfl, hS, hk, fun z => ?_⟩
    refine ⟨.int z, rfl, 10, 18, rfl, rfl, ⟨by decide, by decide, by decide⟩, z, _, rfl, rfl, 0, _, rfl, ?_⟩
    refine ⟨.int z, rfl, z, 2147483629, rfl, rfl, (by show (0 : Int) < 2147483629; decide), _, 48271, rfl, rfl, .inr ⟨by decide, by decide⟩, .int k, rfl, 7919, k, rfl, rfl, .inl ⟨by decide, by decide⟩, _, _, rfl, rfl, _, 31, rfl, rfl, _, 2147483629, rfl, rfl, (by show (0 : Int) < 2147483629; decide), ?_⟩
    refine ⟨by show 2 ≤ sizeLine; decide, fun p hp => q _ p (same_upd hp) hp ⟨_, _, upd_same, Int.emod_nonneg _ (by decide), ?_⟩⟩
    exact Int.lt_trans (Int.emod_lt_of_pos _ (by decide)) (by decide)
/-! ### _law_draw -/
def spDraw : Sp := fun vs H Q _ => ∃ (p : Addr) (m : Int), vs = [.ref p, .int m] ∧ Pot H p ∧ 0 < m ∧ m ≤ 1000 ∧ ∀ H' (d : Int), But p H H' → Pot H' p → 0 ≤ d → d < m → Q (.int d) H'
theorem ok_draw {f : Addr} {fd : FuncData} {k : Nat} (F : Fun K "_law_draw" "_law_draw" sDraw f fd) (mD : mg "divmod" = none) : FnOk P w K mg base CX0 (k + 1) f fd ["_law_pot_here", "_law_many"] spDraw := by
  refine F.ok scDraw (fun vs H Q E h => ?_) (fun cdv A outer s H vs Q E hr h => ?_)
  · obtain ⟨p, m, rfl, _⟩ := h
    rfl
  · obtain ⟨p, m, rfl, ⟨a, b, hp, hb0, hb1⟩, hm0, hm1, q⟩ := h
    refine ⟨_, pss_cons (ps_if (pt_cmpR op_gt (pe_ix ix_list (pv 0) pe_int (fun _ _ => rfl)) pe_int (nomark _))
        (pss_cons (ps_asg (pe_callB call_divmod (by rfl) mD (by decide +kernel) (pa_cons (pe_ix ix_list (pv 0) pe_int (fun _ _ => rfl)) (pa_cons (pv 1) pa_nil)))
            (pg_tup rfl (pgs_cons (pg_sub (pv 0) pe_int set_list) (pgs_cons (pg_name (i := 2) scDraw.nd rfl (.inl rfl)) pgs_nil))))
          (pss_one (ps_ret (pv 2)))) pss_nil)
      (pss_cons (ps_asg (pe_op op_mod (pe_op op_add (pe_op op_mul (pe_ix ix_list (pv 0) pe_int (fun _ _ => rfl)) pe_int) pe_int) pe_int) (pg_sub (pv 0) pe_int set_list))
      (pss_one (ps_ret (pe_op op_mod (pe_op op_fdiv (pe_op op_mod (pe_op op_pow (pe_ix ix_list (pv 0) pe_int (fun _ _ => rfl)) pe_int) pe_int) pe_int) (pv 1))))), ?_⟩
    refine ⟨.ref p, rfl, p, _, 0, .int a, rfl, rfl, SqL.of hp, atI_nat (j := 0) rfl, a, 0, rfl, rfl, _, rfl, ite2 (fun e => ?_) (fun e => ?_)⟩
    · refine ⟨.ref p, rfl, p, _, 0, .int a, rfl, rfl, SqL.of hp, atI_nat (j := 0) rfl, .int m, rfl, a, m, rfl, ⟨hm0, by omega⟩, fun t nt => ?_⟩
      have npt : p ≠ t := ne_of_none hp nt
      have hp1 : (upd H t (.tup [.int (a / m), .int (a % m)])) p = some (.lst [.int a, .int b]) := by
        rw [upd_ne npt]
        exact hp
      refine ⟨t, _, rfl, SqT.of upd_same, rfl, _, _, rfl, .ref p, rfl, p, _, 0, 0, rfl, rfl, hp1, rfl, _, _, rfl, rfl, ?_⟩
      refine ⟨.int (a % m), rfl, q _ _ ((But.new nt).trans (But.upd _ _ _)) ⟨a / m, b, upd_same, hb0, hb1⟩ (Int.emod_nonneg _ (by omega)) (Int.emod_lt_of_pos _ hm0)⟩
    · refine ⟨.ref p, rfl, p, _, 1, .int b, rfl, rfl, SqL.of hp, atI_nat (j := 1) rfl, b, 39373, rfl, rfl, .inr ⟨by decide, by decide⟩, _, 8191, rfl, rfl, _, 2147483587, rfl, rfl, (by show (0 : Int) < 2147483587; decide), ?_⟩
      refine ⟨.ref p, rfl, p, _, 1, 1, rfl, rfl, hp, rfl, ?_⟩
      have c0 : 0 ≤ (b * 39373 + 8191) % 2147483587 := Int.emod_nonneg _ (by decide)
      have c1 : (b * 39373 + 8191) % 2147483587 < 2147483587 := Int.emod_lt_of_pos _ (by decide)
      refine ⟨.ref p, rfl, p, _, 1, .int ((b * 39373 + 8191) % 2147483587), rfl, rfl, SqL.of upd_same, atI_nat (j := 1) rfl, (b * 39373 + 8191) % 2147483587, 2, rfl, rfl, ⟨by decide, by decide, by omega⟩, _, 2147483543, rfl, rfl, (by show (0 : Int) < 2147483543; decide), _, 13, rfl, rfl, ⟨by decide, by decide⟩, .int m, rfl, _, m, rfl, rfl, hm0, ?_⟩
      exact q _ _ (But.upd _ _ _) ⟨a, _, upd_same, c0, by omega⟩ (Int.emod_nonneg _ (by omega)) (Int.emod_lt_of_pos _ hm0)
end
theorem at_strs (ys : List Str) (d : Int) (h0 : 0 ≤ d) (h1 : d < (ys.length : Int)) : ∃ y ∈ ys, atI (ys.map V.str) d = some (.str y) := by
  obtain ⟨n, rfl⟩ := Int.eq_ofNat_of_zero_le h0
  have hn : n < ys.length := by omega
  exact ⟨ys[n], List.getElem_mem hn, atI_nat (by rw [List.getElem?_map, List.getElem?_eq_getElem hn]; rfl)⟩
theorem at_ints (ys : List Int) (d : Int) (h0 : 0 ≤ d) (h1 : d < (ys.length : Int)) : ∃ y ∈ ys, atI (ys.map V.int) d = some (.int y) := by
  obtain ⟨n, rfl⟩ := Int.eq_ofNat_of_zero_le h0
  have hn : n < ys.length := by omega
  exact ⟨ys[n], List.getElem_mem hn, atI_nat (by rw [List.getElem?_map, List.getElem?_eq_getElem hn]; rfl)⟩
theorem at_any (ys : List V) (d : Int) (h0 : 0 ≤ d) (h1 : d < (ys.length : Int)) : ∃ y ∈ ys, atI ys d = some y := by
  obtain ⟨n, rfl⟩ := Int.eq_ofNat_of_zero_le h0
  have hn : n < ys.length := by omega
  exact ⟨ys[n], List.getElem_mem hn, atI_nat (List.getElem?_eq_getElem hn)⟩
theorem go {R : Hp → Prop} {H : Hp} {a : Addr} {o : HO} (n : H a = none) (h : ∀ H', Same H H' → H' a = some o → R H') : R (upd H a o) := h _ (same_upd n) upd_same
theorem goT {α : Type} {R : Hp → α → Prop} {Q : α} {H : Hp} {a : Addr} {o : HO} (n : H a = none) (h : ∀ H', Same H H' → H' a = some o → R H' Q) : R (upd H a o) Q := h _ (same_upd n) upd_same
theorem goU {R : Hp → Prop} {H : Hp} {a : Addr} {o : HO} (h : ∀ H', But a H H' → H' a = some o → R H') : R (upd H a o) := h _ (But.upd _ _ _) upd_same
theorem ev_use {t : TE} {σ : L2.St} {H : Hp} {v : V} {R : VK} (e : ∀ R : VK, R v H → t σ H R) (c : R v H) : t σ H R := e R c
theorem ev_gen {t : TE} {σ : L2.St} {H : Hp} (D : V → Hp → Prop) {R : VK} (e : ∀ R : VK, (∀ v H', D v H' → R v H') → t σ H R) (c : ∀ v H', D v H' → R v H') : t σ H R := e R c
theorem ts_gen {t : TS} {κ : L2.Ends} {σ : L2.St} {H : Hp} (D : L2.St → Hp → Prop) (e : ∀ κ : L2.Ends, (∀ σ' H', D σ' H' → κ.nx σ' H') → t κ σ H) (c : ∀ σ' H', D σ' H' → κ.nx σ' H') : t κ σ H := e κ c
theorem dp_strs {K : PySem.W.Frag} {H : Hp} : ∀ ys : List Str, DpAll K H (ys.map V.str) (ys.map PyData.str)
  | [] => .nil
  | y :: r => .cons (.str y) (dp_strs r)
theorem strOk_of {z : Str} (h : ∀ c ∈ tl z, c < 256) : PyData.strOk z = true := by
  unfold PyData.strOk
  rw [← Array.all_toList]
  exact List.all_eq_true.mpr fun c hc => decide_eq_true (Nat.lt_trans (h c hc) (by decide))
theorem lay_strs : ∀ ys : List Str, (∀ y ∈ ys, PyData.strOk y = true) → PyData.canLayAll0 (ys.map PyData.str) = true ∧ PyData.depthAll (ys.map PyData.str) = 0
  | [], _ => ⟨by simp [PyData.canLayAll0], by simp [PyData.depthAll]⟩
  | y :: r, h => by
    obtain ⟨h1, h2⟩ := lay_strs r fun z hz => h z (List.mem_cons_of_mem _ hz)
    rw [List.map_cons]
    exact ⟨by simp [PyData.canLayAll0, PyData.canLay0, h1, h y List.mem_cons_self], by simp [PyData.depthAll, PyData.depth, h2]⟩
theorem shaped_strs (ys : List Str) (h : ∀ y ∈ ys, PyData.strOk y = true) : SeqAt.shaped (.list (ys.map PyData.str)) = true := by
  obtain ⟨h1, h2⟩ := lay_strs ys h
  unfold SeqAt.shaped
  simp [PyData.canLay0, PyData.depth, h1, h2]
theorem eqv_nil (ds : List PyData) : PyData.eqv (.list ds) (.list []) = ds.isEmpty := by
  cases ds with
  | nil => simp [PyData.eqv, PyData.eqvAll]
  | cons d r => simp [PyData.eqv, PyData.eqvAll]
theorem strs_flat (ys : List Str) : (ys.map V.str).all flatV = true := by
  rw [List.all_map]
  exact List.all_eq_true.mpr fun _ _ => rfl
theorem eqvAll_strs : ∀ xs ys : List Str, PyData.eqvAll (xs.map PyData.str) (ys.map PyData.str) = decide (xs = ys)
  | [], [] => by simp [PyData.eqvAll]
  | [], y :: r => by simp [PyData.eqvAll]
  | x :: r, [] => by simp [PyData.eqvAll]
  | x :: r, y :: t => by
    rw [List.map_cons, List.map_cons]
    simp only [PyData.eqvAll, PyData.eqv]
    rw [eqvAll_strs r t]
    by_cases h : x = y
    · subst h
      by_cases h2 : r = t
      · subst h2
        simp
      · simp [h2]
    · simp [h]
theorem eqv_strs (xs ys : List Str) : PyData.eqv (.list (xs.map PyData.str)) (.list (ys.map PyData.str)) = decide (xs = ys) := by
  simp only [PyData.eqv]
  exact eqvAll_strs xs ys
theorem inV_strs (z : Str) (ys : List Str) : inV (.str z) (ys.map V.str) = decide (z ∈ ys) := by
  unfold inV
  rw [List.any_map]
  induction ys with
  | nil => rfl
  | cons y r ih =>
    rw [List.any_cons, ih]
    show (decide (y = z) || decide (z ∈ r)) = _
    by_cases h : y = z
    · subst h
      simp
    · have h2 : ¬ z = y := fun e => h e.symm
      simp [h, h2]
theorem tl_cut_to (x : Str) (k : Nat) : tl (cutS x none (some (k : Int))) = (tl x).take k := by
  show ((((tl x).drop (HT.sIx x.length 0 none)).take (HT.sIx x.length x.length (some (k : Int)) - HT.sIx x.length 0 none)).toArray).toList = _
  rw [HT.sIx_none, HT.sIx_nat, List.drop_zero, Nat.sub_zero]
  show (tl x).take (min k x.length) = _
  rw [TL.len_tl, ← List.take_take, List.take_length]
theorem tl_cut_from (x : Str) (k : Nat) : tl (cutS x (some (k : Int)) none) = (tl x).drop k := by
  show ((((tl x).drop (HT.sIx x.length 0 (some (k : Int)))).take (HT.sIx x.length x.length none - HT.sIx x.length 0 (some (k : Int)))).toArray).toList = _
  rw [HT.sIx_none, HT.sIx_nat]
  show ((tl x).drop (min k x.length)).take (x.length - min k x.length) = _
  have hl := TL.len_tl x
  by_cases h : k ≤ x.length
  · rw [Nat.min_eq_left h, List.take_of_length_le (by rw [List.length_drop]; omega)]
  · rw [Nat.min_eq_right (by omega), List.drop_of_length_le (by omega), List.drop_of_length_le (by omega), List.take_nil]
theorem fold_toList : ∀ (l : List (Array Nat)) (acc : Array Nat), (l.foldl (· ++ ·) acc).toList = acc.toList ++ (l.map Array.toList).flatten
  | [], acc => by simp
  | x :: l, acc => by
    rw [List.foldl_cons, fold_toList l]
    simp
theorem mul_tl (z : Str) (n : Nat) : (Txt.mul z (n : Int)).cps.toList = (List.replicate n z.cps.toList).flatten := by
  unfold Txt.mul
  by_cases h1 : (n : Int) < 1
  · have e : n = 0 := by omega
    subst e
    rw [if_pos h1]
    rfl
  · rw [if_neg h1]
    by_cases h2 : ((n : Int) == 1 || z.length == 0) = true
    · rw [if_pos h2]
      rcases Bool.or_eq_true_iff.mp h2 with e | e
      · have e1 : n = 1 := by
          have := eq_of_beq e
          omega
        subst e1
        simp
      · have e1 : z.cps.toList = [] := List.length_eq_zero_iff.mp (by
          have := eq_of_beq e
          simpa [Str.length] using this)
        rw [e1]
        simp
    · rw [if_neg h2]
      show ((List.replicate (n : Int).toNat z.cps).foldl (· ++ ·) #[]).toList = _
      rw [fold_toList, Int.toNat_natCast, List.map_replicate]
      rfl
theorem op_mul_str {X : Cx} : OpR X (binaryOp .Mult) (fun x y H Q => ∃ (z : Str) (n : Nat), x = .str z ∧ y = .int (n : Int) ∧ n ≤ 1000 ∧ z.length ≤ 1000 ∧ ∀ y : Str, tl y = (List.replicate n (tl z)).flatten → Q (.str y) H) := by
  intro pins s σ H x y v u Q I rx ry h
  obtain ⟨z, n, rfl, rfl, hn, hz, q⟩ := h
  obtain ⟨tx, rfl⟩ := rx
  obtain ⟨ty, rfl⟩ := ry
  have pw : z.length * n ≤ 1000000 := Nat.le_trans (Nat.mul_le_mul hz hn) (by decide)
  refine PySem.SB.mul ⟨?_, fun h1 h2 => ?_, fun h1 h2 => ?_⟩ fun t' k => ⟨.str _, H, I.tok k, ⟨t', rfl⟩, q _ ?_⟩
  · rw [decide_eq_false (by omega), decide_eq_false (by omega)]
    rfl
  · have e : (1000 : Int) ≤ (2 ^ 63 - 1) / (n : Int) := by
      have h3 : (0 : Int) < n := by omega
      exact (Int.le_ediv_iff_mul_le h3).mpr (by omega)
    omega
  · rw [Int.toNat_natCast]
    exact decide_eq_false (by show ¬ sizeLine < _; have : sizeLine = 16777216 := sizeLine_eq; omega)
  · exact mul_tl z n
theorem tt_use {t : TT} {σ : L2.St} {H : Hp} {b : Bool} {R : Bool → Hp → Prop} (e : ∀ R : Bool → Hp → Prop, R b H → t σ H R) (c : R b H) : t σ H R := e R c
theorem str_ext {a b : Str} (h : tl a = tl b) : a = b := by
  cases a; cases b
  exact congrArg Str.mk (Array.toList_inj.mp h)
abbrev B8 : Nat → Prop := fun c => c < 256
theorem Pot.same {H H' : Hp} {p : Addr} (h : Pot H p) (s : Same H H') : Pot H' p := by
  obtain ⟨x, y, e, h1, h2⟩ := h
  exact ⟨x, y, s _ _ e, h1, h2⟩
end WB

set_option Elab.async false
set_option linter.all false
set_option maxRecDepth 100000
set_option maxHeartbeats 4000000
namespace WB
open PySem PySem.Spec PyProof.Rows L2
open TL (tl)
abbrev st_signs : Stmt := topS 11
theorem sc_signs : FnScope ["_law_letters"] [] (defScope st_signs) := ⟨rfl, rfl, rfl, by decide +kernel, rfl, by decide +kernel, by decide +kernel⟩
abbrev st_text : Stmt := topS 12
theorem sc_text : FnScope ["_law_pot_here", "_law_most", "_law_signs_here", "_law_k"] ["_law_pot_here", "_law_most", "_law_signs_here"] (defScope st_text) := ⟨rfl, rfl, rfl, by decide +kernel, rfl, by decide +kernel, by decide +kernel⟩
abbrev sSigns := st_signs
abbrev sText := st_text
abbrev scSigns := sc_signs
abbrev scText := sc_text
section
variable {P : Program} {w : World} {K : PySem.W.Frag} {mg : Str → Option Value} {base : Heap}
/-! ### _law_signs -/
def signs2 : Str := Str.ofString " !\"#$&'()*+,-./0123456789:;<=>?@" ++ Str.ofString "[\\]^_`{|}~abcdefghijklmnopqrstuvwxyzABCDEFGHIJKLMNOPQRSTUVWXYZ"
def spSigns : Sp := fun vs H Q _ => vs = [] ∧ Q (.str signs2) H
theorem ok_signs {f : Addr} {fd : FuncData} {k : Nat} (F : Fun K "_law_signs" "_law_signs" sSigns f fd) : FnOk P w K mg base CX0 (k + 1) f fd [] spSigns := by
  refine F.ok scSigns (fun vs H Q E h => ?_) (fun cdv A outer s H vs Q E hr h => ?_)
  · obtain ⟨rfl, _⟩ := h
    rfl
  · obtain ⟨rfl, q⟩ := h
    refine ⟨_, pss_cons (ps_set (i := 0) scSigns.nd rfl (.inl rfl) pe_str) (pss_one (ps_ret (pe_op op_add_str (pe_op op_add_str pe_str (pv 0)) (pe_upper (pv 0))))), ?_⟩
    refine ⟨_, rfl, _, _, rfl, rfl, ?_, _, rfl, ⟨_, rfl⟩, _, rfl, rfl, ?_, _, _, rfl, rfl, ?_, (congrArg (fun z => Q (.str z) H) (by decide +kernel)).mp q⟩ <;> decide +kernel
/-! ### _law_text -/
def spText : Sp := fun vs H Q _ => ∃ (p : Addr) (m : Int) (z : Str), vs = [.ref p, .int m, .str z] ∧ Pot H p ∧ 0 ≤ m ∧ m ≤ 100 ∧ 0 < z.length ∧ z.length ≤ 200 ∧
  ∀ H' (y : Str), But p H H' → Pot H' p → Tq (· ∈ tl z) m.toNat y → Q (.str y) H'
theorem ok_text {f fD : Addr} {fd fdD : FuncData} {k : Nat} (F : Fun K "_law_text" "_law_text" sText f fd) (D : Df K mg "_law_draw" sDraw ["_law_pot_here", "_law_many"] fD fdD) (mD : mg "divmod" = none) (mL : mg "len" = none) (mR : mg "range" = none) :
    FnOk P w K mg base CX0 (k + 2) f fd ["_law_pot_here", "_law_most", "_law_signs_here"] spText := by
  have GD : FnOk P w K mg base CX0 (k + 1) fD fdD ["_law_pot_here", "_law_many"] spDraw := ok_draw D.F mD
  refine F.ok scText (fun vs H Q E h => ?_) (fun cdv A outer s H vs Q E hr h => ?_)
  · obtain ⟨p, m, z, rfl, _⟩ := h
    rfl
  · obtain ⟨p, m, z, rfl, hp, hm0, hm1, hz0, hz1, q⟩ := h
    refine ⟨_, pss_one (ps_ret (pe_join pe_str (pe_lc (own := [("_law_k", 3)]) (g := gName 3) (tt := tYes) rfl scText.nd
      (pi_range1 rfl mR (pa_cons (pe_call GD hr (by rfl) D.g D.F.kp D.b .nil pass0 (pa_cons (pv 0) (pa_cons (pe_op op_add (pv 1) pe_int) pa_nil))) pa_nil))
      (blkOk_by (N := ["_law_pot_here", "_law_most", "_law_signs_here", "_law_k"]) (sc := defScope sText) (by decide +kernel))
      (fun _ _ _ _ _ => pg_name (i := 3) scText.nd rfl (Or.inl rfl)) (fun _ _ _ _ _ => pts_nil)
      (fun _ _ _ _ _ => pe_ix ix_str (pv 2) (pe_call GD hr (by rfl) D.g D.F.kp D.b .nil pass0 (pa_cons (pv 0) (pa_cons (pe_callB call_len_str (by rfl) mL PySem.boot_len (pa_cons (pv 2) pa_nil)) pa_nil))) (fun _ _ => rfl))))), ?_⟩
    refine ⟨⟨_, rfl⟩, .ref p, rfl, .int m, rfl, m, 1, rfl, rfl, p, m + 1, rfl, hp, by omega, by omega, fun H1 d b1 p1 d0 d1 => ?_⟩
    refine ⟨d, rfl, by omega, by omega, fun T nT => ?_⟩
    have npT : p ≠ T := p1.ne nT
    refine lc_range (lo := 0) (n := d.toNat) (fun i Hc => But p H1 Hc ∧ Pot Hc p ∧ ∃ ys : List Str, Hc T = some (.lst (ys.map V.str)) ∧ ys.length = i ∧ ∀ y ∈ ys, Tq (· ∈ tl z) 1 y)
      ⟨But.new nT, p1.new nT, [], upd_same, rfl, fun y hy => by cases hy⟩ (fun i Hc hi ⟨bc, pc, ys, eT, el, e1⟩ => ?_) (fun Hc ⟨bc, pc, ys, eT, el, e1⟩ => ?_)
    · refine ⟨rfl, ?_⟩
      have hzl : z.length ≤ sizeLine := Nat.le_trans hz1 (by decide)
      refine ⟨.str z, rfl, .ref p, rfl, .str z, rfl, z, rfl, hzl, p, z.length, rfl, pc, by omega, by omega, fun H4 j b4 p4 j0 j1 => ?_⟩
      obtain ⟨n, rfl⟩ := Int.eq_ofNat_of_zero_le j0
      have hn : n < z.cps.toList.length := by
        have e : z.cps.toList.length = z.length := by simp [Str.length]
        omega
      have eT4 : H4 T = some (.lst (ys.map V.str)) := b4 T _ npT.symm eT
      refine ⟨z, n, z.cps.toList[n], rfl, rfl, hzl, atI_nat (List.getElem?_eq_getElem hn), ys.map V.str, eT4, ?_, ?_, ?_, ys ++ [⟨#[z.cps.toList[n]]⟩], ?_, ?_, ?_⟩
      · rw [List.length_map, el]
        exact small1000 (by omega)
      · exact fun b o nb e => by
          rw [upd_ne (ne_of_none e nT)]
          exact b4 b o nb (bc b o nb e)
      · obtain ⟨x, y, e, h1, h2⟩ := p4
        refine ⟨x, y, ?_, h1, h2⟩
        rw [upd_ne npT]
        exact e
      · rw [upd_same, List.map_append]
        rfl
      · rw [List.length_append, el]
        rfl
      · intro y hy
        rcases List.mem_append.mp hy with hy | hy
        · exact e1 y hy
        · rw [List.mem_singleton.mp hy]
          exact Tq.sign (List.getElem_mem hn)
    · have e0 : (Str.ofString "").length = 0 := by decide +kernel
      have es := sum_most 1 ys e1
      refine ⟨_, T, ys, rfl, rfl, .inl (SqL.of eT), ?_, q _ _ (b1.trans bc) pc ?_⟩
      · rw [e0]
        omega
      · exact Tq.join ⟨by rw [e0]; exact Nat.le_refl 0, fun c hc => by cases hc⟩ e1 (by omega)
end
end WB

set_option Elab.async false
set_option linter.all false
set_option maxRecDepth 100000
set_option maxHeartbeats 4000000
namespace WG
open PySem PySem.Spec PyProof.Rows L2
/-! ### a def's promise where no repr is under way -/
structure GOk (P : Program) (w : World) (K : PySem.W.Frag) (mg : Str → Option Value) (base : Heap) (CX : CXT) (k : Nat) (f : Addr) (fd : FuncData) (ps : List Str) (sp : Sp) : Prop where
  len : ∀ vs H Q E, sp vs H Q E → vs.length = ps.length
  run : ∀ (A : Around) (outer : List Env) (s : Shared) (H : Hp) (args : Args) (us : List Value) (vs : List V) (Q : VK) (E : XK), A.guards = some [] → Room k A → Env0 P w K mg base A outer s H →
    BindsTo s fd args (ps.zip us) → Vals vs us → sp vs H Q E → codeAny (model P w) A (.call (.ref f) args) (CR CX outer P w H s Q E) s
theorem GOk.of {P : Program} {w : World} {K : PySem.W.Frag} {mg : Str → Option Value} {base : Heap} {CX : CXT} {k : Nat} {f : Addr} {fd : FuncData} {ps : List Str} {sp : Sp} (F : FnOk P w K mg base CX k f fd ps sp) : GOk P w K mg base CX k f fd ps sp :=
  ⟨F.len, fun A o s H args us vs Q E _ => F.run A o s H args us vs Q E⟩
section
variable {CX : CXT} {P : Program} {w : World} {K : PySem.W.Frag} {mg : Str → Option Value} {base : Heap} {k : Nat} {f : Addr} {N ps : List Str} {sp : Sp}
theorem gfn_of {name qual : Str} {params : Arguments} {body : List Stmt} {scope : Scope} {dV kV doc pm cdv ct oc : Value} {an od : Option Addr} {osl : Array (Option Value)}
    (lk : K.lookup f = some ⟨oc, od, .func (PySem.W.fnOf name qual params body scope dV kV doc pm an cdv ct), osl⟩) (hcd : PySem.W.codeIn K cdv qual = true) (S : FnScope N ps scope) (len : ∀ vs H Q E, sp vs H Q E → vs.length = ps.length)
    (hbody : ∀ (A : Around) (outer : List Env) (s : Shared) (H : Hp) (vs : List V) (Q : VK) (E : XK), A.guards = some [] → Room k (A.deeper (envOfC qual scope s.heap.objs.size f cdv)) → sp vs H Q E →
      ∃ t, PSs (cxOf CX P w K mg base N qual scope f cdv A outer s H E) body t ∧ t { nx := fun _ H' => Q .non H', rt := Q } (L2.start N vs) H) :
    GOk P w K mg base CX (k + 1) f (PySem.W.fnOf name qual params body scope dV kV doc pm an cdv ct) ps sp := by
  refine ⟨len, fun A outer s H args us vs Q E hgd room env bnd rel want => ?_⟩
  have hlen := len _ _ _ _ want
  have kin : K.In s.heap := env.mod.kin.keeps fun b o q => (env.bs b o q).1
  have nolim : s.heap.NoLimit := env.mod.nolimit.keeps fun b o q => (env.bs b o q).1
  have kinds : ∀ y ∈ ps.zip us, scope.names.lookup y.1 = some .local ∨ (scope.names.lookup y.1 = some .cell ∧ ((cellsFrom (s.heap.objs.size + 1) scope.names []).lookup y.1).isSome = true) := by
    intro y hy
    obtain ⟨n, v⟩ := y
    cases S.par n (List.of_mem_zip hy).1 with
    | inl z => exact .inl z
    | inr z => exact .inr ⟨z, PySem.W.cellsFrom_some _ _ _ (.inl z)⟩
  refine codeAny_call_function room.depth (kin _ _ lk) rfl S.co S.gen rfl (PySem.W.codeRec_of kin hcd) (bnd _ _ _ _ ?_)
  refine wpAny_newFunctionEnv_cells S.kind kinds fun e2 he2 s1 hx => ?_
  subst he2
  refine ⟨nolim.keeps hx.toInCall.keep, codeAny_func ?_⟩
  obtain ⟨t, tb, tq⟩ := hbody A outer s H vs Q E hgd (room.deeper _) want
  have I : Inv (cxOf CX P w K mg base N qual scope f cdv A outer s H E) [] (L2.start N vs) H s1 := inv_start S room.hd env hlen rel hx
  refine wpAny_mono (tb.run [] s1 (L2.start N vs) H _ I tq) (fun fl s' hs => ?_) fun e s' hs => hs
  cases fl with
  | ret u =>
    obtain ⟨v, _, H', J, rv, q⟩ := hs
    exact ⟨v, H', J.os, J.bare, J.base, J.hok, rv, q⟩
  | next =>
    obtain ⟨_, H', J, q⟩ := hs
    exact ⟨V.non, H', J.os, J.bare, J.base, J.hok, rfl, q⟩
  | brk =>
    obtain ⟨_, _, _, q⟩ := hs
    exact False.elim q
  | cont =>
    obtain ⟨_, _, _, q⟩ := hs
    exact False.elim q
theorem gfun_ok {x qual : Str} {st : Stmt} {fd : FuncData} (F : Fun K x qual st f fd) (S : FnScope N ps (defScope st)) (len : ∀ vs H Q E, sp vs H Q E → vs.length = ps.length)
    (hbody : ∀ (cdv : Value) (A : Around) (outer : List Env) (s : Shared) (H : Hp) (vs : List V) (Q : VK) (E : XK), A.guards = some [] → Room k (A.deeper (envOfC qual (defScope st) s.heap.objs.size f cdv)) → sp vs H Q E →
      ∃ t, PSs (cxOf CX P w K mg base N qual (defScope st) f cdv A outer s H E) (defBody st) t ∧ t { nx := fun _ H' => Q .non H', rt := Q } (L2.start N vs) H) : GOk P w K mg base CX (k + 1) f fd ps sp := by
  obtain ⟨oc, od, kV, doc, pm, an, cdv, ct, osl, rfl, lk, hcd⟩ := F.ex
  exact gfn_of lk hcd S len fun A outer s H vs Q E hg hr hsp => hbody cdv A outer s H vs Q E hg hr hsp
end
section
variable {X : Cx} {CX : CXT} {k : Nat} {f : Addr} {fd : FuncData} {ps : List Str} {sp : Sp} {E : XK} {x : Str} {p pos : Pos} {e : Expr} {es : List Expr} {t : TA}
theorem pe_callG (F : GOk X.prog X.w X.K X.mg X.base CX k f fd ps sp) (hgd : X.A.guards = some []) (hr : Room k X.A) (hg : Gl X x) (hm : X.mg x = some (.ref f)) (hk : PySem.W.keepIn X.K (.ref f) = true) (hb : Binds X.K fd ps []) (hx : Passes CX X E)
    (ha : PA X (e :: es) t) (hdb : (x == ("__debug__" : Str)) = false := by decide) (he : starEach (e :: es) X.env = (false, eval e X.env) :: starEach es X.env := by rfl) (hpl : (backTo pos (starEach es X.env)).any (·.1) = false := by rfl) :
    PE X (.Call (.Name x p) (e :: es) [] pos) (tCall sp [] E t) := by
  constructor
  intro pins s σ H Q I h
  refine wpAny_Call_Name_kw (ld_glob I hg hm ?_ hdb)
  refine PySem.W.callWith_K (h₀ := X.base) I.ok.mod.kin hk (thn (ha.run pos pins s σ H _ I h) fun us s1 ⟨vs, H1, I1, r, q⟩ => ⟨I1.kIn, ?_⟩) he hpl
  have q : sp vs H1 Q E := by
    have z : sp (vs ++ []) H1 Q E := q
    rw [List.append_nil] at z
    exact z
  have hl : (us ++ []).length = ps.length := by
    rw [List.append_nil, ← r.length]
    exact F.len _ _ _ _ q
  have b := hb s1 us I1.kIn hl
  rw [List.append_nil] at b
  refine wpAny_call (codeAny_mono (F.run X.A X.stack s1 H1 ⟨us, []⟩ us vs Q E hgd hr I1.env0 b r q) fun rr s' hq => ?_)
  cases rr with
  | error er => exact hx pins σ H1 s1 er s' I1 hq
  | ok fl =>
    cases fl with
    | ret u => exact I1.after hq
    | next => exact hq.elim
    | brk => exact hq.elim
    | cont => exact hq.elim
end
/-! ### the law's end over such a promise -/
theorem glaw_call {P : Program} {w : World} {K : PySem.W.Frag} {mg mb : Str → Option Value} {CX : CXT} {k : Nat} {fa a : Addr} {fd : FuncData} {x : Str} {sp : Sp} {t : Shared} {vs : List Value} {ns : List Int}
    (kin : K.In t.heap) (nsm : t.heap.Ns mainGlobals mg) (nsb : t.heap.Ns builtinsNs mb) (hbb : ∀ x : Str, x ≠ "__name__" → mb x = bootBuiltins x) (nolim : t.heap.NoLimit) (nogen : t.gens = #[])
    (obj : t.heap.get? a = some { cls := .type "list", data := .seq vs.toArray }) (hints : IntsAre vs ns) (hl : ns.length ≤ sizeLine) (room : Room k callerA)
    (F : ∀ base : Heap, K.In base → base.Ns mainGlobals mg → GOk P w K mg base CX k fa fd [x] sp) (bnd : ∀ (s : Shared) (u : Value), BindsTo s fd ⟨[u], []⟩ [(x, u)])
    (want : ∀ H : Hp, Only H → SqL K H a (ns.map V.int) → sp [.ref a] H (fun v _ => v = .bl true) fun _ _ _ => False)
    (noX : ∀ H e s', CX [] H t (fun _ _ _ => False) e s' → False) :
    codeAny (model P w) callerA (.call (.ref fa) ⟨[.ref a], []⟩) (fun r s' => r = .ok (.ret (.bool true)) ∧ OldK t.heap s'.heap ∧ s'.os = t.os ∧ AllBare s'.gens) t := by
  have rv := vals_ints hints
  have hlv := hints.length
  have main : ∀ H : Hp, Only H → SqL K H a (ns.map V.int) → HOk P w H t.heap → (∀ b, H b ≠ none → b = a) → (H a ≠ none → K.lookup a = none) →
      codeAny (model P w) callerA (.call (.ref fa) ⟨[.ref a], []⟩) (fun r s' => r = .ok (.ret (.bool true)) ∧ OldK t.heap s'.heap ∧ s'.os = t.os ∧ AllBare s'.gens) t := by
    intro H only hS ok onlyA hK
    have noD : ∀ {b : Addr} {o : Obj} {es : Array DictEntry} {ep : Nat}, t.heap.get? b = some o → o.data = .dict es ep → H b = none := by
      intro b o es ep e d
      cases q : H b with
      | none => rfl
      | some u =>
        have z := onlyA b (by rw [q]; exact Option.some_ne_none u)
        subst z
        rw [obj] at e
        cases e
        cases d
    have nsH : ∀ {b : Addr} {m : Str → Option Value}, t.heap.Ns b m → (hidT t.heap H).Ns b m := by
      rintro b m ⟨o, es, ep, e, d, r⟩
      exact ⟨o, es, ep, hidT_get e (noD e d), d, r⟩
    have kinH : K.In (hidT t.heap H) := by
      intro b o e
      refine hidT_get (kin b o e) ?_
      cases q : H b with
      | none => rfl
      | some u =>
        have z := onlyA b (by rw [q]; exact Option.some_ne_none u)
        subst z
        rw [hK (by rw [q]; exact Option.some_ne_none u)] at e
        cases e
    have md : Mod K mg (hidT t.heap H) := by
      refine ⟨kinH, nsH nsm, ⟨mb, nsH nsb, hbb⟩, ?_⟩
      obtain ⟨mc, h1, h2⟩ := nolim
      exact ⟨mc, nsH h1, h2⟩
    have env : Env0 P w K mg (hidT t.heap H) callerA [] t H :=
      ⟨rfl, md, fun b o e => of_hidT e, Nat.le_of_eq (hidT_size _ _), trivial, fun b hb => (List.not_mem_nil (show b ∈ ([] : List Addr) from hb)).elim, ok, .of_eq nogen⟩
    refine codeAny_mono ((F _ kinH (nsH nsm)).run callerA [] t H ⟨[.ref a], []⟩ [.ref a] [.ref a] _ _ rfl room env (bnd t (.ref a)) (.cons rfl .nil) (want H only hS)) fun r s' h => ?_
    cases r with
    | error e => exact (noX H e s' h).elim
    | ok fl =>
      cases fl with
      | next => exact h.elim
      | brk => exact h.elim
      | cont => exact h.elim
      | ret u =>
        obtain ⟨v, H', os, bare, un, ok', r', q⟩ := h
        have q' : v = .bl true := q
        subst q'
        cases r'
        refine ⟨rfl, OldK.of_keep fun b o e => ?_, os, bare⟩
        cases q : H b with
        | none => exact un.keep b o e q (fun z => (List.not_mem_nil (show b ∈ ([] : List Addr) from z)).elim) List.not_mem_nil
        | some u =>
          rcases only b with z | ⟨ob, xs, z⟩
          · rw [q] at z
            cases z
          · obtain ⟨e1, _⟩ := ok b _ z
            obtain ⟨e2, _⟩ := ok' b _ (un.frzs b ob _ z)
            rw [e] at e1
            cases e1
            exact e2
  cases hk : K.lookup a with
  | some o =>
    have e := kin a o hk
    rw [obj] at e
    cases e
    refine main (fun _ => none) (fun _ => .inl rfl) (.inr ⟨_, vs.toArray, _, hk, rfl, rfl, rfl, ?_, by simpa using rv⟩) (fun b u z => by cases (show (none : Option HO) = some u from z)) (fun b z => absurd rfl z) fun z => absurd rfl z
    rw [List.size_toArray, hlv]
    exact hl
  | none =>
    refine main (fun b => if b = a then some (.frz { cls := .type "list", data := .seq vs.toArray } (.lst (ns.map V.int))) else none) (fun b => ?_) (.inl (.inr ⟨_, if_pos rfl⟩)) (fun b u z => ?_) (fun b z => ?_) fun _ => hk
    · by_cases hb : b = a
      · exact .inr ⟨_, _, if_pos hb⟩
      · exact .inl (if_neg hb)
    · by_cases hb : b = a
      · have z' := (if_pos hb).symm.trans z
        cases z'
        subst hb
        exact ⟨obj, by rw [List.length_map]; exact hl, vs, _, rv, obj⟩
      · have z' := (if_neg hb).symm.trans z
        cases z'
    · by_cases hb : b = a
      · exact hb
      · exact absurd (if_neg hb) z
theorem gwalk_of {l : PySem.W.OpenLaw} {n k : Nat} {q : Program} {loose : List Str} {XP : (Str → Option Value) → Heap → Prop} {YP : World → Heap → Prop} {d : DefRec} {K : Params → PySem.W.Frag} {CX : World → CXT} {sp : World → Sp} {x : Str}
    (hn : l.most = some n) (hn2 : n ≤ sizeLine) (hdf : d.params.defaults = []) (hr : Room k callerA) (hY : ∀ (w : World) (h : Heap), YP w h → (K w.params).In h)
    (F : ∀ (w : World) (mg : Str → Option Value) (fa : Addr) (h : Heap), (K w.params).In h → h.Ns mainGlobals mg → mg d.name = some (.ref fa) →
      ∃ fd : FuncData, (∀ (s : Shared) (u : Value), BindsTo s fd ⟨[u], []⟩ [(x, u)]) ∧ ∀ base : Heap, (K w.params).In base → base.Ns mainGlobals mg → GOk l.prog w (K w.params) mg base (CX w) k fa fd [x] (sp w))
    (hsp : ∀ (w : World) (H : Hp) (a : Addr) (ns : List Int), ns.length ≤ n → Only H → SqL (K w.params) H a (ns.map V.int) → sp w [.ref a] H (fun v _ => v = .bl true) fun _ _ _ => False)
    (hCX : ∀ (w : World) (H : Hp) (s : Shared) (e : Value) (s' : Shared), CX w [] H s (fun _ _ _ => False) e s' → False) : PySem.W.WalkO q loose XP YP l.row.toRowW d [] (fun f vs => PySem.call f vs) := by
  refine Att.attach_call hn hdf fun w s0 s1 mg mb fa o pm cd doc a vs ns G Y ho hd hcd hmg hobj hints hlen hg => ?_
  obtain ⟨fd, hb, hF⟩ := F w mg fa _ (hY w _ Y) G.T.g hmg
  exact glaw_call (hY w _ Y) G.T.g G.T.b G.T.builtins G.T.nolimit hg hobj hints (Nat.le_trans hlen hn2) hr hF hb (fun H hO hS => hsp w H a ns hlen hO hS) fun H e s' => hCX w H s1 e s'
/-! ### text * int -/
theorem fold_toList : ∀ (l : List (Array Nat)) (acc : Array Nat), (l.foldl (· ++ ·) acc).toList = acc.toList ++ (l.map Array.toList).flatten
  | [], acc => by simp
  | x :: l, acc => by
    rw [List.foldl_cons, fold_toList l]
    simp
theorem mul_tl (z : Str) (n : Nat) : (Txt.mul z (n : Int)).cps.toList = (List.replicate n z.cps.toList).flatten := by
  unfold Txt.mul
  by_cases h1 : (n : Int) < 1
  · have e : n = 0 := by omega
    subst e
    rw [if_pos h1]
    rfl
  · rw [if_neg h1]
    by_cases h2 : ((n : Int) == 1 || z.length == 0) = true
    · rw [if_pos h2]
      rcases Bool.or_eq_true_iff.mp h2 with e | e
      · have e1 : n = 1 := by
          have := eq_of_beq e
          omega
        subst e1
        simp
      · have e1 : z.cps.toList = [] := List.length_eq_zero_iff.mp (by
          have := eq_of_beq e
          simpa [Str.length] using this)
        rw [e1]
        simp
    · rw [if_neg h2]
      show ((List.replicate (n : Int).toNat z.cps).foldl (· ++ ·) #[]).toList = _
      rw [fold_toList, Int.toNat_natCast, List.map_replicate]
      rfl
theorem op_mul_str {X : Cx} : OpR X (binaryOp .Mult) (fun x y H Q => ∃ (z : Str) (n : Nat), x = .str z ∧ y = .int (n : Int) ∧ n ≤ 1000 ∧ z.length ≤ 1000 ∧ ∀ y : Str, y.length = z.length * n → (∀ c ∈ y.cps.toList, c ∈ z.cps.toList) → Q (.str y) H) := by
  intro pins s σ H x y v u Q I rx ry h
  obtain ⟨z, n, rfl, rfl, hn, hz, q⟩ := h
  obtain ⟨tx, rfl⟩ := rx
  obtain ⟨ty, rfl⟩ := ry
  have pw : z.length * n ≤ 1000000 := Nat.le_trans (Nat.mul_le_mul hz hn) (by decide)
  refine PySem.SB.mul ⟨?_, fun h1 h2 => ?_, fun h1 h2 => ?_⟩ fun t' k => ⟨.str _, H, I.tok k, ⟨t', rfl⟩, q _ ?_ ?_⟩
  · rw [decide_eq_false (by omega), decide_eq_false (by omega)]
    rfl
  · have e : (1000 : Int) ≤ (2 ^ 63 - 1) / (n : Int) := by
      have h3 : (0 : Int) < n := by omega
      exact (Int.le_ediv_iff_mul_le h3).mpr (by omega)
    omega
  · rw [Int.toNat_natCast]
    exact decide_eq_false (by show ¬ sizeLine < _; have : sizeLine = 16777216 := sizeLine_eq; omega)
  · rw [TL.len_tl, TL.len_tl z]
    show (Txt.mul z (n : Int)).cps.toList.length = _
    rw [mul_tl]
    simp [Nat.mul_comm]
  · intro c hc
    rw [mul_tl] at hc
    obtain ⟨l, hl, hcl⟩ := List.mem_flatten.mp hc
    rw [(List.mem_replicate.mp hl).2] at hcl
    exact hcl
/-! ### repr of a list -/
/-- a value and the data that it is: as in Dp, and dicts of none or one text with an int -/
inductive Itm (K : PySem.W.Frag) (H : Hp) : V → PyData → Prop
  | dp {v : V} {d : PyData} (h : Dp K H v d) (nd : d.hasDict = false) : Itm K H v d
  | d0 {a : Addr} (h : H a = some (.dK [])) : Itm K H (.ref a) (.dict [])
  | d1 {a : Addr} {x : Str} {i : Int} (h : H a = some (.dK [(Sum.inr x, .int i)])) : Itm K H (.ref a) (.dict [(.str x, .int i)])
inductive ItmAll (K : PySem.W.Frag) (H : Hp) : List V → List PyData → Prop
  | nil : ItmAll K H [] []
  | cons {v : V} {vs : List V} {d : PyData} {ds : List PyData} : Itm K H v d → ItmAll K H vs ds → ItmAll K H (v :: vs) (d :: ds)
section
variable {X : Cx} {pins : List (Addr × Obj)} {σ : L2.St} {H : Hp} {s : Shared}
theorem Itm.reads (I : Inv X pins σ H s) {v : V} {u : Value} {d : PyData} (h : Itm X.K H v d) (r : RelV v u) : ∃ as, Reads s.heap u d as ∧ (d.hasDict = true → sysModules ∉ as) := by
  cases h with
  | dp h nd =>
    obtain ⟨as, q⟩ := Dp.reads I d v u h r
    exact ⟨as, q, fun z => by rw [nd] at z; cases z⟩
  | @d0 a h =>
    cases r
    obtain ⟨_, ns, vs, kv, o, es, ep, ho, hx, hd, hk, hp, _⟩ := I.hok _ _ h
    cases kv
    generalize hl : es.toList = l at hp
    cases hp
    refine ⟨_, Reads.dict (kvs := []) (as := []) (bs := []) ho hx.1 hd (by rw [hl]; exact .nil) (by rw [hl]; exact .nil), fun _ => ?_⟩
    intro hm
    rcases List.mem_cons.mp hm with e | e
    · rw [← e] at ns
      exact absurd ns (by decide)
    · cases e
  | @d1 a x i h =>
    cases r
    obtain ⟨_, ns, vs, kv, o, es, ep, ho, hx, hd, hk, hp, _⟩ := I.hok _ _ h
    cases kv with
    | cons h1 h2 =>
      cases h2
      obtain ⟨e1, t, e2⟩ := h1
      rename_i b nd2
      obtain ⟨b1, b2⟩ := b
      dsimp only at e1 e2
      subst e1 e2
      generalize hl : es.toList = l at hp
      cases hp with
      | cons k1 k2 k3 =>
        cases k3
        rename_i en
        obtain ⟨hh, ky, vl⟩ := en
        dsimp only at k1 k2
        subst k2
        have k1' : keyIs (Sum.inr x) ky = true := k1
        rcases keyIs_shape k1' with ⟨j, t', z, _⟩ | ⟨y, t', z, rfl⟩
        · cases z
        · cases z
          refine ⟨_, Reads.dict (kvs := [(.str x, .int i)]) ho hx.1 hd (by rw [hl]; exact .cons (.str x t') .nil) (by rw [hl]; exact .cons (.int i t) .nil), fun _ => ?_⟩
          intro hm
          rcases List.mem_cons.mp hm with e | e
          · rw [← e] at ns
            exact absurd ns (by decide)
          · cases e
theorem ItmAll.all (I : Inv X pins σ H s) : ∀ {vs : List V} {ds : List PyData} {us : List Value}, ItmAll X.K H vs ds → Vals vs us → PyData.showableAll ds = true → (∀ t ∈ PyData.shownAll ds, t.length ≤ sizeLine) →
    (∃ as, ReadsAll s.heap us ds as) ∧ ∃ bs, ReadAtMost s.heap (PyData.depthAll ds) bs ∧ ReprAllK X.prog X.w bs s.heap (PyData.depthAll ds) us (PyData.shownAll ds)
  | _, _, _, .nil, .nil, _, _ => ⟨⟨_, .nil⟩, [], (fun _ h => nomatch h), by simp only [PyData.shownAll]; exact .nil⟩
  | _, _, _, .cons (d := d) (ds := ds) h1 h2, .cons r1 r2, hs, hz => by
    have hs' : d.showable = true ∧ PyData.showableAll ds = true := by simpa [PyData.showableAll] using hs
    obtain ⟨as, q, nq⟩ := h1.reads I r1
    obtain ⟨⟨as2, q2⟩, bs2, b2, k2⟩ := ItmAll.all I h2 r2 hs'.2 (fun t ht => hz t (by simp only [PyData.shownAll]; exact List.mem_cons_of_mem _ ht))
    obtain ⟨bs1, b1, k1⟩ := ReprK.of_reads (prog := X.prog) (w := X.w) q hs'.1 nq (hz _ (by simp only [PyData.shownAll]; exact List.mem_cons_self ..))
    refine ⟨⟨_, .cons q q2⟩, bs1 ++ bs2, ?_, ?_⟩
    · have e1 : d.depth ≤ PyData.depthAll (d :: ds) := by simp only [PyData.depthAll]; omega
      have e2 : PyData.depthAll ds ≤ PyData.depthAll (d :: ds) := by simp only [PyData.depthAll]; omega
      exact (b1.mono e1).append (b2.mono e2)
    · have e1 : d.depth ≤ PyData.depthAll (d :: ds) := by simp only [PyData.depthAll]; omega
      have e2 : PyData.depthAll ds ≤ PyData.depthAll (d :: ds) := by simp only [PyData.depthAll]; omega
      simp only [PyData.shownAll]
      exact .cons ((k1.more fun b hb => List.mem_append_left _ hb).level_le e1) (k2.more_le (fun b hb => List.mem_append_right _ hb) e2)
/-- repr(l) -/
def rRepr (K : PySem.W.Frag) : List V → Hp → VK → Prop := fun xs H Q => ∃ (a : Addr) (vs : List V) (ds : List PyData), xs = [.ref a] ∧ SqL K H a vs ∧ vs ≠ [] ∧ ItmAll K H vs ds ∧ PyData.showableAll ds = true ∧ PyData.depthAll ds ≤ 8 ∧
  (listText (PyData.shownAll ds)).length ≤ sizeLine ∧ Q (.str (listText (PyData.shownAll ds))) H
end
theorem call_repr_l {X : Cx} (hg : X.A.guards = some []) (hu : X.A.units + 16 < cLine) : CallR X (.builtin "repr") (rRepr X.K) := by
  intro pins s σ H xs us Q I r h
  obtain ⟨a, vs, ds, rfl, hS, hne, hI, hs, hdp, hz, q⟩ := h
  cases r with
  | cons ra rr =>
    cases rr
    cases ra
    obtain ⟨its, rv, ⟨o, n, ho, hc, hdx, hd⟩, _⟩ := I.list hS
    obtain ⟨⟨as, hr⟩, bs, hb, hk⟩ := ItmAll.all I hI rv hs (fun t ht => Nat.le_trans (listText_mem_le ht) hz)
    cases its with
    | nil =>
      cases rv
      exact absurd rfl hne
    | cons x l =>
      have rd : Reads s.heap (.ref a) (.list ds) _ := Reads.list ho hc hd hr
      have hna : a ∉ bs := not_mem_of_deeper rd (by simp only [PyData.depth]; omega) hb
      refine call_repr_slot (T := "list") (idr := "list.__repr__") (by omega) ⟨o, ho, hc⟩ F.slot_list_repr.toG ?_
      exact call_list_reprK (h₀ := s.heap) (as := bs) ho hc hd hna (by simpa using hk.length_eq) (fun i y e => hk.item i y (by simpa using e)) (g := []) hg (fun b _ => Clear.nil b) (by show X.A.units + 1 + (_ + 1) < cLine; omega) (fun _ _ e => e)
        (fun h' u tk hkp => ⟨_, _, rfl, .str _, H, I.kept (t' := tk) hkp, ⟨u, rfl⟩, q⟩) hz
end WG

set_option Elab.async false
set_option linter.all false
set_option maxRecDepth 100000
set_option maxHeartbeats 4000000
namespace WG
open PySem PySem.Spec PySem.Calls PyProof.Rows PySem.W
section
variable {prog : Program} {w : World} {A : Around} {E : Value → Shared → Prop} {s : Shared} {K : Frag} {x D : Addr} {ox : Obj} {od : Option Obj}
theorem find_dat {C : Addr} {name : Str} {a g : Value} (hc : (clsIn K C).isSome = true) (ha : findIn K (.ref C) name = some (some a)) (hg : specialIn K a "__get__" = some (some g)) (ht : takesIn K a = some true) :
    findObj K C od name = some (.bind g a) := by
  obtain ⟨cd, hcd⟩ := Option.isSome_iff_exists.mp hc
  unfold findObj
  rw [hcd, Option.bind_some, ha, Option.bind_some]
  simp [hg, ht]
theorem exc_class {Q : Option Value → Shared → Prop} (c : L2.ExcC K D) (kin : K.In s.heap) (at0 : InstAt s.heap x ox D od) (h : Q (some (.ref D)) { s with toks := s.toks + 1 }) : wpAny (model prog w) A (getAttr? (.ref x) "__class__") Q E s := by
  have hf : findObj K D od "__class__" = some (.bind (.builtin "getset_descriptor.__get__") (.builtin "object.__class__")) := by
    refine find_dat ?_ c.ha c.hn c.ht
    obtain ⟨cd, hcd, _⟩ := any_some c.hd
    rw [hcd] <;> rfl
  obtain ⟨hh, gs, dr, tk, os⟩ := s
  have t0 := at0.type (M := model prog w)
  have t1 := looks_findIn (M := model prog w) kin c.hg
  have t2 := looks_findIn (M := model prog w) kin c.hk
  have t3 := looks_find (M := model prog w) kin at0 hf
  have isb : Looks (model prog w) hh (isInstance (.ref x) (.type "BaseException")) true := t0.andThen (looks_subIn kin c.hs)
  have z0 : (false && onTheHeap (Value.builtin "BaseException.__getattribute__")) = false := rfl
  have z2 : (Value.builtin "BaseException.__getattribute__" == Value.builtin "object.__getattribute__") = false := by decide +kernel
  have z1 : (onTheHeap (Value.ref D) && Value.builtin "BaseException.__getattribute__" == Value.builtin "object.__getattribute__") = false := by
    rw [z2]
    rfl
  unfold getAttr? getAttrBy? getAttrBy
  refine wpAny_bind (wpAny_mkText (wpAny_bind (wpAny_attempt (wpAny_holding (wpAny_bind (t0.at (wpAny_bind (t1.at ?_))))))))
  show wpAny _ _ (if (onTheHeap (Value.ref D) && Value.builtin "BaseException.__getattribute__" == Value.builtin "object.__getattribute__") = true then _ else _) _ _ _
  rw [z1, if_neg Bool.false_ne_true]
  unfold getAttrByItsOwn hookBefore
  refine wpAny_bind ?_
  rw [if_pos (show onTheHeap (Value.ref D) = true from rfl)]
  refine t2.at (wpAny_bind (wpAny_attempt (wpAny_holding ?_)))
  unfold callGetattribute
  rw [z0, if_neg Bool.false_ne_true]
  unfold boundAndCalled
  rw [PySem.F.excAttr_ValueError.ga.bind (.ref x)]
  refine wpAny_bind (wpAny_pure ?_)
  show wpAny _ _ (call (.builtin "BaseException.__getattribute__") [.ref x, .str "__class__" tk]) _ _ _
  refine wpAny_call (codeAny_call_builtin PySem.F.excAttr_ValueError.ga.plain PySem.F.entry_bexc_ga ?_)
  refine @check_slot (model prog w) _ _ ⟨hh, gs, dr, tk + 1, os⟩ "BaseException.__getattribute__" "BaseException" "__getattribute__" (.ref x) [.str "__class__" tk] [] _ (by decide +kernel) (by decide +kernel) isb (PySem.F.args_bexc_ga (.ref x) (.str "__class__" tk)) ?_
  unfold Builtin.«object.__getattribute__»
  refine wpAny_bind (wpAny_of_eq (a := ((Value.ref x : Value), [Value.str "__class__" tk])) (by first | rfl | (simp only [slotArgs]; rfl)) ?_)
  refine wpAny_bind (wpAny_pure (wpAny_bind (t0.at (wpAny_bind (t3.at ?_)))))
  show wpAny _ _ (holding [Value.builtin "object.__class__"] (call (.builtin "getset_descriptor.__get__") [.builtin "object.__class__", .ref x, .ref D]) >>= ret) _ _ _
  refine wpAny_bind (wpAny_holding (wpAny_call (class_get (s := ⟨hh, gs, dr, tk + 1, os⟩) (ox := ox) (od := od) kin at0 c.hm ?_)))
  refine wpAny_pure ?_
  show wpAny _ _ (handedOut (.ref D)) _ _ _
  rw [handedOut_of (v := .ref D) rfl]
  first
    | exact wpAny_pure (wpAny_pure h)
    | exact wpAny_pure h
    | exact wpAny_pure (wpAny_bind (wpAny_pure (wpAny_pure h)))
theorem kit_exc (c : L2.ExcC K D) : KitX K (.ref x) (.ref D) (fun h => InstAt h x ox D od) := by
  obtain ⟨cd, hcd, _⟩ := any_some c.hd
  obtain ⟨o, ho, hdo⟩ : ∃ o, K.lookup D = some o ∧ o.data = .cls cd := by
    unfold clsIn at hcd
    split at hcd
    · rename_i c' d' cd' sl' hk
      cases hcd
      exact ⟨_, hk, rfl⟩
    · cases hcd
  obtain ⟨oc, odd, oda, osl⟩ := o
  dsimp only at hdo
  subst hdo
  refine { ty := fun _ _ _ J => J.type, it := fun _ _ kin _ => ?_, ne := fun h tp dd its n sl kin htp => ?_, ca := fun kin J k => exc_class c kin J k }
  · intro A' Q' E' s' kp q
    unfold isType loadHead
    exact wpAny_bind (wpAny_loadPart (kp _ _ (kin _ _ ho)) (wpAny_pure q))
  · refine Bool.eq_false_iff.mpr fun q => ?_
    have e : D = tp := Value.ref.inj (beq_iff_eq.mp q)
    subst e
    have z := (kin _ _ ho).symm.trans htp
    cases z
end
end WG
namespace WG
open PySem PySem.Spec PyProof.Rows L2
/-- isinstance(e, c), e the caught exception at a with its own dict -/
def rIsD (K : PySem.W.Frag) (a : Addr) (cls : Value) (d : Option Addr) : List V → Hp → VK → Prop := fun xs H Q => ∃ (D dd : Addr) (fs : List (Str × V)) (c : V) (cv : Value) (b : Bool), cls = .ref D ∧ d = some dd ∧ H dd = some (.xd fs) ∧ ExcC K D ∧
  xs = [.ref a, c] ∧ (∀ u, RelV c u → u = cv) ∧ PySem.W.kitOne K (.ref D) cv = some b ∧ Q (.bl b) H
theorem call_isD {X : Cx} {a : Addr} {oe : Obj} {cls : Value} {d : Option Addr} {pn : List (Addr × Obj)} (hz : Zc cls d oe) (hf : ∃ vs, oe.data = .fields vs) : CallR (X.suite a ((a, oe) :: pn)) (.builtin "isinstance") (rIsD X.K a cls d) := by
  intro pins s σ H xs us Q I r h
  obtain ⟨D, dd, fs, cl, cv, b, rfl, rfl, hx, c, rfl, hcv, e, q⟩ := h
  cases r with
  | cons rx rr =>
    cases rr with
    | cons rt rr =>
      cases rr
      cases rx
      have ec := hcv _ rt
      subst ec
      obtain ⟨hget, _⟩ := I.pin (a, oe) (List.mem_append.mpr (.inl List.mem_cons_self))
      obtain ⟨vs, hv⟩ := hf
      obtain ⟨mA, hns, _⟩ := I.hok dd _ hx
      obtain ⟨od, ho, _⟩ := lookIn_ns hns
      have J : PySem.W.InstAt s.heap a oe D (some od) := ⟨hget, hz.1, by unfold PySem.W.notCls; rw [hv] <;> rfl, by rw [hz.2]; exact ho⟩
      exact PySem.W.kia_one (kit_exc c) I.kIn J e (fun z => nomatch z) fun tk => ⟨.bl b, H, I.kept (t' := tk) fun _ _ z => z, rfl, q⟩
end WG

set_option Elab.async false
set_option linter.all false
set_option maxRecDepth 100000
set_option maxHeartbeats 4000000
namespace WG
open PySem PySem.Spec PyProof.Rows L2
/-! ### the law's end where one table of code objects may grow -/
def OnlyT (T : Addr) (H : Hp) : Prop := ∀ b, H b = none ∨ b = T ∨ ∃ o xs, H b = some (.frz o (.lst xs))
theorem glaw_callT {P : Program} {w : World} {K : PySem.W.Frag} {mg mb : Str → Option Value} {CX : CXT} {k : Nat} {fa a c T : Addr} {fd : FuncData} {x : Str} {sp : Sp} {t : Shared} {vs : List Value} {ns : List Int}
    (kin : K.In t.heap) (nsm : t.heap.Ns mainGlobals mg) (nsb : t.heap.Ns builtinsNs mb) (hbb : ∀ x : Str, x ≠ "__name__" → mb x = bootBuiltins x) (nolim : t.heap.NoLimit) (nogen : t.gens = #[])
    (tab : t.heap.get? T = some { cls := .none, data := .fields #[] }) (tabK : K.lookup T = none) (head : PySem.W.CodeHd t.heap c T)
    (blt : ∃ (bm : Addr) (ob : Obj), mg "__builtins__" = some (.ref bm) ∧ bm ≠ builtinsNs ∧ t.heap.get? bm = some ob ∧ ob.cls = .type "module" ∧ ob.dict = some builtinsNs ∧ ob.data = .plain)
    (obj : t.heap.get? a = some { cls := .type "list", data := .seq vs.toArray }) (hints : IntsAre vs ns) (hl : ns.length ≤ sizeLine) (room : Room k callerA)
    (F : ∀ base : Heap, K.In base → base.Ns mainGlobals mg → LamX.TabB base mg c T → GOk P w K mg base CX k fa fd [x] sp) (bnd : ∀ (s : Shared) (u : Value), BindsTo s fd ⟨[u], []⟩ [(x, u)])
    (want : ∀ H : Hp, H T = some (.tbl #[]) → SqL K H a (ns.map V.int) → sp [.ref a] H (fun v _ => v = .bl true) fun _ _ _ => False)
    (noX : ∀ H e s', CX [] H t (fun _ _ _ => False) e s' → False) :
    codeAny (model P w) callerA (.call (.ref fa) ⟨[.ref a], []⟩) (fun r s' => r = .ok (.ret (.bool true)) ∧ OldK t.heap s'.heap ∧ s'.os = t.os ∧ AllBare s'.gens) t := by
  have rv := vals_ints hints
  have hlv := hints.length
  have apart : T ≠ a := fun z => by
    rw [z, obj] at tab
    have q := congrArg Obj.data (Option.some.inj tab)
    have q' : Data.seq vs.toArray _ = Data.fields #[] := q
    cases q'
  have main : ∀ H : Hp, H T = some (.tbl #[]) → OnlyT T H → SqL K H a (ns.map V.int) → HOk P w H t.heap → (∀ b, H b ≠ none → b = a ∨ b = T) → (H a ≠ none → K.lookup a = none) →
      codeAny (model P w) callerA (.call (.ref fa) ⟨[.ref a], []⟩) (fun r s' => r = .ok (.ret (.bool true)) ∧ OldK t.heap s'.heap ∧ s'.os = t.os ∧ AllBare s'.gens) t := by
    intro H hT only hS ok onlyA hK
    have other : ∀ {b : Addr} {o : Obj}, t.heap.get? b = some o → (∀ us n, o.data ≠ .seq us n) → o.data ≠ .fields #[] → H b = none := by
      intro b o e n1 n2
      cases q : H b with
      | none => rfl
      | some u =>
        cases onlyA b (by rw [q]; exact Option.some_ne_none u) with
        | inl z =>
          subst z
          rw [obj] at e
          cases e
          exact absurd rfl (n1 _ _)
        | inr z =>
          subst z
          rw [tab] at e
          cases e
          exact absurd rfl n2
    have noD : ∀ {b : Addr} {o : Obj} {es : Array DictEntry} {ep : Nat}, t.heap.get? b = some o → o.data = .dict es ep → H b = none := by
      intro b o es ep e d
      exact other e (fun us n z => by rw [d] at z; cases z) (fun z => by rw [d] at z; cases z)
    have nsH : ∀ {b : Addr} {m : Str → Option Value}, t.heap.Ns b m → (hidT t.heap H).Ns b m := by
      rintro b m ⟨o, es, ep, e, d, r⟩
      exact ⟨o, es, ep, hidT_get e (noD e d), d, r⟩
    have kinH : K.In (hidT t.heap H) := by
      intro b o e
      refine hidT_get (kin b o e) ?_
      cases q : H b with
      | none => rfl
      | some u =>
        cases onlyA b (by rw [q]; exact Option.some_ne_none u) with
        | inl z =>
          subst z
          rw [hK (by rw [q]; exact Option.some_ne_none u)] at e
          cases e
        | inr z =>
          subst z
          rw [tabK] at e
          cases e
    have md : Mod K mg (hidT t.heap H) := by
      refine ⟨kinH, nsH nsm, ⟨mb, nsH nsb, hbb⟩, ?_⟩
      obtain ⟨mc, h1, h2⟩ := nolim
      exact ⟨mc, nsH h1, h2⟩
    have tabB : LamX.TabB (hidT t.heap H) mg c T := by
      constructor
      · obtain ⟨o, us, file, tf, flags, tg, inF, text, tt, e1, r1, r2, r3, rest⟩ := head
        refine ⟨o, us, file, tf, flags, tg, inF, text, tt, hidT_get e1 (other e1 (fun us n z => ?_) fun z => ?_), r1, r2, r3, rest⟩
        · rw [r2] at z
          cases z
        · rw [r2] at z
          cases z
          simp at r3
      · obtain ⟨bm, ob, b1, b2, b3, b4, b5, b6⟩ := blt
        refine ⟨bm, ob, b1, b2, fun q => ?_, fun q => ?_, hidT_get b3 (other b3 (fun us n z => ?_) fun z => ?_), b4, b5, b6⟩
        · obtain ⟨o, es, ep, e, hd, _⟩ := nsm
          rw [q, e] at b3
          cases b3
          rw [hd] at b6
          cases b6
        · rw [q, tab] at b3
          cases b3
          cases b6
        · rw [b6] at z
          cases z
        · rw [b6] at z
          cases z
      · intro z
        obtain ⟨o, es, ep, e, hd, _⟩ := nsm
        rw [z, tab] at e
        cases e
        cases hd
    have env : Env0 P w K mg (hidT t.heap H) callerA [] t H :=
      ⟨rfl, md, fun b o e => of_hidT e, Nat.le_of_eq (hidT_size _ _), trivial, fun b hb => (List.not_mem_nil (show b ∈ ([] : List Addr) from hb)).elim, ok, .of_eq nogen⟩
    refine codeAny_mono ((F _ kinH (nsH nsm) tabB).run callerA [] t H ⟨[.ref a], []⟩ [.ref a] [.ref a] _ _ rfl room env (bnd t (.ref a)) (.cons rfl .nil) (want H hT hS)) fun r s' h => ?_
    cases r with
    | error e => exact (noX H e s' h).elim
    | ok fl =>
      cases fl with
      | next => exact h.elim
      | brk => exact h.elim
      | cont => exact h.elim
      | ret u =>
        obtain ⟨v, H', os, bare, un, ok', r', q⟩ := h
        have q' : v = .bl true := q
        subst q'
        cases r'
        have rest : ∀ b o, b ≠ T → t.heap.get? b = some o → s'.heap.get? b = some o := by
          intro b o nb e
          cases q : H b with
          | none => exact un.keep b o e q (fun z => (List.not_mem_nil (show b ∈ ([] : List Addr) from z)).elim) List.not_mem_nil
          | some u =>
            rcases only b with z | z | ⟨ob, xs, z⟩
            · rw [q] at z
              cases z
            · exact absurd z nb
            · obtain ⟨e1, _⟩ := ok b _ z
              obtain ⟨e2, _⟩ := ok' b _ (un.frzs b ob _ z)
              rw [e] at e1
              cases e1
              exact e2
        obtain ⟨more, zT⟩ := un.tbls T #[] hT
        have grown : s'.heap.get? T = some { cls := .none, data := .fields (#[] ++ more) } := ok' T _ zT
        refine ⟨rfl, ⟨fun b o e => ?_, fun b o e => ?_⟩, os, bare⟩
        · by_cases hb : b = T
          · subst hb
            rw [tab] at e
            cases e
            exact .inr (.inl ⟨(head.tab tab).isCodeTable, rfl, #[], more, rfl, grown⟩)
          · exact .inl (rest b o hb e)
        · by_cases hb : b = T
          · subst hb
            exact ⟨_, grown⟩
          · exact ⟨o, rest b o hb e⟩
  cases hk : K.lookup a with
  | some o =>
    have e := kin a o hk
    rw [obj] at e
    cases e
    refine main (fun b => if b = T then some (.tbl #[]) else none) (if_pos rfl) (fun b => ?_) (.inr ⟨_, vs.toArray, _, hk, rfl, rfl, rfl, ?_, by simpa using rv⟩) (fun b u z => ?_) (fun b z => ?_) fun z => absurd (if_neg (fun q => apart q.symm)) z
    · by_cases hb : b = T
      · exact .inr (.inl hb)
      · exact .inl (if_neg hb)
    · rw [List.size_toArray, hlv]
      exact hl
    · by_cases hb : b = T
      · have z' := (if_pos hb).symm.trans z
        cases z'
        rw [hb]
        exact tab
      · have z' := (if_neg hb).symm.trans z
        cases z'
    · by_cases hb : b = T
      · exact .inr hb
      · exact absurd (if_neg hb) z
  | none =>
    refine main (fun b => if b = a then some (.frz { cls := .type "list", data := .seq vs.toArray } (.lst (ns.map V.int))) else if b = T then some (.tbl #[]) else none) ((if_neg apart).trans (if_pos rfl)) (fun b => ?_) (.inl (.inr ⟨_, if_pos rfl⟩)) (fun b u z => ?_) (fun b z => ?_) fun _ => hk
    · by_cases hb : b = a
      · exact .inr (.inr ⟨_, _, if_pos hb⟩)
      · by_cases hT : b = T
        · exact .inr (.inl hT)
        · exact .inl ((if_neg hb).trans (if_neg hT))
    · by_cases hb : b = a
      · have z' := (if_pos hb).symm.trans z
        cases z'
        subst hb
        exact ⟨obj, by rw [List.length_map]; exact hl, vs, _, rv, obj⟩
      · have z1 := (if_neg hb).symm.trans z
        by_cases hT : b = T
        · have z' := (if_pos hT).symm.trans z1
          cases z'
          rw [hT]
          exact tab
        · have z' := (if_neg hT).symm.trans z1
          cases z'
    · by_cases hb : b = a
      · exact .inl hb
      · by_cases hT : b = T
        · exact .inr hT
        · exact absurd ((if_neg hb).trans (if_neg hT)) z
theorem gwalk_ofT {l : PySem.W.OpenLaw} {n k : Nat} {q : Program} {loose : List Str} {XP : (Str → Option Value) → Heap → Prop} {YP : World → Heap → Prop} {d : DefRec} {K : Params → PySem.W.Frag} {CX : World → CXT} {sp : World → Addr → Sp} {x : Str} {T : Addr}
    (hn : l.most = some n) (hn2 : n ≤ sizeLine) (hdf : d.params.defaults = []) (hr : Room k callerA) (hY : ∀ (w : World) (h : Heap), YP w h → (K w.params).In h) (hT : ∀ (w : World) (h : Heap), YP w h → h.get? T = some { cls := .none, data := .fields #[] })
    (F : ∀ (w : World) (mg : Str → Option Value) (fa : Addr) (h : Heap), (K w.params).In h → h.Ns mainGlobals mg → mg d.name = some (.ref fa) →
      ∃ (fd : FuncData) (c cd : Addr), (K w.params).lookup T = none ∧ PySem.W.codeHdIn (K w.params) c T = true ∧ (∀ (s : Shared) (u : Value), BindsTo s fd ⟨[u], []⟩ [(x, u)]) ∧ ∀ base : Heap, (K w.params).In base → base.Ns mainGlobals mg → LamX.TabB base mg c T → GOk l.prog w (K w.params) mg base (CX w) k fa fd [x] (sp w T))
    (hsp : ∀ (w : World) (H : Hp) (a : Addr) (ns : List Int), ns.length ≤ n → H T = some (.tbl #[]) → SqL (K w.params) H a (ns.map V.int) → sp w T [.ref a] H (fun v _ => v = .bl true) fun _ _ _ => False)
    (hCX : ∀ (w : World) (H : Hp) (s : Shared) (e : Value) (s' : Shared), CX w [] H s (fun _ _ _ => False) e s' → False) : PySem.W.WalkO q loose XP YP l.row.toRowW d [] (fun f vs => PySem.call f vs) := by
  refine Att.attach_call hn hdf fun w s0 s1 mg mb fa o pm cd doc a vs ns G Y ho hd hcd hmg hobj hints hlen hg => ?_
  obtain ⟨fd, c, _, tK, ch, hb, hF⟩ := F w mg fa _ (hY w _ Y) G.T.g hmg
  exact glaw_callT (hY w _ Y) G.T.g G.T.b G.T.builtins G.T.nolimit hg (hT w _ Y) tK (PySem.W.codeHd_of_K (hY w _ Y) ch) G.T.bmain hobj hints (Nat.le_trans hlen hn2) hr hF hb (fun H hO hS => hsp w H a ns hlen hO hS) fun H e s' => hCX w H s1 e s'
end WG

set_option Elab.async false
set_option linter.all false
set_option maxRecDepth 100000
set_option maxHeartbeats 4000000
namespace WB
open PySem PySem.Spec PyProof.Rows L2 WG
open NdefX (NF FnO fnO_at codeO_at CellsAt NOk fnAt_of)
open LamX (CodeO)
open TL (tl)
/-! ### a def that outlives the def that made it -/
/-- the cell at c holds the object at a -/
def CellO (c a : Addr) : HO := .ext fun h => h.IsCell c (some (.ref a))
theorem cellO_ok {P : Program} {w : World} {H : Hp} {h : Heap} {c a : Addr} (e : h.IsCell c (some (.ref a))) : ObjOk P w H h c (CellO c a) := by
  obtain ⟨o, ho, hd⟩ := e
  exact ⟨⟨o, ho, hd⟩, ⟨o, ho⟩, fun h1 h2 ⟨o1, e1, d1⟩ st => ⟨o1, st o1 e1, d1⟩⟩
theorem cellO_at {P : Program} {w : World} {H : Hp} {h : Heap} {c a : Addr} (x : HOk P w H h) (e : H c = some (CellO c a)) : h.IsCell c (some (.ref a)) := (x c _ e).1
theorem hok_del {P : Program} {w : World} {H : Hp} {h : Heap} {c : Addr} {φ : Heap → Prop} (x : HOk P w H h) (e : H c = some (.ext φ)) : HOk P w (del H c) h := by
  intro b o z
  have nb : b ≠ c := fun q => by
    rw [q, del_same] at z
    cases z
  rw [del_ne nb] at z
  refine (x b o z).stay (fun _ _ _ q => q) (fun d q => ?_) (fun d xs q => ?_)
  · rw [del_ne (fun r => by rw [r, e] at q; cases q)]
    exact q
  · rw [del_ne (fun r => by rw [r, e] at q; cases q)]
    exact q
section
variable {P : Program} {w : World} {K : PySem.W.Frag} {mg : Str → Option Value} {base : Heap} {k : Nat} {f c a : Addr} {F : NF} {ps : List Str} {y : Str} {sp : List (Option V) → Sp}
theorem cl_run (Fn : NOk P w K mg base (L2.CX P w) k f F ps [y] sp) {A : Around} {outer : List Env} {s : Shared} {H : Hp} {us : List Value} {vs : List V} {Q : VK} {E : XK} (room : Room k A) (env : Env0 P w K mg base A outer s H) (hf : H f = some (FnO f F)) (hq : H F.c = some (CodeO F.c F.qual))
    (cl1 : F.cl.lookup y = some c) (cl2 : ∀ x d, F.cl.lookup x = some d → x = y) (hc : H c = some (CellO c a)) (rel : Vals vs us)
    (ask : sp [some (.ref a)] vs (del H c) (fun r H1 => H1 c = none → Q r (upd H1 c (CellO c a))) (fun cls d H1 => H1 c = none → E cls d (upd H1 c (CellO c a)))) :
    codeAny (model P w) A (.call (.ref f) ⟨us, []⟩) (CR (L2.CX P w) outer P w H s Q E) s := by
  obtain ⟨oc, hoc, hd⟩ := cellO_at env.hok hc
  have nfr : c ∉ frs outer := fun z => by
    have q := env.frf c z
    rw [hc] at q
    cases q
  have n1 : f ≠ c := fun z => by
    obtain ⟨_, _, _, _, _, ho⟩ := fnO_at env.hok hf
    rw [z, hoc] at ho
    cases ho
    cases hd
  have n2 : F.c ≠ c := fun z => by
    obtain ⟨c2, o2, us2, t2, e0, h1, h2, _⟩ := codeO_at env.hok hq
    cases e0
    rw [z, hoc] at h1
    cases h1
    rw [h2] at hd
    cases hd
  have dn : ∀ {b : Addr}, H b = none → del H c b = none := fun {b} z => by
    by_cases e : b = c
    · rw [e, del_same]
    · rw [del_ne e]
      exact z
  have env2 : Env0 P w K mg base A outer s (del H c) := ⟨env.frames, env.mod, fun b o e => ⟨(env.bs b o e).1, dn (env.bs b o e).2⟩, env.bsz, env.funs, fun b hb => dn (env.frf b hb), hok_del env.hok hc, env.bare⟩
  have cells : CellsAt F.cl [y] [some (.ref a)] s.heap (del H c) := by
    have same : ∀ x d, F.cl.lookup x = some d → d = c := fun x d e => by
      rw [cl2 x d e, cl1] at e
      exact (Option.some.inj e).symm
    refine ⟨rfl, fun x d e => ?_, fun x x2 d e1 e2 => (cl2 x d e1).trans (cl2 x2 d e2).symm, fun i x e => ?_⟩
    · rw [same x d e]
      exact ⟨del_same, _, oc, hoc, hd⟩
    · cases i with
      | succ i => cases e
      | zero =>
        cases e
        refine ⟨c, cl1, fun v ev => ?_⟩
        cases ev
        exact ⟨.ref a, rfl, oc, hoc, hd⟩
  have nb : ∀ {b : Addr} {o : HO}, H b = some o → (∀ φ, o ≠ .ext φ) → b ≠ c := fun {b o} e n z => by
    rw [z, hc] at e
    exact n _ (Option.some.inj e).symm
  refine codeAny_mono (Fn.run A outer s (del H c) us vs _ _ _ room env2 (by rw [del_ne n1]; exact hf) (by rw [del_ne n2]; exact hq) cells rel ask) fun r s' got => ?_
  cases r with
  | error e =>
    obtain ⟨x, B, H1, cls, d, rfl, fl, ok, ub, na, os, ag, hE⟩ := got
    have kB := ub.keep c oc hoc del_same nfr
    have nx : x ≠ c := fun z => by
      have q := fl.2.1
      rw [z, kB] at q
      cases q
    refine ⟨x, B, upd H1 c (CellO c a), cls, d, rfl, fl, HOk.laidN ok (fun _ _ q => q) (ub.free c oc hoc del_same) (cellO_ok ⟨oc, kB, hd⟩), ⟨fun b o e n h => ub.keep b o e (dn n) h, ub.slot, fun b o e n => ?_, ub.there, fun b xs e => ?_, fun b o xs e => ?_, fun b q e => ?_⟩, by rw [upd_ne nx]; exact na, os, ag, hE (ub.free c oc hoc del_same)⟩
    · rw [upd_ne (fun z => by rw [z, hc] at n; cases n)]
      exact ub.free b o e (dn n)
    · have z := nb e (fun _ z => by cases z)
      rw [upd_ne z]
      exact ub.tups b xs (by rw [del_ne z]; exact e)
    · have z := nb e (fun _ z => by cases z)
      rw [upd_ne z]
      exact ub.frzs b o xs (by rw [del_ne z]; exact e)
    · have z := nb e (fun _ z => by cases z)
      rw [upd_ne z]
      exact ub.tbls b q (by rw [del_ne z]; exact e)
  | ok fl =>
    cases fl with
    | next => exact got.elim
    | brk => exact got.elim
    | cont => exact got.elim
    | ret u =>
      obtain ⟨v, H1, os, bare, un, ok, rv, q⟩ := got
      have kc := un.keep c oc hoc del_same nfr List.not_mem_nil
      refine ⟨v, upd H1 c (CellO c a), os, bare, ⟨fun b o e n => un.keep b o e (dn n), fun b o e n => un.slot b o e (dn n), fun b o e n h => ?_, un.there, fun b xs e => ?_, fun b o xs e => ?_, fun b q e => ?_⟩, HOk.laidN ok (fun _ _ q => q) (un.free c oc hoc del_same List.not_mem_nil) (cellO_ok ⟨oc, kc, hd⟩), rv, q (un.free c oc hoc del_same List.not_mem_nil)⟩
      · rw [upd_ne (fun z => by rw [z, hc] at n; cases n)]
        exact un.free b o e (dn n) h
      · have z := nb e (fun _ z => by cases z)
        rw [upd_ne z]
        exact un.tups b xs (by rw [del_ne z]; exact e)
      · have z := nb e (fun _ z => by cases z)
        rw [upd_ne z]
        exact un.frzs b o xs (by rw [del_ne z]; exact e)
      · have z := nb e (fun _ z => by cases z)
        rw [upd_ne z]
        exact un.tbls b q (by rw [del_ne z]; exact e)
end
/-- m(..), the local name at i holds a def of the sort FS that has outlived its maker and keeps one name y -/
def tCallC (y : Str) (FS : NF → Prop) (i : Nat) (sp : List (Option V) → Sp) (E : L2.St → XK) (t : TA) : TE := fun σ H Q => ∃ (f : Addr) (F : NF) (c a : Addr), σ[i]? = some (some (.ref f)) ∧ FS F ∧ F.cl.lookup y = some c ∧ (∀ x d, F.cl.lookup x = some d → x = y) ∧ H f = some (FnO f F) ∧
  t σ H fun vs H1 => H1 f = some (FnO f F) ∧ H1 F.c = some (CodeO F.c F.qual) ∧ H1 c = some (CellO c a) ∧ sp [some (.ref a)] vs (del H1 c) (fun r H2 => H2 c = none → Q r (upd H2 c (CellO c a))) (fun cls d H2 => H2 c = none → E σ cls d (upd H2 c (CellO c a)))
theorem pe_callC {X : Cx} {k i : Nat} {FS : NF → Prop} {ps : List Str} {sp : List (Option V) → Sp} {E : L2.St → XK} {nm y : Str} {p pos : Pos} {e : Expr} {es : List Expr} {t : TA}
    (Fn : ∀ f F, FS F → NOk X.prog X.w X.K X.mg X.base (L2.CX X.prog X.w) k f F ps [y] sp) (room : Room k X.A) (at_ : X.N[i]? = some nm) (vis : Vis X.env.scope nm) (out : ∀ σ, PassesAt (L2.CX X.prog X.w) X σ (E σ)) (args : PA X (e :: es) t)
    (n1 : (nm == ("__debug__" : Str)) = false := by decide) (n2 : (nm == ("__classdict__" : Str)) = false := by decide)
    (s1 : starEach (e :: es) X.env = (false, eval e X.env) :: starEach es X.env := by rfl) (s2 : (backTo pos (starEach es X.env)).any (·.1) = false := by rfl) : PE X (.Call (.Name nm p) (e :: es) [] pos) (tCallC y FS i sp E t) := by
  constructor
  intro pins st σ H want inv ask
  obtain ⟨f, F, c, a, hσ, hF, cl1, cl2, hf, ask⟩ := ask
  refine wpAny_Call_Name_kw (thn ((pe_var (pos := p) at_ vis n1 n2).run pins st σ H (fun v H1 => v = .ref f ∧ H1 = H) inv ⟨.ref f, hσ, rfl, rfl⟩) fun u st1 got => ?_)
  obtain ⟨v, H1, inv1, rel, rfl, rfl⟩ := got
  cases rel
  refine PySem.W.callWith_F (first := []) (fnAt_of inv1 hf) (thn (args.run pos pins st1 σ _ _ inv1 ask) fun us st2 ⟨vs, H2, inv2, rels, q1, q2, q3, q⟩ => ⟨fnAt_of inv2 q1, ?_⟩) s1 s2
  refine wpAny_call (codeAny_mono (cl_run (Fn f F hF) room inv2.env0 q1 q2 cl1 cl2 q3 rels q) fun r s' got => ?_)
  cases r with
  | error e => exact out σ pins _ _ e s' inv2 got
  | ok fl =>
    cases fl with
    | ret u => exact inv2.after got
    | next => exact got.elim
    | brk => exact got.elim
    | cont => exact got.elim
/-! ### a def that ends by giving out such a one -/
theorem fn_ofC {CX : CXT} {P : Program} {w : World} {K : PySem.W.Frag} {mg : Str → Option Value} {base : Heap} {k : Nat} {f : Addr} {name qual : Str} {params : Arguments} {body : List Stmt} {scope : Scope} {dV kV doc pm cdv ct oc : Value} {an od : Option Addr} {osl : Array (Option Value)}
    {N ps : List Str} {sp : Sp} {st1 st2 : Stmt} {y z : Str} {p pos : Pos} {i j : Nat} (lk : K.lookup f = some ⟨oc, od, .func (PySem.W.fnOf name qual params body scope dV kV doc pm an cdv ct), osl⟩) (hcd : PySem.W.codeIn K cdv qual = true) (S : FnScope N ps scope)
    (len : ∀ vs H Q E, sp vs H Q E → vs.length = ps.length) (hb : body = [st1, st2, .Return (some (.Name z p)) pos]) (hi : N[i]? = some z) (hz : Vis scope z) (hj : N[j]? = some y) (hy : scope.names.lookup y = some .cell)
    (n1 : (z == ("__debug__" : Str)) = false) (n2 : (z == ("__classdict__" : Str)) = false)
    (hbody : ∀ (A : Around) (outer : List Env) (s : Shared) (H : Hp) (vs : List V) (Q : VK) (E : XK), Room k (A.deeper (envOfC qual scope s.heap.objs.size f cdv)) → sp vs H Q E →
      ∃ t1 t2, PS (cxOf CX P w K mg base N qual scope f cdv A outer s H E) st1 t1 ∧ PS (cxOf CX P w K mg base N qual scope f cdv A outer s H E) st2 t2 ∧
        t1 { nx := t2 { nx := fun σ' H' => ∃ g a, σ'[i]? = some (some (.ref g)) ∧ σ'[j]? = some (some (.ref a)) ∧ ∀ c, (envOfC qual scope s.heap.objs.size f cdv).cells.lookup y = some c → H' c = none → Q (.ref g) (upd H' c (CellO c a)), rt := fun _ _ => False }, rt := fun _ _ => False } (L2.start N vs) H) :
    FnOk P w K mg base CX (k + 1) f (PySem.W.fnOf name qual params body scope dV kV doc pm an cdv ct) ps sp := by
  refine ⟨len, fun A outer s H args us vs Q E room env bnd rel want => ?_⟩
  have hlen := len _ _ _ _ want
  have kin : K.In s.heap := env.mod.kin.keeps fun b o q => (env.bs b o q).1
  have nolim : s.heap.NoLimit := env.mod.nolimit.keeps fun b o q => (env.bs b o q).1
  have kinds : ∀ y ∈ ps.zip us, scope.names.lookup y.1 = some .local ∨ (scope.names.lookup y.1 = some .cell ∧ ((cellsFrom (s.heap.objs.size + 1) scope.names []).lookup y.1).isSome = true) := by
    intro y hy
    obtain ⟨n, v⟩ := y
    cases S.par n (List.of_mem_zip hy).1 with
    | inl z => exact .inl z
    | inr z => exact .inr ⟨z, PySem.W.cellsFrom_some _ _ _ (.inl z)⟩
  refine codeAny_call_function room.depth (kin _ _ lk) rfl S.co S.gen rfl (PySem.W.codeRec_of kin hcd) (bnd _ _ _ _ ?_)
  refine wpAny_newFunctionEnv_cells S.kind kinds fun e2 he2 sA hx => ?_
  subst he2
  refine ⟨nolim.keeps hx.toInCall.keep, codeAny_func ?_⟩
  obtain ⟨t1, t2, h1, h2, tq⟩ := hbody A outer s H vs Q E (room.deeper _) want
  have I : Inv (cxOf CX P w K mg base N qual scope f cdv A outer s H E) [] (L2.start N vs) H sA := inv_start S room.hd env hlen rel hx
  subst hb
  refine wpAny_mono (Q := fun fl s' => ∃ g, fl = Flow.ret (.ref g) ∧ CE outer P w H s Q (.ref g) s') ?_ (fun fl s' ⟨g, e, q⟩ => ?_) fun e s' hs => hs
  · refine wpAny_execs_cons (thn (h1.run [] sA _ H _ I tq) fun fl sB got => ?_)
    cases fl with
    | ret v => obtain ⟨_, _, _, _, _, q⟩ := got; exact q.elim
    | brk => obtain ⟨_, _, _, q⟩ := got; exact q.elim
    | cont => obtain ⟨_, _, _, q⟩ := got; exact q.elim
    | next =>
      obtain ⟨σB, HB, IB, tq⟩ := got
      refine wpAny_execs_cons (thn (h2.run [] sB _ HB _ IB tq) fun fl sC got => ?_)
      cases fl with
      | ret v => obtain ⟨_, _, _, _, _, q⟩ := got; exact q.elim
      | brk => obtain ⟨_, _, _, q⟩ := got; exact q.elim
      | cont => obtain ⟨_, _, _, q⟩ := got; exact q.elim
      | next =>
        obtain ⟨σC, HC, IC, g, a, hg, ha, q⟩ := got
        refine wpAny_execs_cons (wpAny_Return_some (thn ((pe_var (pos := p) hi hz n1 n2).run [] sC σC HC (fun v H1 => v = .ref g ∧ H1 = HC) IC ⟨.ref g, hg, rfl, rfl⟩) fun u sD got => ?_))
        obtain ⟨v, HD, J, rel2, rfl, rfl⟩ := got
        cases rel2
        refine ⟨g, rfl, ?_⟩
        obtain ⟨m, _, loc⟩ := J.loc
        obtain ⟨u, ru, look⟩ := loc j y (.ref a) hj ha (.inr (.inl hy))
        cases ru
        rcases look with ⟨z, _⟩ | ⟨_, c, hc, hcell⟩
        · have z' : scope.names.lookup y = some .local := z
          rw [hy] at z'
          cases z'
        · have fc := J.freeC y c hc
          have low : s.heap.objs.size ≤ c := J.ok.cab y c rfl hc
          refine ⟨.ref g, upd HD c (CellO c a), J.os, J.bare, ⟨J.base.keep, J.base.slot, fun b o e n h => ?_, J.base.there, fun b xs e => ?_, fun b o xs e => ?_, fun b q e => ?_⟩, HOk.laidN J.hok (fun _ _ q => q) fc (cellO_ok hcell), rfl, q c hc fc⟩
          · rw [upd_ne (fun z => by rw [z] at e; exact absurd (Heap.lt_size e) (Nat.not_lt.mpr low))]
            exact J.base.free b o e n h
          · have z := J.base.tups b xs e
            rw [upd_ne (ne_of_none z fc)]
            exact z
          · have z := J.base.frzs b o xs e
            rw [upd_ne (ne_of_none z fc)]
            exact z
          · obtain ⟨more, z⟩ := J.base.tbls b q e
            exact ⟨more, by rw [upd_ne (ne_of_none z fc)]; exact z⟩
  · subst e
    exact q
end WB

set_option Elab.async false
set_option linter.all false
set_option maxRecDepth 100000
set_option maxHeartbeats 4000000
namespace WB
open PySem PySem.Spec PyProof.Rows L2
open TL (tl)
abbrev st_names : Stmt := topS 13
theorem sc_names : FnScope ["_law_pot_here", "_law_most", "_law_letters", "_law_found", "_law_k", "_law_name"] ["_law_pot_here", "_law_most"] (defScope st_names) := ⟨rfl, rfl, rfl, by decide +kernel, rfl, by decide +kernel, by decide +kernel⟩
section
variable {P : Program} {w : World} {K : PySem.W.Frag} {mg : Str → Option Value} {base : Heap}
theorem names_sets : ∀ y ∈ [Str.ofString "ab", Str.ofString "no-a", Str.ofString "abcdefghijklmnopqrstuvwxyz0123456789-", signs2], 0 < y.length ∧ y.length ≤ 200 ∧ ∀ c ∈ tl y, c < 256 := by decide +kernel
theorem cut_len (x : Str) : (cutS x none (some 13)).length = min 13 x.length := by
  have h := tl_cut_to x 13
  have h2 := congrArg List.length h
  rw [← TL.len_tl, List.length_take, ← TL.len_tl] at h2
  exact h2
theorem cut_pos {x : Str} (h : 0 < x.length) : 0 < (cutS x none (some 13)).length := by
  rw [cut_len]
  omega
theorem cut_le13 (x : Str) : (cutS x none (some 13)).length ≤ 13 := by
  rw [cut_len]
  omega
def spNames : Sp := fun vs H Q _ => ∃ (p : Addr) (m : Int), vs = [.ref p, .int m] ∧ Pot H p ∧ 0 ≤ m ∧ m ≤ 24 ∧ ∀ H' l (ys : List Str), But p H H' → Pot H' p → H l = none → l ≠ p → H' l = some (.lst (ys.map V.str)) → (ys.length : Int) ≤ m → (∀ y ∈ ys, 0 < y.length ∧ Tq B8 13 y) → ys.Nodup → Q (.ref l) H'
theorem ok_names {f fD fS fT : Addr} {fd fdD fdS fdT : FuncData} {k : Nat} (F : Fun K "_law_names" "_law_names" st_names f fd) (D_draw : Df K mg "_law_draw" sDraw ["_law_pot_here", "_law_many"] fD fdD) (D_signs : Df K mg "_law_signs" sSigns [] fS fdS)
    (D_text : Df K mg "_law_text" sText ["_law_pot_here", "_law_most", "_law_signs_here"] fT fdT) (m_divmod : mg "divmod" = none) (m_len : mg "len" = none) (m_range : mg "range" = none) :
    FnOk P w K mg base CX0 (k + 3) f fd ["_law_pot_here", "_law_most"] spNames := by
  have G_draw : FnOk P w K mg base CX0 (k + 2) fD fdD ["_law_pot_here", "_law_many"] spDraw := ok_draw D_draw.F m_divmod
  have G_signs : FnOk P w K mg base CX0 (k + 2) fS fdS [] spSigns := ok_signs D_signs.F
  have G_text : FnOk P w K mg base CX0 (k + 2) fT fdT ["_law_pot_here", "_law_most", "_law_signs_here"] spText := ok_text D_text.F D_draw m_divmod m_len m_range
  refine F.ok sc_names (fun vs H Q E h => ?_) (fun cdv A outer s H vs Q E hr h => ?_)
  · obtain ⟨p, m, rfl, _⟩ := h
    rfl
  · obtain ⟨p, m, rfl, hp, m0, m1, q⟩ := h
    refine ⟨_, pss_cons (ps_set (i := 2) sc_names.nd rfl (.inl rfl) (pe_ix ix_list (pe_lst (pa_cons pe_str (pa_cons pe_str (pa_cons pe_str (pa_cons (pe_call0 G_signs hr (by rfl) D_signs.g D_signs.F.kp D_signs.b .nil pass0) pa_nil))))) (pe_call G_draw hr (by rfl) D_draw.g D_draw.F.kp D_draw.b .nil pass0 (pa_cons (pv 0) (pa_cons pe_int pa_nil))) (fun _ _ => rfl)))
      (pss_cons (ps_set (i := 3) sc_names.nd rfl (.inl rfl) (pe_lst pa_nil))
      (pss_cons (ps_for PassesOwn.never rfl (pi_range1 rfl m_range (pa_cons (pe_call G_draw hr (by rfl) D_draw.g D_draw.F.kp D_draw.b .nil pass0 (pa_cons (pv 0) (pa_cons (pe_op op_add (pv 1) pe_int) pa_nil))) pa_nil)) (pg_name (i := 4) sc_names.nd rfl (Or.inl rfl)) (pss_cons (ps_set (i := 5) sc_names.nd rfl (.inl rfl) (pe_op op_add_str (pe_ix ix_str (pv 2) (pe_call G_draw hr (by rfl) D_draw.g D_draw.F.kp D_draw.b .nil pass0 (pa_cons (pv 0) (pa_cons (pe_callB call_len_str (by rfl) m_len PySem.boot_len (pa_cons (pv 2) pa_nil)) pa_nil))) (fun _ _ => rfl)) (pe_call G_text hr (by rfl) D_text.g D_text.F.kp D_text.b .nil pass0 (pa_cons (pv 0) (pa_cons (pe_ix ix_list (pe_lst (pa_cons pe_int (pa_cons pe_int pa_nil))) (pe_call G_draw hr (by rfl) D_draw.g D_draw.F.kp D_draw.b .nil pass0 (pa_cons (pv 0) (pa_cons pe_int pa_nil))) (fun _ _ => rfl)) (pa_cons (pv 2) pa_nil))))))
      (pss_cons (ps_if (PW.pt (pw_and (pt_cmpR (op_neD hr.units) (pv 3) (pe_lst pa_nil) (nomark _)) (pw_and1 (pt_cmpR op_eq (pe_call G_draw hr (by rfl) D_draw.g D_draw.F.kp D_draw.b .nil pass0 (pa_cons (pv 0) (pa_cons pe_int pa_nil))) pe_int (nomark _))))) (pss_one (ps_set (i := 5) sc_names.nd rfl (.inl rfl) (pe_slice sl_str (pe_op op_add_str (pe_ix ix_list (pv 3) (pe_call G_draw hr (by rfl) D_draw.g D_draw.F.kp D_draw.b .nil pass0 (pa_cons (pv 0) (pa_cons (pe_callB call_len_seq (by rfl) m_len PySem.boot_len (pa_cons (pv 3) pa_nil)) pa_nil))) (fun _ _ => rfl)) (pe_call G_text hr (by rfl) D_text.g D_text.F.kp D_text.b .nil pass0 (pa_cons (pv 0) (pa_cons pe_int (pa_cons (pv 2) pa_nil))))) po_none (po_some pe_int)))) pss_nil)
      (pss_one (ps_if (pt_cmpR op_notIn_seq (pv 5) (pv 3) (by rfl)) (pss_one (ps_expr (pe_bm PySem.F.plainAttrs_list PySem.F.slot_list_append PySem.F.type_list_append mt_append (pv 3) (pa_cons (pv 5) pa_nil)))) pss_nil)))))
      (pss_one (ps_ret (pv 3))))), ?_⟩
    let L4 : List Str := [Str.ofString "ab", Str.ofString "no-a", Str.ofString "abcdefghijklmnopqrstuvwxyz0123456789-", signs2]
    refine ⟨rfl, by show 4 ≤ sizeLine; decide, fun l1 n1 => ?_⟩
    have p1 := hp.new (o := .lst (L4.map V.str)) n1
    have nl1 := hp.ne n1
    refine ⟨.ref p, rfl, p, 4, rfl, p1, by decide, by decide, fun H2 d2 b2 p2 d20 d21 => ?_⟩
    obtain ⟨sg, sgm, sge⟩ := at_strs L4 d2 d20 (by show d2 < 4; exact d21)
    obtain ⟨hz0, hz1, hz2⟩ := names_sets sg sgm
    have bb2 : But p H H2 := (But.new n1).trans b2
    refine ⟨l1, _, d2, .str sg, rfl, rfl, SqL.of (b2 _ _ nl1.symm upd_same), sge, ?_⟩
    refine ⟨Nat.zero_le _, fun l nl => ?_⟩
    have nlp : l ≠ p := (p2.ne nl).symm
    have fr : H l = none := by
      cases e : H l with
      | none => rfl
      | some o =>
        rw [bb2 l o nlp e] at nl
        cases nl
    first | refine go nl fun H3 s3 e3 => ?_ | refine goT nl fun H3 s3 e3 => ?_
    have p3 : Pot H3 p := p2.same s3
    refine ⟨.ref p, rfl, .int m, rfl, m, 1, rfl, rfl, p, m + 1, rfl, p3, by omega, by omega, fun H4 d b4 p4 d0 d1 => ?_⟩
    have hzl : sg.length ≤ sizeLine := Nat.le_trans hz1 (by decide)
    refine ⟨d, rfl, by omega, by omega, for_range (lo := 0) (n := d.toNat) (fun i σ H' => But p H H' ∧ Pot H' p ∧ ∃ (ys : List Str) (x4 x5 : Option V), σ = [some (.ref p), some (.int m), some (.str sg), some (.ref l), x4, x5] ∧ H' l = some (.lst (ys.map V.str)) ∧ ys.length ≤ i ∧ (∀ y ∈ ys, 0 < y.length ∧ Tq B8 13 y) ∧ ys.Nodup)
      ⟨(bb2.trans (But.of_same s3)).trans b4, p4, [], none, none, rfl, b4 _ _ nlp e3, Nat.le_refl 0, (fun y hy => by cases hy), List.nodup_nil⟩ ?_ ?_⟩
    · rintro i σ H5 hi ⟨b5, p5, ys, x4, x5, rfl, el, hlen, hys, hnd⟩
      -- a name
      refine ⟨_, rfl, .ref p, rfl, _, rfl, sg, rfl, hzl, p, sg.length, rfl, p5, by omega, by omega, fun H6 j b6 p6 j0 j1 => ?_⟩
      obtain ⟨n, rfl⟩ := Int.eq_ofNat_of_zero_le j0
      have hn : n < sg.cps.toList.length := by
        have e : sg.cps.toList.length = sg.length := by simp [Str.length]
        omega
      refine ⟨sg, n, sg.cps.toList[n], rfl, rfl, hzl, atI_nat (List.getElem?_eq_getElem hn), ?_⟩
      refine ⟨.ref p, rfl, by decide +kernel, fun l2 n2 => ?_⟩
      have p7 := p6.new (o := .lst ([(2 : Int), 12].map V.int)) n2
      have nl2 := p6.ne n2
      refine ⟨.ref p, rfl, p, 2, rfl, p7, by decide, by decide, fun H8 d8 b8 p8 d80 d81 => ?_⟩
      obtain ⟨mo, mom, moe⟩ := at_ints [(2 : Int), 12] d8 d80 (by show d8 < 2; exact d81)
      have hmo : 0 ≤ mo ∧ mo ≤ 12 := (by decide : ∀ y ∈ [(2 : Int), 12], 0 ≤ y ∧ y ≤ 12) mo mom
      refine ⟨l2, _, d8, .int mo, rfl, rfl, SqL.of (b8 _ _ nl2.symm upd_same), moe, _, rfl, p, mo, sg, rfl, p8, hmo.1, by omega, hz0, hz1, fun H9 y b9 p9 ty => ?_⟩
      have t1 : Tq B8 13 (⟨#[sg.cps.toList[n]]⟩ ++ y : Str) := by
        have h1 : Tq B8 1 (⟨#[sg.cps.toList[n]]⟩ : Str) := Tq.sign (hz2 _ (List.getElem_mem hn))
        have h2 : Tq B8 mo.toNat y := ty.mono (Nat.le_refl _) hz2
        exact (h1.app h2).mono (by omega) (fun _ h => h)
      have t0 : 0 < (⟨#[sg.cps.toList[n]]⟩ ++ y : Str).length := by
        rw [Str.length_append]
        have : (⟨#[sg.cps.toList[n]]⟩ : Str).length = 1 := rfl
        omega
      have bb9 : But p H5 H9 := ((b6.trans (But.new n2)).trans b8).trans b9
      refine ⟨_, y, rfl, rfl, ?_, ?_⟩
      · have := ty.le
        have : (⟨#[sg.cps.toList[n]]⟩ : Str).length = 1 := rfl
        exact Nat.le_of_lt (small1000 (by omega))
      dsimp only [tSeq, tAsg, tC, gName]
      generalize (⟨#[sg.cps.toList[n]]⟩ ++ y : Str) = nm1 at t1 t0
      have el9 : H9 l = some (.lst (ys.map V.str)) := bb9 _ _ nlp el
      refine ts_gen (t := tIfS _ _ _) (fun σ' H' => But p H5 H' ∧ Pot H' p ∧ ∃ nm : Str, 0 < nm.length ∧ Tq B8 13 nm ∧ σ' = [some (.ref p), some (.int m), some (.str sg), some (.ref l), some (.int (0 + (i : Int))), some (.str nm)]) (fun κ c => ?_) ?_
      · refine ⟨.ref l, rfl, Nat.zero_le _, fun a1 m1' => ?_⟩
        first | refine goT m1' fun H10 s10 e10 => ?_ | refine go m1' fun H10 s10 e10 => ?_
        have p10 : Pot H10 p := p9.same s10
        have bb10 : But p H5 H10 := bb9.trans (But.of_same s10)
        have el10 := s10 _ _ el9
        refine ⟨_, _, .lst (SqL.of el10) (dp_strs _), .lst (SqL.of e10) .nil, shaped_strs _ (fun y hy => strOk_of (hys y hy).2.pl), by decide +kernel, _, rfl, ite2 (fun e => ?_) (fun e => ?_)⟩
        · have hne : ys ≠ [] := fun c => by
            rw [eqv_nil, c] at e
            cases e
          refine ⟨.ref p, rfl, p, 3, rfl, p10, by decide, by decide, fun H11 d11 b11 p11 d110 d111 => ⟨rfl, _, rfl, ite2 (fun e => ?_) (fun e => ?_)⟩⟩
          · have el11 := b11 _ _ nlp el10
            have hpos : 0 < ys.length := List.length_pos_iff.mpr hne
            refine ⟨.ref l, rfl, .ref p, rfl, .ref l, rfl, l, _, rfl, .inl (SqL.of el11), p, (ys.map V.str).length, rfl, p11, by rw [List.length_map]; omega, by rw [List.length_map]; omega, fun H12 j12 b12 p12 j120 j121 => ?_⟩
            rw [List.length_map] at j121
            obtain ⟨z, hzm, hze⟩ := at_strs ys j12 j120 j121
            refine ⟨l, _, j12, .str z, rfl, rfl, SqL.of (b12 _ _ nlp el11), hze, ?_⟩
            refine ⟨.ref p, rfl, .str sg, rfl, p, 3, sg, rfl, p12, by decide, by decide, hz0, hz1, fun H13 y13 b13 p13 t13 => ?_⟩
            have tz := (hys z hzm).2
            have t13' : Tq B8 3 y13 := t13.mono (Nat.le_refl _) hz2
            have tall : Tq B8 16 (z ++ y13) := (tz.app t13')
            refine ⟨z, y13, rfl, rfl, Nat.le_of_lt (small1000 (by have := tz.le; have := t13'.le; omega)), 13, rfl, _, rfl, Nat.le_trans tall.le (by decide), ?_⟩
            refine c _ _ ⟨((bb10.trans b11).trans b12).trans b13, p13, cutS (z ++ y13) none (some 13), ?_, ?_, rfl⟩
            · exact cut_pos (by rw [Str.length_append]; have := (hys z hzm).1; omega)
            · exact ⟨cut_le13 _, (tall.cut none (some 13)).pl⟩
          · exact c _ _ ⟨bb10.trans b11, p11, nm1, t0, t1, rfl⟩
        · exact c _ _ ⟨bb10, p10, nm1, t0, t1, rfl⟩
      rintro σ6 H14 ⟨bb14, p14, nm, hn0, tn, rfl⟩
      have el14 := bb14 _ _ nlp el
      refine ⟨_, rfl, .ref l, rfl, l, _, rfl, .inl (SqL.of el14), rfl, strs_flat _, _, rfl, ite2 (fun e => ?_) (fun e => ?_)⟩
      · have hnin : nm ∉ ys := fun c => by
          have e' : (!inV (.str nm) (ys.map V.str)) = true := e
          rw [inV_strs, decide_eq_true c] at e'
          cases e'
        refine ⟨.ref l, rfl, .inl ⟨rfl, _, SqL.of el14⟩, _, rfl, l, _, _, rfl, rfl, el14, by rw [List.length_map]; exact small1000 (by omega), ?_⟩
        refine goU fun H15 u15 e15 => ?_
        refine ⟨fun b o nb e => u15 b o (ne_of_none e fr) (bb14 b o nb (b5 b o nb e)), ?_, ys ++ [nm], _, _, rfl, ?_, ?_, ?_, ?_⟩
        · obtain ⟨x, y, e, h1, h2⟩ := p14
          exact ⟨x, y, u15 _ _ (fun z => nlp z.symm) e, h1, h2⟩
        · rw [e15, List.map_append]
          rfl
        · rw [List.length_append]
          have : [nm].length = 1 := rfl
          omega
        · intro z hz
          rcases List.mem_append.mp hz with h | h
          · exact hys z h
          · rw [List.mem_singleton.mp h]
            exact ⟨hn0, tn⟩
        · exact List.nodup_append.mpr ⟨hnd, List.pairwise_singleton _ _, fun a ha b hb c => hnin (by rw [← List.mem_singleton.mp hb, ← c]; exact ha)⟩
      · exact ⟨b5.trans bb14, p14, ys, _, _, rfl, el14, by omega, hys, hnd⟩
    · rintro σ H5 ⟨b5, p5, ys, x4, x5, rfl, el, hlen, hys, hnd⟩
      exact ⟨_, rfl, q _ l ys b5 p5 fr nlp el (by omega) hys hnd⟩
end
end WB

set_option Elab.async false
set_option linter.all false
set_option maxRecDepth 100000
set_option maxHeartbeats 4000000
namespace WB
open PySem PySem.Spec PyProof.Rows L2
open TL (tl)
abbrev st_beginning : Stmt := topS 14
theorem sc_beginning : FnScope ["_law_pot_here", "_law_names_here", "_law_way", "_law_name"] ["_law_pot_here", "_law_names_here"] (defScope st_beginning) := ⟨rfl, rfl, rfl, by decide +kernel, rfl, by decide +kernel, by decide +kernel⟩
section
variable {P : Program} {w : World} {K : PySem.W.Frag} {mg : Str → Option Value} {base : Heap}
def NmsOk (ys : List Str) : Prop := ys.length ≤ 24 ∧ (∀ y ∈ ys, 0 < y.length ∧ Tq B8 13 y) ∧ ys.Nodup
theorem NmsOk.ok {ys : List Str} (h : NmsOk ys) : ∀ y ∈ ys, PyData.strOk y = true := fun y hy => strOk_of (h.2.1 y hy).2.pl
def spBeg : Sp := fun vs H Q _ => ∃ (p l : Addr) (ys : List Str), vs = [.ref p, .ref l] ∧ Pot H p ∧ l ≠ p ∧ H l = some (.lst (ys.map V.str)) ∧ NmsOk ys ∧ ∀ H' (y : Str), But p H H' → Pot H' p → Tq B8 14 y → Q (.str y) H'
theorem ok_beginning {f fD fT : Addr} {fd fdD fdT : FuncData} {k : Nat} (F : Fun K "_law_beginning" "_law_beginning" st_beginning f fd) (D_draw : Df K mg "_law_draw" sDraw ["_law_pot_here", "_law_many"] fD fdD)
    (D_text : Df K mg "_law_text" sText ["_law_pot_here", "_law_most", "_law_signs_here"] fT fdT) (m_divmod : mg "divmod" = none) (m_len : mg "len" = none) (m_range : mg "range" = none) :
    FnOk P w K mg base CX0 (k + 3) f fd ["_law_pot_here", "_law_names_here"] spBeg := by
  have G_draw : FnOk P w K mg base CX0 (k + 2) fD fdD ["_law_pot_here", "_law_many"] spDraw := ok_draw D_draw.F m_divmod
  have G_text : FnOk P w K mg base CX0 (k + 2) fT fdT ["_law_pot_here", "_law_most", "_law_signs_here"] spText := ok_text D_text.F D_draw m_divmod m_len m_range
  refine F.ok sc_beginning (fun vs H Q E h => ?_) (fun cdv A outer s H vs Q E hr h => ?_)
  · obtain ⟨p, l, ys, rfl, _⟩ := h
    rfl
  · obtain ⟨p, l, ys, rfl, hp, nlp, el, ok, q⟩ := h
    refine ⟨_, pss_cons (ps_set (i := 2) sc_beginning.nd rfl (.inl rfl) (pe_call G_draw hr (by rfl) D_draw.g D_draw.F.kp D_draw.b .nil pass0 (pa_cons (pv 0) (pa_cons pe_int pa_nil))))
      (pss_cons (ps_if (PW.pt (pw_or (pt_cmpR (op_eqD hr.units) (pv 1) (pe_lst pa_nil) (nomark _)) (pw_or1 (pt_cmpR op_eq (pv 2) pe_int (nomark _))))) (pss_one (ps_ret (pe_call G_text hr (by rfl) D_text.g D_text.F.kp D_text.b .nil pass0 (pa_cons (pv 0) (pa_cons pe_int (pa_cons pe_str pa_nil)))))) pss_nil)
      (pss_cons (ps_set (i := 3) sc_beginning.nd rfl (.inl rfl) (pe_ix ix_list (pv 1) (pe_call G_draw hr (by rfl) D_draw.g D_draw.F.kp D_draw.b .nil pass0 (pa_cons (pv 0) (pa_cons (pe_callB call_len_seq (by rfl) m_len PySem.boot_len (pa_cons (pv 1) pa_nil)) pa_nil))) (fun _ _ => rfl)))
      (pss_cons (ps_if (pt_cmpR op_lt (pv 2) pe_int (nomark _)) (pss_one (ps_ret (pe_slice sl_str (pv 3) po_none (po_some (pe_call G_draw hr (by rfl) D_draw.g D_draw.F.kp D_draw.b .nil pass0 (pa_cons (pv 0) (pa_cons (pe_op op_add (pe_callB call_len_str (by rfl) m_len PySem.boot_len (pa_cons (pv 3) pa_nil)) pe_int) pa_nil))))))) pss_nil)
      (pss_one (ps_ret (pe_ix ix_list (pe_lst (pa_cons (pe_op op_add_str (pv 3) pe_str) (pa_cons (pe_slice sl_str (pv 3) (po_some pe_int) po_none) pa_nil))) (pe_op op_sub (pv 2) pe_int) (fun _ _ => rfl))))))), ?_⟩
    obtain ⟨hlen, hys, hnd⟩ := ok
    have five : 0 < (Str.ofString "ab-no").length ∧ (Str.ofString "ab-no").length ≤ 200 ∧ ∀ c ∈ tl (Str.ofString "ab-no"), c < 256 := by decide +kernel
    refine ⟨.ref p, rfl, p, 6, rfl, hp, by decide, by decide, fun H1 way b1 p1 w0 w1 => ?_⟩
    have el1 := b1 _ _ nlp el
    refine ⟨.ref l, rfl, Nat.zero_le _, fun a1 n1 => ?_⟩
    first | refine goT n1 fun H2 s2 e2 => ?_ | refine go n1 fun H2 s2 e2 => ?_
    have p2 : Pot H2 p := p1.same s2
    have bb2 : But p H H2 := b1.trans (But.of_same s2)
    have el2 := s2 _ _ el1
    refine ⟨_, _, .lst (SqL.of el2) (dp_strs _), .lst (SqL.of e2) .nil, shaped_strs _ (fun y hy => strOk_of (hys y hy).2.pl), by decide +kernel, _, rfl, ite2 (fun e => ?_) (fun e => ?_)⟩
    · exact ⟨.ref p, rfl, p, 5, _, rfl, p2, by decide, by decide, five.1, five.2.1, fun H3 y b3 p3 ty => q _ _ (bb2.trans b3) p3 (ty.mono (by decide) five.2.2)⟩
    have hne : ys ≠ [] := fun c => e (by rw [eqv_nil, c]; rfl)
    refine ⟨_, rfl, rfl, _, rfl, ite2 (fun e => ?_) (fun e => ?_)⟩
    · exact ⟨.ref p, rfl, p, 5, _, rfl, p2, by decide, by decide, five.1, five.2.1, fun H3 y b3 p3 ty => q _ _ (bb2.trans b3) p3 (ty.mono (by decide) five.2.2)⟩
    have hpos : 0 < ys.length := List.length_pos_iff.mpr hne
    refine ⟨.ref l, rfl, .ref p, rfl, .ref l, rfl, l, _, rfl, .inl (SqL.of el2), p, (ys.map V.str).length, rfl, p2, by rw [List.length_map]; omega, by rw [List.length_map]; omega, fun H3 j b3 p3 j0 j1 => ?_⟩
    rw [List.length_map] at j1
    obtain ⟨z, hzm, hze⟩ := at_strs ys j j0 j1
    obtain ⟨hz0, tz⟩ := hys z hzm
    have hzl : z.length ≤ sizeLine := Nat.le_trans tz.le (by decide)
    have h13 := tz.le
    refine ⟨l, _, j, .str z, rfl, rfl, SqL.of (b3 _ _ nlp el2), hze, ?_⟩
    refine ⟨_, rfl, way, 4, rfl, rfl, _, rfl, ite2 (fun e => ?_) (fun e => ?_)⟩
    · refine ⟨.str z, rfl, .ref p, rfl, .str z, rfl, z, rfl, hzl, _, 1, rfl, rfl, p, (z.length : Int) + 1, rfl, p3, by omega, by omega, fun H4 j4 b4 p4 j40 j41 => ?_⟩
      exact ⟨j4, rfl, z, rfl, hzl, q _ _ ((bb2.trans b3).trans b4) p4 ((tz.cut none (some j4)).mono (by decide) (fun _ h => h))⟩
    have hw : ¬ way < 4 := fun c => e (decide_eq_true c)
    have la : (Str.ofString "a").length = 1 := by decide +kernel
    have ta : Tq B8 1 (Str.ofString "a") := ⟨by rw [la]; exact Nat.le_refl 1, by decide +kernel⟩
    refine ⟨.str z, rfl, z, _, rfl, rfl, Nat.le_of_lt (small1000 (by rw [la]; omega)), .str z, rfl, 1, rfl, z, rfl, hzl, by show 2 ≤ sizeLine; decide, fun l2 n2 => ?_⟩
    refine ⟨.int way, rfl, way, 4, rfl, rfl, ?_⟩
    have hh : way = 4 ∨ way = 5 := by omega
    rcases hh with rfl | rfl
    · exact ⟨l2, _, _, _, rfl, rfl, SqL.of upd_same, atI_nat (j := 0) rfl, q _ _ ((bb2.trans b3).trans (But.new n2)) (p3.new n2) (tz.app ta)⟩
    · exact ⟨l2, _, _, _, rfl, rfl, SqL.of upd_same, atI_nat (j := 1) rfl, q _ _ ((bb2.trans b3).trans (But.new n2)) (p3.new n2) ((tz.cut (some 1) none).mono (by decide) (fun _ h => h))⟩
end
end WB

set_option Elab.async false
set_option linter.all false
set_option maxRecDepth 100000
set_option maxHeartbeats 4000000
namespace WB
open PySem PySem.Spec PyProof.Rows L2
open TL (tl)
/-! ### one way to be sorted -/
def leS (a b : Str) : Prop := ¬ b.cps.toList < a.cps.toList
theorem leS_anti {a b : Str} (h : leS a b) (k : leS b a) : a = b := by
  have e : a.cps.toList = b.cps.toList := List.le_antisymm (List.not_lt.mp h) (List.not_lt.mp k)
  cases a; cases b
  exact congrArg Str.mk (Array.toList_inj.mp e)
theorem leS_trans {a b c : Str} (h : leS a b) (k : leS b c) : leS a c := List.not_lt.mpr (List.le_trans (List.not_lt.mp h) (List.not_lt.mp k))
theorem rising_all : ∀ (l : List Str) (p : Str), risingS p l = true → (∀ x ∈ l, leS p x) ∧ l.Pairwise leS
  | [], p, _ => ⟨fun x hx => (by cases hx), .nil⟩
  | y :: r, p, h => by
    have h' : (!ltCps y.cps.toList p.cps.toList && risingS y r) = true := h
    obtain ⟨h1, h2⟩ := Bool.and_eq_true_iff.mp h'
    have py : leS p y := by
      rw [ltCps_eq] at h1
      intro c
      rw [decide_eq_true c] at h1
      cases h1
    obtain ⟨k1, k2⟩ := rising_all r y h2
    refine ⟨fun x hx => ?_, .cons k1 k2⟩
    rcases List.mem_cons.mp hx with e | e
    · rw [e]
      exact py
    · exact leS_trans py (k1 x e)
theorem sorted_pw {l : List Str} (h : sortedS l = true) : l.Pairwise leS := by
  cases l with
  | nil => exact .nil
  | cons x r =>
    obtain ⟨k1, k2⟩ := rising_all r x h
    exact .cons k1 k2
theorem pw_eq : ∀ {l m : List Str}, l.Perm m → l.Pairwise leS → m.Pairwise leS → l = m
  | [], m, h, _, _ => by rw [List.nil_perm.mp h]
  | a :: r, [], h, _, _ => by cases List.perm_nil.mp h
  | a :: r, b :: t, h, k1, k2 => by
    obtain ⟨a1, a2⟩ := List.pairwise_cons.mp k1
    obtain ⟨b1, b2⟩ := List.pairwise_cons.mp k2
    have e : a = b := by
      rcases List.mem_cons.mp (h.mem_iff.mp List.mem_cons_self : a ∈ b :: t) with e | e
      · exact e
      · rcases List.mem_cons.mp (h.mem_iff.mpr List.mem_cons_self : b ∈ a :: r) with e2 | e2
        · exact e2.symm
        · exact leS_anti (a1 b e2) (b1 a e)
    subst e
    rw [pw_eq (List.perm_cons a |>.mp h) a2 b2]
theorem sorted_one {l m : List Str} (h : l.Perm m) (k1 : sortedS l = true) (k2 : sortedS m = true) : l = m := pw_eq h (sorted_pw k1) (sorted_pw k2)
/-! ### what a beginning means -/
def begins (b y : Str) : Bool := decide ((tl y).take b.length = tl b)
/-- out is what b means of the names -/
def Means (ys : List Str) (b : Str) (out : List Str) : Prop :=
  if b = Str.ofString "" then out = [] else if b ∈ ys then out = [b] else out.Perm (ys.filter (begins b)) ∧ sortedS out = true
theorem Means.one {ys : List Str} {b : Str} {o1 o2 : List Str} (h : Means ys b o1) (k : Means ys b o2) : o1 = o2 := by
  unfold Means at h k
  split at h
  · rename_i e
    rw [if_pos e] at k
    rw [h, k]
  · rename_i e
    rw [if_neg e] at k
    split at h
    · rename_i e2
      rw [if_pos e2] at k
      rw [h, k]
    · rename_i e2
      rw [if_neg e2] at k
      exact sorted_one (h.1.trans k.1.symm) h.2 k.2
theorem Means.perm {ys zs : List Str} {b : Str} {o : List Str} (h : Means ys b o) (p : ys.Perm zs) : Means zs b o := by
  unfold Means at h ⊢
  split at h
  · rename_i e
    rw [if_pos e]
    exact h
  · rename_i e
    rw [if_neg e]
    split at h
    · rename_i e2
      rw [if_pos (p.mem_iff.mp e2)]
      exact h
    · rename_i e2
      rw [if_neg (fun c => e2 (p.mem_iff.mpr c))]
      exact ⟨h.1.trans (p.filter _), h.2⟩
abbrev st_w_meant : Stmt := topS 15
theorem sc_w_meant : FnScope ["_law_names_here", "_law_beginning_here", "_law_name"] ["_law_names_here", "_law_beginning_here"] (defScope st_w_meant) := ⟨rfl, rfl, rfl, by decide +kernel, rfl, by decide +kernel, by decide +kernel⟩
section
variable {P : Program} {w : World} {K : PySem.W.Frag} {mg : Str → Option Value} {base : Heap}
def spLMeant : Sp := fun vs H Q _ => ∃ (l : Addr) (ys : List Str) (b : Str), vs = [.ref l, .str b] ∧ H l = some (.lst (ys.map V.str)) ∧ NmsOk ys ∧ Tq B8 14 b ∧ ∀ H' o out, Same H H' → H o = none → H' o = some (.lst (out.map V.str)) → Means ys b out → Q (.ref o) H'
theorem ok_lmeant {f : Addr} {fd : FuncData} {k : Nat} (F : Fun K "_law_meant" "_law_meant" st_w_meant f fd) (m_len : mg "len" = none) (m_sorted : mg "sorted" = none) :
    FnOk P w K mg base CX0 (k + 1) f fd ["_law_names_here", "_law_beginning_here"] spLMeant := by
  refine F.ok sc_w_meant (fun vs H Q E h => ?_) (fun cdv A outer s H vs Q E hr h => ?_)
  · obtain ⟨l, ys, b, rfl, _⟩ := h
    rfl
  · obtain ⟨l, ys, b, rfl, el, ok, tb, q⟩ := h
    refine ⟨_, pss_cons (ps_if (pt_cmpR op_eq (pv 1) pe_str (nomark _)) (pss_one (ps_ret (pe_lst pa_nil))) pss_nil)
      (pss_cons (ps_if (pt_cmpR op_in_seq (pv 1) (pv 0) (by rfl)) (pss_one (ps_ret (pe_lst (pa_cons (pv 1) pa_nil)))) pss_nil)
      (pss_one (ps_ret (pe_callB cr_sortedS (by rfl) m_sorted (by decide +kernel) (pa_cons (pe_lc (own := [("_law_name", 2)]) (g := gName 2) rfl sc_w_meant.nd (pi_list (pv 0)) (blkOk_by (N := ["_law_names_here", "_law_beginning_here", "_law_name"]) (sc := defScope st_w_meant) (by decide +kernel)) (fun _ _ _ _ _ => (pg_name (i := 2) sc_w_meant.nd rfl (Or.inl rfl))) (fun _ _ _ _ _ => pts_one (pt_cmpR op_eq (pe_slice sl_str (pv 2) po_none (po_some (pe_callB call_len_str (by rfl) m_len PySem.boot_len (pa_cons (pv 1) pa_nil)))) (pv 1) (nomark _))) (fun _ _ _ _ _ => (pv 2))) pa_nil))))), ?_⟩
    refine ⟨_, rfl, rfl, _, rfl, ite2 (fun e => ?_) (fun e => ?_)⟩
    · have eb : b = Str.ofString "" := V.str.inj (of_decide_eq_true e)
      refine ⟨Nat.zero_le _, fun o no => ?_⟩
      exact q _ o [] (same_upd no) no upd_same (by unfold Means; rw [if_pos eb])
    have nb : b ≠ Str.ofString "" := fun c => e (decide_eq_true (by rw [c]))
    refine ⟨_, rfl, .ref l, rfl, l, _, rfl, .inl (SqL.of el), rfl, strs_flat _, _, rfl, ite2 (fun e => ?_) (fun e => ?_)⟩
    · have hm : b ∈ ys := by
        have e' : inV (.str b) (ys.map V.str) = true := e
        rw [inV_strs] at e'
        exact of_decide_eq_true e'
      refine ⟨_, rfl, by show 1 ≤ sizeLine; decide, fun o no => ?_⟩
      exact q _ o [b] (same_upd no) no upd_same (by unfold Means; rw [if_neg nb, if_pos hm])
    have hm : b ∉ ys := fun c => e (by
      show inV (.str b) (ys.map V.str) = true
      rw [inV_strs]
      exact decide_eq_true c)
    refine ⟨.ref l, rfl, l, rfl, ⟨_, SqL.of el⟩, fun D nD => ?_⟩
    refine lc_list (K := K) (a := l) (xs := ys.map V.str) (fun i Hc => Same H Hc ∧ Hc D = some (.lst (((ys.take i).filter (begins b)).map V.str))) ⟨same_upd nD, upd_same⟩ (fun i Hc _ ⟨sc, _⟩ => SqL.of (sc _ _ el)) (fun i x Hc hx ⟨sc, eD⟩ => ?_) (fun Hc ⟨sc, eD⟩ => ?_)
    · rw [List.getElem?_map] at hx
      obtain ⟨z, ez, rfl⟩ := Option.map_eq_some_iff.mp hx
      have hzl : z.length ≤ sizeLine := Nat.le_trans (ok.2.1 z (List.mem_of_getElem? ez)).2.le (by decide)
      have hbl : b.length ≤ sizeLine := Nat.le_trans tb.le (by decide)
      have etk : ys.take (i + 1) = ys.take i ++ [z] := by
        rw [List.take_add_one, ez]
        rfl
      refine ⟨rfl, .str z, rfl, .str b, rfl, b, rfl, hbl, _, rfl, z, rfl, hzl, .str b, rfl, rfl, _, rfl, ?_⟩
      have ed : decide (V.str (cutS z none (some (b.length : Int))) = V.str b) = begins b z := by
        unfold begins
        refine decide_eq_decide.mpr ⟨fun h => ?_, fun h => ?_⟩
        · rw [← tl_cut_to, V.str.inj h]
        · rw [← tl_cut_to] at h
          exact congrArg V.str (str_ext h)
      rw [ed]
      cases hb : begins b z with
      | true =>
        refine ⟨_, rfl, _, eD, ?_, ?_, ?_⟩
        · rw [List.length_map]
          refine Nat.lt_of_le_of_lt (List.length_filter_le _ _) ?_
          rw [List.length_take]
          exact small1000 (Nat.le_trans (Nat.min_le_right _ _) (Nat.le_trans ok.1 (by decide)))
        · intro a o e
          rw [upd_ne (ne_of_none e nD)]
          exact sc a o e
        · rw [upd_same, etk, List.filter_append, List.filter_cons_of_pos hb, List.filter_nil, List.map_append]
          rfl
      | false =>
        refine ⟨sc, ?_⟩
        rw [etk, List.filter_append, List.filter_cons_of_neg (by rw [hb]; decide), List.filter_nil, List.append_nil]
        exact eD
    · rw [List.length_map, List.take_length] at eD
      refine ⟨D, _, rfl, SqL.of eD, ?_, fun out o hp hs no => ?_⟩
      · exact Nat.lt_of_le_of_lt (List.length_filter_le _ _) (by have := ok.1; omega)
      · refine q _ o out (sc.trans (same_upd no)) (sc.free no) upd_same ?_
        unfold Means
        rw [if_neg nb, if_neg hm]
        exact ⟨hp, hs⟩
end
end WB

set_option Elab.async false
set_option linter.all false
set_option maxRecDepth 100000
set_option maxHeartbeats 4000000
namespace WB
open PySem PySem.Spec PyProof.Rows L2
open TL (tl)
theorem starts_begins (y b : Str) : Txt.startswith y b = begins b y := by
  unfold Txt.startswith begins
  rw [StrLaws.subAt_eq, List.drop_zero]
  by_cases h : b.length ≤ y.length
  · rw [decide_eq_true (show 0 + b.length ≤ y.length by omega), Bool.true_and]
    by_cases e : (tl y).take b.length = tl b
    · rw [decide_eq_true e]
      exact beq_iff_eq.mpr e
    · rw [decide_eq_false e]
      exact beq_eq_false_iff_ne.mpr e
  · rw [decide_eq_false (show ¬ 0 + b.length ≤ y.length by omega), Bool.false_and]
    refine (decide_eq_false fun e => ?_).symm
    have z := congrArg List.length e
    rw [List.length_take, ← TL.len_tl, ← TL.len_tl] at z
    omega
abbrev st_meant : Stmt := topS 4
theorem sc_meant : FnScope ["names", "beginning", "name"] ["names", "beginning"] (defScope st_meant) := ⟨rfl, rfl, rfl, by decide +kernel, rfl, by decide +kernel, by decide +kernel⟩
section
variable {P : Program} {w : World} {K : PySem.W.Frag} {mg : Str → Option Value} {base : Heap}
theorem ok_meant {f : Addr} {fd : FuncData} {k : Nat} (F : Fun K "meant" "meant" st_meant f fd) (m_sorted : mg "sorted" = none) :
    FnOk P w K mg base CX0 (k + 1) f fd ["names", "beginning"] spLMeant := by
  refine F.ok sc_meant (fun vs H Q E h => ?_) (fun cdv A outer s H vs Q E hr h => ?_)
  · obtain ⟨l, ys, b, rfl, _⟩ := h
    rfl
  · obtain ⟨l, ys, b, rfl, el, ok, tb, q⟩ := h
    refine ⟨_, pss_cons (ps_if (pt_cmpR op_eq (pv 1) pe_str (nomark _)) (pss_one (ps_ret (pe_lst pa_nil))) pss_nil)
      (pss_cons (ps_if (pt_cmpR op_in_seq (pv 1) (pv 0) (by rfl)) (pss_one (ps_ret (pe_lst (pa_cons (pv 1) pa_nil)))) pss_nil)
      (pss_one (ps_ret (pe_callB cr_sortedS (by rfl) m_sorted (by decide +kernel) (pa_cons (pe_lc (own := [("name", 2)]) (g := gName 2) rfl sc_meant.nd (pi_list (pv 0)) (blkOk_by (N := ["names", "beginning", "name"]) (sc := defScope st_meant) (by decide +kernel)) (fun _ _ _ _ _ => (pg_name (i := 2) sc_meant.nd rfl (Or.inl rfl))) (fun _ _ _ _ _ => pts_one (pt_val (pe_m1 PySem.F.slot_str_startswith PySem.F.type_str_startswith mt_startswith (pv 2) (pv 1)))) (fun _ _ _ _ _ => (pv 2))) pa_nil))))), ?_⟩
    refine ⟨_, rfl, rfl, _, rfl, ite2 (fun e => ?_) (fun e => ?_)⟩
    · have eb : b = Str.ofString "" := V.str.inj (of_decide_eq_true e)
      refine ⟨Nat.zero_le _, fun o no => ?_⟩
      exact q _ o [] (same_upd no) no upd_same (by unfold Means; rw [if_pos eb])
    have nb : b ≠ Str.ofString "" := fun c => e (decide_eq_true (by rw [c]))
    refine ⟨_, rfl, .ref l, rfl, l, _, rfl, .inl (SqL.of el), rfl, strs_flat _, _, rfl, ite2 (fun e => ?_) (fun e => ?_)⟩
    · have hm : b ∈ ys := by
        have e' : inV (.str b) (ys.map V.str) = true := e
        rw [inV_strs] at e'
        exact of_decide_eq_true e'
      refine ⟨_, rfl, by show 1 ≤ sizeLine; decide, fun o no => ?_⟩
      exact q _ o [b] (same_upd no) no upd_same (by unfold Means; rw [if_neg nb, if_pos hm])
    have hm : b ∉ ys := fun c => e (by
      show inV (.str b) (ys.map V.str) = true
      rw [inV_strs]
      exact decide_eq_true c)
    refine ⟨.ref l, rfl, l, rfl, ⟨_, SqL.of el⟩, fun D nD => ?_⟩
    refine lc_list (K := K) (a := l) (xs := ys.map V.str) (fun i Hc => Same H Hc ∧ Hc D = some (.lst (((ys.take i).filter (begins b)).map V.str))) ⟨same_upd nD, upd_same⟩ (fun i Hc _ ⟨sc, _⟩ => SqL.of (sc _ _ el)) (fun i x Hc hx ⟨sc, eD⟩ => ?_) (fun Hc ⟨sc, eD⟩ => ?_)
    · rw [List.getElem?_map] at hx
      obtain ⟨z, ez, rfl⟩ := Option.map_eq_some_iff.mp hx
      have etk : ys.take (i + 1) = ys.take i ++ [z] := by
        rw [List.take_add_one, ez]
        rfl
      refine ⟨rfl, .str z, rfl, ⟨_, rfl⟩, .str b, rfl, z, b, rfl, rfl, _, rfl, ?_⟩
      rw [starts_begins]
      cases hb : begins b z with
      | true =>
        refine ⟨_, rfl, _, eD, ?_, ?_, ?_⟩
        · rw [List.length_map]
          refine Nat.lt_of_le_of_lt (List.length_filter_le _ _) ?_
          rw [List.length_take]
          exact small1000 (Nat.le_trans (Nat.min_le_right _ _) (Nat.le_trans ok.1 (by decide)))
        · intro a o e
          rw [upd_ne (ne_of_none e nD)]
          exact sc a o e
        · rw [upd_same, etk, List.filter_append, List.filter_cons_of_pos hb, List.filter_nil, List.map_append]
          rfl
      | false =>
        refine ⟨sc, ?_⟩
        rw [etk, List.filter_append, List.filter_cons_of_neg (by rw [hb]; decide), List.filter_nil, List.append_nil]
        exact eD
    · rw [List.length_map, List.take_length] at eD
      refine ⟨D, _, rfl, SqL.of eD, ?_, fun out o hp hs no => ?_⟩
      · exact Nat.lt_of_le_of_lt (List.length_filter_le _ _) (by have := ok.1; omega)
      · refine q _ o out (sc.trans (same_upd no)) (sc.free no) upd_same ?_
        unfold Means
        rw [if_neg nb, if_neg hm]
        exact ⟨hp, hs⟩
end
end WB

set_option Elab.async false
set_option linter.all false
set_option maxRecDepth 100000
set_option maxHeartbeats 4000000
namespace WB
open PySem PySem.Spec PyProof.Rows L2 WG
open TL (tl)
/-! ### a call of a local name within a try -/
def tCallLS (i : Nat) (f : Addr) (sp : Sp) (E : L2.St → XK) (t : TA) : TE := fun σ H Q => σ[i]? = some (some (.ref f)) ∧ t σ H fun vs H1 => sp vs H1 Q (E σ)
theorem pe_callLS {X : Cx} {CX : CXT} {k i : Nat} {f : Addr} {fd : FuncData} {ps : List Str} {sp : Sp} {E : L2.St → XK} {nm : Str} {p pos : Pos} {e : Expr} {es : List Expr} {t : TA}
    (G : FnOk X.prog X.w X.K X.mg X.base CX k f fd ps sp) (room : Room k X.A) (at_ : X.N[i]? = some nm) (vis : Vis X.env.scope nm) (kp : PySem.W.keepIn X.K (.ref f) = true) (bnd : Binds X.K fd ps []) (out : ∀ σ, PassesAt CX X σ (E σ)) (args : PA X (e :: es) t)
    (n1 : (nm == ("__debug__" : Str)) = false := by decide) (n2 : (nm == ("__classdict__" : Str)) = false := by decide)
    (s1 : starEach (e :: es) X.env = (false, eval e X.env) :: starEach es X.env := by rfl) (s2 : (backTo pos (starEach es X.env)).any (·.1) = false := by rfl) : PE X (.Call (.Name nm p) (e :: es) [] pos) (tCallLS i f sp E t) := by
  constructor
  intro pins st σ H want inv ask
  refine wpAny_Call_Name_kw (thn ((pe_var (pos := p) at_ vis n1 n2).run pins st σ H (fun v H1 => v = .ref f ∧ H1 = H) inv ⟨.ref f, ask.1, rfl, rfl⟩) fun u st1 got => ?_)
  obtain ⟨v, H1, inv1, rel, rfl, rfl⟩ := got
  cases rel
  exact PySem.W.callWith_K (h₀ := X.base) inv.ok.mod.kin kp (thn (args.run pos pins st1 σ _ _ inv1 ask.2) fun us st2 ⟨vs, H2, inv2, rels, q⟩ => ⟨inv2.kIn, run_fnS G room bnd (out σ) inv2 rels q⟩) s1 s2
/-! ### dict(d) of a dict of the module -/
inductive EntAll (P : Params) : List DictEntry → List (Key × V) → Prop
  | nil : EntAll P [] []
  | cons {hs : Int} {x : Str} {t : Tok} {u : Value} {v : V} {es : List DictEntry} {kvs : List (Key × V)} : hs = PyData.keyHash P x → RelV v u → EntAll P es kvs → EntAll P (⟨hs, .str x t, u⟩ :: es) ((Sum.inr x, v) :: kvs)
theorem EntAll.vals {P : Program} {w : World} {es : List DictEntry} {kvs : List (Key × V)} (h : EntAll w.params es kvs) : ∃ vs : List (Key × Value), KV kvs vs ∧ Pairs (mixKind P w) es vs ∧ (∀ e ∈ es, ∃ k, (mixKind P w).is k e.key = true ∧ e.hash = (mixKind P w).hash k) ∧ vs.map (·.1) = kvs.map (·.1) := by
  induction h with
  | nil => exact ⟨[], .nil, .nil, (fun e he => by cases he), rfl⟩
  | @cons hs x t u v es kvs eh rel _ ih =>
    obtain ⟨vs, h1, h2, h3, h4⟩ := ih
    have is1 : (mixKind P w).is (Sum.inr x) (.str x t) = true := strKind_is P w x t
    refine ⟨(Sum.inr x, u) :: vs, .cons ⟨rfl, rel⟩ h1, .cons is1 rfl h2, fun e he => ?_, by rw [List.map_cons, List.map_cons, h4]⟩
    rcases List.mem_cons.mp he with r | r
    · subst r
      exact ⟨Sum.inr x, is1, eh⟩
    · exact h3 e r
/-- a dict that the module has written -/
def KDic (K : PySem.W.Frag) (w : World) (a : Addr) (kvs : List (Key × V)) : Prop :=
  ∃ es n, K.lookup a = some ⟨.type "dict", none, .dict es n, #[]⟩ ∧ (a == sysModules) = false ∧ EntAll w.params es.toList kvs ∧ (kvs.map (·.1)).Nodup ∧ kvs.length ≤ 1000
theorem call_dictK {X : Cx} : CallR X (.type "dict") (fun xs H Q => ∃ (a : Addr) (kvs : List (Key × V)), xs = [.ref a] ∧ KDic X.K X.w a kvs ∧ ∀ p, H p = none → Q (.ref p) (upd H p (.dK kvs))) := by
  intro pins s σ H xs us want I rels ask
  obtain ⟨a, kvs, rfl, ⟨es, n, look, low, ent, nd, len⟩, q⟩ := ask
  obtain ⟨u, rfl, rel⟩ := vals1 rels
  cases rel
  obtain ⟨vs, kv, prs, keys, same⟩ := ent.vals (P := X.prog)
  have dd : s.heap.DictOf (mixKind X.prog X.w) a vs := ⟨_, es, n, I.kIn _ _ look, ⟨rfl, rfl, rfl⟩, rfl, fun e he => keys e (Array.mem_toList_iff.mpr he), prs, by rw [same]; exact nd⟩
  have lv : vs.length ≤ sizeLine := by
    have h := congrArg List.length same
    rw [List.length_map, List.length_map] at h
    rw [h]
    exact Nat.le_trans len (by decide)
  have lk : kvs.length ≤ sizeLine := Nat.le_trans len (by decide)
  refine kt_call_dict low dd lv fun h2 d2 sb => ?_
  have ns : (s.heap.objs.size == sysModules) = false := beq_eq_false_iff_ne.mpr (Nat.ne_of_gt I.big)
  have laid : ∀ b o, s.heap.get? b = some o → h2.get? b = some o := fun b o e => (sb.2 b (Nat.ne_of_lt (Heap.lt_size e))).trans (Heap.get?_push_of_some _ e)
  have ob : ObjOk X.prog X.w (upd H s.heap.objs.size (.dK kvs)) h2 s.heap.objs.size (.dK kvs) := ⟨lk, ns, vs, kv, d2⟩
  exact ⟨.ref s.heap.objs.size, _, I.laid (t' := s.toks) laid (Nat.le_refl _) ob, rfl, q _ (I.hok.fresh (Nat.le_refl _))⟩
/-! ### Unmade -/
/-- Unmade, as the written part tells it -/
structure ErrT (K : PySem.W.Frag) (mg : Str → Option Value) (x : Str) (C fI : Addr) (fd : FuncData) : Prop where
  o : OexC K C
  i : PySem.W.findIn K (.ref C) "__init__" = some (some (.ref fI))
  t : PySem.W.typeIn K (.ref fI) = some (.type "function")
  nf : PySem.W.findIn K (.ref C) "why" = some none
  g : mg x = some (.ref C)
  b : Binds K fd ["self", "why"] []
abbrev st_Unmade_init : Stmt := inClass (topS 2) 0
theorem sc_Unmade_init : FnScope ["self", "why"] ["self", "why"] (defScope st_Unmade_init) := ⟨rfl, rfl, rfl, by decide +kernel, rfl, by decide +kernel, by decide +kernel⟩
abbrev st_err := st_Unmade_init
abbrev sc_err := sc_Unmade_init
abbrev ErrD (K : PySem.W.Frag) (f : Addr) (fd : FuncData) : Prop := FunD K "__init__" "Unmade.__init__" (defArgs st_err) (defBody st_err) (defScope st_err) [.str (Str.ofString "")] [] f fd
theorem err_b2 {K : PySem.W.Frag} {f : Addr} {fd : FuncData} (F : ErrD K f fd) : Binds K fd ["self", "why"] [] := by
  obtain ⟨ds, hv, b⟩ := F.binds1 (ps := ["self", "why"]) 2 1 (by simp) rfl (fun T kV doc pm an cdv ct us its h1 h2 => match us, its, h1, h2 with | [_, _], [_], _, _ => ⟨_, rfl, rfl⟩)
  cases hv
  exact b
section
variable {P : Program} {w : World} {K : PySem.W.Frag} {mg : Str → Option Value} {base : Heap}
def spErr (C : Addr) : Sp := fun vs H Q _ => ∃ (a : Addr) (y : V), vs = [.ref a, y] ∧ H a = some (exo a C none) ∧ ∀ dx, H dx = none → dx ≠ a → Q .non (upd (upd H dx (exd dx [(("why" : Str), y)])) a (exo a C (some dx)))
theorem ok_err {C f : Addr} {fd : FuncData} {x : Str} {k : Nat} (F : ErrD K f fd) (T : ErrT K mg x C f fd) : FnOk P w K mg base CX0 (k + 1) f fd ["self", "why"] (spErr C) := by
  refine F.ok sc_err (fun vs H Q E h => ?_) (fun cdv A outer s H vs Q E hr h => ?_)
  · obtain ⟨a, y, rfl, _⟩ := h
    rfl
  · obtain ⟨a, y, rfl, ea, q⟩ := h
    refine ⟨_, pss_one (ps_ost (pv 0) (pv 1)), ?_⟩
    exact ⟨y, rfl, .ref a, rfl, a, C, rfl, T.o, T.nf, .inl ⟨ea, fun dx n ne => q dx n ne⟩⟩
/-- the way out by a raised error -/
theorem err_out {C : Addr} {y : V} {H : Hp} {E : XK} (h : ∀ H' d, Same H H' → H d = none → H' d = some (.xd [(("why" : Str), y)]) → E (.ref C) (some d) H') (a : Addr) (na : H a = none) :
    spErr C [.ref a, y] (upd H a (exo a C none)) (fun v H2 => v = .non ∧ ∃ (d : Addr) (fs : List (Str × V)), H2 a = some (exo a C (some d)) ∧ H2 d = some (exd d fs) ∧ H d = none ∧ E (.ref C) (some d) (upd (del H2 a) d (.xd fs))) (fun _ _ _ => False) := by
  refine ⟨a, y, rfl, upd_same, fun dx ndx ne => ⟨rfl, dx, [(("why" : Str), y)], upd_same, ?_, ?_, ?_⟩⟩
  · rw [upd_ne ne, upd_same]
  · rw [upd_ne ne] at ndx
    exact ndx
  · rw [upd_ne ne] at ndx
    refine h _ dx (fun b o e => ?_) ndx upd_same
    have nb : b ≠ dx := ne_of_none e ndx
    have nba : b ≠ a := ne_of_none e na
    rw [upd_ne nb, del_ne nba, upd_ne nba, upd_ne nb, upd_ne nba]
    exact e
theorem why_look {v : V} : List.lookup ("why" : Str) [(("why" : Str), v)] = some v := by simp [List.lookup]
/-- what may be asked of a caught Unmade -/
structure CaughtT (K : PySem.W.Frag) (CU BE : Addr) : Prop where
  x : XfC K CU
  c : ExcC K CU
  e : PySem.W.exmOne K (.ref CU) (.ref CU) = some true
  v : PySem.W.kitOne K (.ref CU) (.type "ValueError") = some true
  b : PySem.W.kitOne K (.ref CU) (.ref BE) = some false
end
theorem kit_subT {K : PySem.W.Frag} {a : Addr} {T : String} {b : Bool} (hm : PySem.W.kitMeta T = true) (h : PySem.W.subIn K (.ref a) (.type T) = some b) : PySem.W.kitOne K (.ref a) (.type T) = some b := by
  unfold PySem.W.kitOne
  rw [if_neg (by intro z; cases z)]
  unfold PySem.W.kitCls
  dsimp only
  rw [if_pos hm]
  exact h
theorem kit_subR {K : PySem.W.Frag} {a c : Addr} {b : Bool} (h1 : PySem.W.hasDictIn K c = true) (h2 : PySem.W.typeIn K (.ref c) = some (.type "type")) (h3 : PySem.W.subIn K (.ref a) (.ref c) = some b) (h4 : PySem.W.subIn K (.ref a) (.ref a) = some true) : PySem.W.kitOne K (.ref a) (.ref c) = some b := by
  obtain ⟨cd, hc, _⟩ := PySem.W.any_some h1
  unfold PySem.W.kitOne
  split
  · rename_i e
    have e2 : a = c := Value.ref.inj (beq_iff_eq.mp e)
    subst e2
    rw [h4] at h3
    exact h3
  · unfold PySem.W.kitCls
    dsimp only
    have e : ((PySem.W.clsIn K c).isSome && PySem.W.typeIn K (.ref c) == some (.type "type")) = true := by rw [hc, h2] <;> rfl
    rw [if_pos e]
    exact h3
end WB

set_option Elab.async false
set_option linter.all false
set_option maxRecDepth 100000
set_option maxHeartbeats 4000000
namespace WB
open PySem PySem.Spec PyProof.Rows L2 WG
open NdefX (NF FnO NOk nok_of NScope nscope_by TabN TabsN)
open LamX (CodeO TabB)
open TL (tl)
abbrev st_one_of : Stmt := topS 6
theorem sc_one_of : FnScope ["words", "kept", "chosen"] ["words"] (defScope st_one_of) := ⟨rfl, rfl, rfl, by decide +kernel, rfl, by decide +kernel, by decide +kernel⟩
abbrev st_chosen : Stmt := match defBody st_one_of with
  | [_, s, _] => s
  | _ => st_one_of
def qCh : Str := (envOfC "one_of" (defScope st_one_of) 0 0 .none).qual ++ ("chosen" : Str)
theorem sc_chosen : NScope ["word", "kept", "found"] ["word"] ["kept"] (C8.fnScope st_chosen) := nscope_by (by decide +kernel)
theorem free_chosen : NdefX.ndefB (defScope st_one_of) (C8.fnScope st_chosen) ["kept"] = true := by decide +kernel
theorem only_kept : ∀ x ∈ (C8.fnScope st_chosen).names, x.2 = .free → x.1 = ("kept" : Str) := by decide +kernel
theorem kept_in : (("kept" : Str), NameKind.free) ∈ (C8.fnScope st_chosen).names := by decide +kernel
/-- the defs that one_of gives out -/
def FSc (F : NF) : Prop := ∃ (cl : List (Str × Addr)) (cd : Addr), F = NF.of st_chosen "chosen" qCh cl cd
/-- the def at f is one_of's of the words ys -/
def MkA (H : Hp) (f : Addr) (ys : List Str) (a : Addr) : Prop := ∃ (F : NF) (c : Addr), FSc F ∧ F.cl.lookup ("kept" : Str) = some c ∧ (∀ x d, F.cl.lookup x = some d → x = "kept") ∧ H f = some (FnO f F) ∧ H F.c = some (CodeO F.c F.qual) ∧ H c = some (CellO c a) ∧ H a = some (.lst (ys.map V.str))
def Mk (H : Hp) (f : Addr) (ys : List Str) : Prop := ∃ a, MkA H f ys a
section
variable {P : Program} {w : World} {K : PySem.W.Frag} {mg : Str → Option Value} {base : Heap}
def spCh (CU : Addr) (ws : List (Option V)) : Sp := fun vs H Q E => ∃ (a : Addr) (ys : List Str) (z : Str), ws = [some (.ref a)] ∧ vs = [.str z] ∧ H a = some (.lst (ys.map V.str)) ∧ NmsOk ys ∧ Tq B8 14 z ∧ ∃ out, Means ys z out ∧ (∀ y, out = [y] → ∀ H', Same H H' → Q (.str y) H') ∧
  (out.length ≠ 1 → ∀ (y : Str) H' d, Same H H' → H d = none → H' d = some (.xd [(("why" : Str), .str y)]) → E (.ref CU) (some d) H')
theorem ok_chosen {CU fE fM : Addr} {fdE fdM : FuncData} {k : Nat} (FE : ErrD K fE fdE) (TE : ErrT K mg "Unmade" CU fE fdE) (D_meant : Df K mg "meant" st_meant ["names", "beginning"] fM fdM) (m_sorted : mg "sorted" = none) (m_len : mg "len" = none) :
    ∀ f F, FSc F → NOk P w K mg base (L2.CX P w) (k + 3) f F ["word"] ["kept"] (spCh CU) := by
  have GE : FnOk P w K mg base CX0 (k + 1) fE fdE ["self", "why"] (spErr CU) := ok_err FE TE
  have G_meant : FnOk P w K mg base CX0 (k + 2) fM fdM ["names", "beginning"] spLMeant := ok_meant D_meant.F m_sorted
  intro f F hF
  obtain ⟨cl, cd, rfl⟩ := hF
  refine nok_of (N := ["word", "kept", "found"]) sc_chosen (fun doc pm ctv us hl => match us, hl with | [_], _ => rfl) (fun ws vs H Q E h => ?_) (fun A outer s H vs ws Q E hr hf hc hl h => ?_)
  · obtain ⟨a, ys, z, rfl, rfl, _⟩ := h
    rfl
  · obtain ⟨a, ys, z, rfl, rfl, ea, ok, tz, out, mo, q, qx⟩ := h
    refine ⟨_, pss_cons (ps_set (i := 2) sc_chosen.nd rfl (.inl rfl) (pe_call G_meant hr (by rfl) D_meant.g D_meant.F.kp D_meant.b .nil pass0 (pa_cons (pv 1) (pa_cons (pv 0) pa_nil))))
      (pss_cons (ps_if (pt_cmpR op_ne (pe_callB call_len_seq (by rfl) m_len PySem.boot_len (pa_cons (pv 2) pa_nil)) pe_int (nomark _)) (pss_one (ps_raise rfl (takes_of rfl rfl rfl rfl) (pmk_oex TE.o TE.i TE.t GE hr TE.b .nil pass0 (by rfl) TE.g (pa_cons pe_str pa_nil)))) pss_nil)
      (pss_one (ps_ret (pe_ix ix_list (pv 2) pe_int (fun _ _ => rfl))))), ?_⟩
    refine ⟨.ref a, rfl, .str z, rfl, a, ys, z, rfl, ea, ok, tz, fun H1 o out2 s1 no eo m2 => ?_⟩
    have eo2 := mo.one m2
    subst eo2
    refine ⟨.ref o, rfl, o, _, rfl, .inl (SqL.of eo), rfl, _, rfl, ite2 (fun e => ?_) (fun e => ?_)⟩
    · refine ⟨by show 1 ≤ 1000; decide, fun x nx => err_out (fun H' d sm nd ed => qx (fun z => ?_) _ H' d (s1.trans sm) (s1.free nd) ed) x nx⟩
      rw [List.length_map, z] at e
      exact absurd e (by decide)
    · have h1 : out.length = 1 := by
        rw [List.length_map] at e
        have z : V.int (out.length : Int) = V.int 1 := by
          by_cases hq : V.int (out.length : Int) = V.int 1
          · exact hq
          · exact absurd (by rw [decide_eq_false hq]; rfl) e
        have z := V.int.inj z
        omega
      obtain ⟨y, ey⟩ := List.length_eq_one_iff.mp h1
      subst ey
      exact ⟨.ref o, rfl, o, _, 0, .str y, rfl, rfl, SqL.of eo, rfl, q y rfl _ s1⟩
/-- the names of the code objects that one_of's table tells -/
def nmT : Nat → Nat → Str := fun _ _ => qCh
def spOneOf (T : Addr) : Sp := fun vs H Q _ => ∃ (l : Addr) (ys : List Str), vs = [.ref l] ∧ H l = some (.lst (ys.map V.str)) ∧ ys.length ≤ 24 ∧ TabN H T nmT ∧ ∀ H' f a, LamX.ExtN H H' → TabN H' T nmT → H a = none → MkA H' f ys a → Q (.ref f) H'
theorem TabN.upd {H : Hp} {T a : Addr} {o : HO} {nm : Nat → Nat → Str} (t : TabN H T nm) (n : H a = none) : TabN (upd H a o) T nm := t.ext fun b u e => by
  rw [upd_ne (ne_of_none e n)]
  exact e
theorem ok_one_of {f c T : Addr} {oc kV doc pm ct : Value} {an od : Option Addr} {osl : Array (Option Value)} {k : Nat}
    (lk : K.lookup f = some ⟨oc, od, .func (PySem.W.fnOf "one_of" "one_of" (defArgs st_one_of) (defBody st_one_of) (defScope st_one_of) .none kV doc pm an (.ref c) ct), osl⟩) (hcd : PySem.W.codeIn K (.ref c) "one_of" = true) (TB : TabB base mg c T) (m_list : mg "list" = none) :
    FnOk P w K mg base CX0 (k + 1) f (PySem.W.fnOf "one_of" "one_of" (defArgs st_one_of) (defBody st_one_of) (defScope st_one_of) .none kV doc pm an (.ref c) ct) ["words"] (spOneOf T) := by
  refine fn_ofC (y := "kept") (z := "chosen") (i := 2) (j := 1) lk hcd sc_one_of (fun vs H Q E h => ?_) rfl rfl (.inl rfl) rfl rfl (by decide) (by decide) (fun A outer s H vs Q E hr h => ?_)
  · obtain ⟨l, ys, rfl, _⟩ := h
    rfl
  · obtain ⟨l, ys, rfl, el, ny, tab, q⟩ := h
    refine ⟨_, _, ps_set (i := 1) sc_one_of.nd rfl (Or.inr rfl) (pe_callTy call_list_of (by rfl) m_list (by decide +kernel) (pa_cons (pv 0) pa_nil)),
      NdefX.ps_ndefMS (st := st_chosen) (T := [(T, nmT)]) (nm := nmT) (i := 2) rfl TB rfl (List.mem_singleton.mpr rfl) rfl (fun p hp _ => by rw [List.mem_singleton.mp hp]) (NdefX.ndef_free free_chosen) rfl rfl rfl sc_one_of.nd rfl (Or.inl rfl) (Or.inr rfl), ?_⟩
    refine ⟨.ref l, rfl, l, _, rfl, .inl (SqL.of el), fun a na => ?_⟩
    refine ⟨fun p hp => by rw [List.mem_singleton.mp hp]; exact TabN.upd tab na, fun g cd H1 ext _ tabs ng eg ec => ?_⟩
    refine ⟨g, a, rfl, rfl, fun cc hcc nc => ?_⟩
    have ea : H1 a = some (.lst (ys.map V.str)) := ext a _ upd_same (fun _ z => by cases z)
    have sm : Same H1 (upd H1 cc (CellO cc a)) := same_upd nc
    refine q _ g a (fun b o e n => ?_) (TabN.upd (tabs _ (List.mem_singleton.mpr rfl)) nc) na ?_
    · refine sm _ _ (ext b o ?_ n)
      rw [upd_ne (ne_of_none e na)]
      exact e
    · refine ⟨_, cc, ⟨_, cd, rfl⟩, ?_, ?_, sm _ _ eg, sm _ _ ec, upd_same, sm _ _ ea⟩
      · exact NdefX.clo_has (fun x hx e => ⟨cc, by rw [only_kept x hx e]; exact hcc⟩) kept_in hcc
      · intro x d e
        rcases cloFrom_mem (PySem.mem_of_lookup e) with z | ⟨z, _⟩
        · cases z
        · exact only_kept _ z rfl
end
end WB

set_option Elab.async false
set_option linter.all false
set_option maxRecDepth 100000
set_option maxHeartbeats 4000000
namespace WB
open PySem PySem.Spec PyProof.Rows L2 WG
open TL (tl)
/-! ### a call of a local name that holds one of several defs, within a try -/
def tCallLM {ι : Type} (n : Nat) (f : ι → Addr) (sp : ι → Sp) (E : L2.St → XK) (t : TA) : TE := fun σ H Q => ∃ i : ι, σ[n]? = some (some (.ref (f i))) ∧ t σ H fun vs H1 => sp i vs H1 Q (E σ)
theorem pe_callLM {ι : Type} {X : Cx} {CX : CXT} {k n : Nat} {f : ι → Addr} {fd : ι → FuncData} {ps : List Str} {sp : ι → Sp} {E : L2.St → XK} {nm : Str} {p pos : Pos} {e : Expr} {es : List Expr} {t : TA}
    (G : ∀ i, FnOk X.prog X.w X.K X.mg X.base CX k (f i) (fd i) ps (sp i)) (room : Room k X.A) (at_ : X.N[n]? = some nm) (vis : Vis X.env.scope nm) (kp : ∀ i, PySem.W.keepIn X.K (.ref (f i)) = true) (bnd : ∀ i, Binds X.K (fd i) ps []) (out : ∀ σ, PassesAt CX X σ (E σ)) (args : PA X (e :: es) t)
    (n1 : (nm == ("__debug__" : Str)) = false := by decide) (n2 : (nm == ("__classdict__" : Str)) = false := by decide)
    (s1 : starEach (e :: es) X.env = (false, eval e X.env) :: starEach es X.env := by rfl) (s2 : (backTo pos (starEach es X.env)).any (·.1) = false := by rfl) : PE X (.Call (.Name nm p) (e :: es) [] pos) (tCallLM n f sp E t) := by
  constructor
  intro pins st σ H want inv ask
  obtain ⟨i, hi, ask⟩ := ask
  exact (pe_callLS (G i) room at_ vis (kp i) (bnd i) out args n1 n2 s1 s2).run pins st σ H want inv ⟨hi, ask⟩
/-! ### repr of data -/
def rReprD (K : PySem.W.Frag) : List V → Hp → VK → Prop := fun xs H Q => ∃ (a : Addr) (d : PyData), xs = [.ref a] ∧ Dp K H (.ref a) d ∧ d.showable = true ∧ d.hasDict = false ∧ d.depth ≤ 8 ∧ d.shown.length ≤ sizeLine ∧ Q (.str d.shown) H
theorem call_reprD {X : Cx} (hg : X.A.guards = some []) (hu : X.A.units + 16 < cLine) : CallR X (.builtin "repr") (rReprD X.K) := by
  intro pins s σ H xs us Q I rels ask
  obtain ⟨a, d, rfl, hd, sh, nd, dp, len, q⟩ := ask
  obtain ⟨u, rfl, rel⟩ := vals1 rels
  cases rel
  obtain ⟨as, rd⟩ := Dp.reads I d (.ref a) (.ref a) hd rfl
  exact repr_of_reads' (h₀ := s.heap) rd sh (PyData.noDict_hsm nd) hg (by omega) (fun _ _ e => e) (fun h' u tk kept => ⟨.str d.shown, H, I.kept (t' := tk) kept, ⟨u, rfl⟩, q⟩) len
/-! ### rpartition -/
theorem mt_rpartition {X : Cx} : MtR X "str.rpartition" (fun x xs H Q => ∃ a b, x = .str a ∧ xs = [.str b] ∧ (b.length == 0) = false ∧ a.length ≤ sizeLine ∧
    ∀ p, H p = none → Q (.ref p) (upd H p (.tup [.str (Txt.rpartition a b).1, .str (Txt.rpartition a b).2.1, .str (Txt.rpartition a b).2.2]))) := by
  intro pins s σ H x xs v us Q I rx rs ask
  obtain ⟨a, b, rfl, rfl, hb, hz, h⟩ := ask
  obtain ⟨t, rfl⟩ := rx
  obtain ⟨u, rfl, ru⟩ := vals1 rs
  obtain ⟨tu, rfl⟩ := ru
  refine call_meets PySem.F.slot_str_rpartition (typeIs_str _ _ _) PySem.F.entry_str_rpartition (PySem.F.args_str_rpartition_2 _ _) (meets_str_rpartition a b t tu hb hz) ?_
  unfold Txt.rpartition at h
  revert h
  cases Builtin.Str.lastOccurrence a b 0 a.length with
  | none =>
    intro h
    exact laid_parts I h
  | some i =>
    intro h
    exact laid_parts I h
/-! ### texts between signs -/
theorem joinL_snoc (S : List Nat) : ∀ (ps : List (List Nat)) (p : List Nat), TL.joinL S (ps ++ [p]) = if ps = [] then p else TL.joinL S ps ++ (S ++ p)
  | [], p => rfl
  | [x], p => rfl
  | x :: y :: r, p => by
    rw [if_neg (by simp)]
    show x ++ (S ++ TL.joinL S ((y :: r) ++ [p])) = (x ++ (S ++ TL.joinL S (y :: r))) ++ (S ++ p)
    rw [joinL_snoc S (y :: r) p, if_neg (by simp)]
    simp [List.append_assoc]
/-- the texts between the signs c of z -/
structure Between (c : Nat) (z : Str) (ps : List Str) (b : Str) : Prop where
  all : TL.joinL [c] ((ps ++ [b]).map tl) = tl z
  free : ∀ p ∈ ps ++ [b], c ∉ tl p
theorem Between.split {c : Nat} {z : Str} {ps : List Str} {b : Str} (h : Between c z ps b) (hc : c < 256) : Txt.split z ⟨#[c]⟩ = ps ++ [b] := by
  have e : Txt.join ⟨#[c]⟩ (ps ++ [b]) = z := str_ext (by rw [TL.join_eq, TL.tl_join]; exact h.all)
  have k := TL.split_join (y := ⟨#[c]⟩) (s := c) (S := []) rfl (by simp [hc]) (parts := ps ++ [b]) (by simp) h.free
  rw [e] at k
  exact k
theorem rpart_at {z y : Str} {c : Nat} {A B : List Nat} (hy : tl y = [c]) (hz : tl z = A ++ c :: B) (hB : c ∉ B) : Txt.rpartition z y = (⟨A.toArray⟩, y, ⟨B.toArray⟩) := by
  have ly : y.length = 1 := by rw [TL.len_tl, hy]; rfl
  have lz : z.length = A.length + (B.length + 1) := by rw [TL.len_tl, hz, List.length_append, List.length_cons]
  have hyn : tl y ≠ [] := by rw [hy]; exact fun k => nomatch k
  have pre1 : ∀ i, StrLaws.At z y z.length i ↔ (tl z)[i]? = some c := by
    intro i
    rw [TL.at_iff hyn i, hy]
    cases e : (tl z).drop i with
    | nil =>
      have hn : (tl z)[i]? = none := List.getElem?_eq_none (by have := congrArg List.length e; rw [List.length_drop] at this; have : (tl z).length - i = 0 := this; omega)
      rw [hn]
      exact ⟨(fun k => by cases k), fun k => nomatch k⟩
    | cons d r =>
      have hd : (tl z)[i]? = some d := by
        have := congrArg List.head? e
        rw [List.head?_drop] at this
        exact this
      rw [hd]
      show (decide _ && true) = true ↔ _
      constructor
      · intro k
        have := of_decide_eq_true (Bool.and_eq_true_iff.mp k).1
        rw [this]
      · intro k
        rw [Option.some.inj k]
        simp
  have hA : (tl z)[A.length]? = some c := by
    rw [hz, List.getElem?_append_right (Nat.le_refl _), Nat.sub_self]
    rfl
  rcases StrLaws.last_spec z y with ⟨_, hn⟩ | ⟨i, e, hi, hn⟩
  · exact absurd ((pre1 _).mpr hA) (hn _)
  · have ei : i = A.length := by
      have hi2 := (pre1 i).mp hi
      by_cases h1 : i < A.length
      · exact absurd ((pre1 _).mpr hA) (hn _ h1)
      · by_cases h2 : i = A.length
        · exact h2
        · have h3 : (A ++ c :: B)[i]? = B[i - A.length - 1]? := by
            rw [List.getElem?_append_right (by omega), show i - A.length = (i - A.length - 1) + 1 by omega, List.getElem?_cons_succ]
            congr 1
          rw [hz, h3] at hi2
          exact absurd (List.mem_of_getElem? hi2) hB
    unfold Txt.rpartition
    rw [e, ei]
    have e1 : Builtin.Str.strSub z 0 A.length = ⟨A.toArray⟩ := str_ext (by rw [TL.tl_strSub, hz, List.drop_zero, Nat.sub_zero, List.take_left])
    have e2 : Builtin.Str.strSub z (A.length + y.length) z.length = ⟨B.toArray⟩ := str_ext (by
      rw [TL.tl_strSub_end, hz, ly, List.drop_append]
      simp)
    show (Builtin.Str.strSub z 0 A.length, y, Builtin.Str.strSub z (A.length + y.length) z.length) = _
    rw [e1, e2]
theorem rpart_no {z y : Str} {c : Nat} (hy : tl y = [c]) (hz : c ∉ tl z) : Txt.rpartition z y = (Str.empty, Str.empty, z) := by
  have hyn : tl y ≠ [] := by rw [hy]; exact fun k => nomatch k
  rcases StrLaws.last_spec z y with ⟨e, _⟩ | ⟨i, e, hi, hn⟩
  · unfold Txt.rpartition
    rw [e]
  · have k := (TL.at_iff hyn i).mp hi
    rw [hy] at k
    cases e2 : (tl z).drop i with
    | nil =>
      rw [e2] at k
      cases k
    | cons d r =>
      rw [e2] at k
      have k1 : (decide (d = c) && true) = true ∨ (decide (c = d) && true) = true := by
        first | exact .inl k | exact .inr k
      have hd : d ∈ tl z := List.mem_of_mem_drop (i := i) (by rw [e2]; exact List.mem_cons_self)
      rcases k1 with k1 | k1
      · have := of_decide_eq_true (Bool.and_eq_true_iff.mp k1).1
        exact absurd (by rw [← this]; exact hd) hz
      · have := of_decide_eq_true (Bool.and_eq_true_iff.mp k1).1
        exact absurd (by rw [this]; exact hd) hz
end WB

set_option Elab.async false
set_option linter.all false
set_option maxRecDepth 100000
set_option maxHeartbeats 4000000
namespace WB
open PySem PySem.Spec PyProof.Rows L2 WG
open NdefX (NF FnO NOk TabN)
open LamX (CodeO TabB ExtN)
open TL (tl)
abbrev st_made : Stmt := topS 16
theorem sc_made : FnScope ["_law_maker_here", "_law_word", "_law_told", "e"] ["_law_maker_here", "_law_word"] (defScope st_made) := ⟨rfl, rfl, rfl, by decide +kernel, rfl, by decide +kernel, by decide +kernel⟩
abbrev st_maker : Stmt := topS 17
theorem sc_maker : FnScope ["_law_names_here", "_law_handed", "_law_maker_here"] ["_law_names_here"] (defScope st_maker) := ⟨rfl, rfl, rfl, by decide +kernel, rfl, by decide +kernel, by decide +kernel⟩
def tSuite (K : PySem.W.Frag) (CU BE : Addr) : Addr → Value → Option Addr → TS := fun a cls d => tAsg (tTup (tCons (tC (.str (Str.ofString "unmade"))) (tCons (tCB (rIsi K) (tCons (tXf a cls d CU "why" (tVar 3)) (tCons (tC (.ty "str")) tNil))) (tCons (tCB (rIsD K a cls d) (tCons (tVar 3) (tCons (tC (.ty "ValueError")) tNil))) (tCons (tCB (rIsD K a cls d) (tCons (tVar 3) (tCons (tC (.ref BE)) tNil))) tNil))))) (gName 2)
/-- what is told where the words out are meant -/
def datM : List Str → PyData
  | [y] => .tuple [.str (Str.ofString "value"), .str y]
  | _ => .tuple [.str (Str.ofString "unmade"), .bool true, .bool true, .bool false]
theorem Mk.same {H H' : Hp} {f : Addr} {ys : List Str} (h : Mk H f ys) (s : Same H H') : Mk H' f ys := by
  obtain ⟨a, F, c, h1, h2, h3, h4, h5, h6, h7⟩ := h
  exact ⟨a, F, c, h1, h2, h3, s _ _ h4, s _ _ h5, s _ _ h6, s _ _ h7⟩
theorem Mk.ext {H H' : Hp} {f : Addr} {ys : List Str} (h : Mk H f ys) (s : ExtN H H') : Mk H' f ys := by
  obtain ⟨a, F, c, h1, h2, h3, h4, h5, h6, h7⟩ := h
  exact ⟨a, F, c, h1, h2, h3, s _ _ h4 (fun _ z => by cases z), s _ _ h5 (fun _ z => by cases z), s _ _ h6 (fun _ z => by cases z), s _ _ h7 (fun _ z => by cases z)⟩
theorem MkA.but {H H' : Hp} {f a o : Addr} {ys : List Str} {xs : List V} (h : MkA H f ys a) (b : But o H H') (e : H o = some (.lst xs)) (n : a ≠ o) : MkA H' f ys a := by
  obtain ⟨F, c, h1, h2, h3, h4, h5, h6, h7⟩ := h
  have ap : ∀ {x : Addr} {φ : Heap → Prop}, H x = some (.ext φ) → x ≠ o := fun {x φ} z y => by
    rw [y, e] at z
    cases z
  exact ⟨F, c, h1, h2, h3, b _ _ (ap h4) h4, b _ _ (ap h5) h5, b _ _ (ap h6) h6, b _ _ n h7⟩
theorem tab_but {H H' : Hp} {T o : Addr} {xs : List V} {nm : Nat → Nat → Str} (t : TabN H T nm) (b : But o H H') (e : H o = some (.lst xs)) : TabN H' T nm := by
  obtain ⟨ps, h1, h2, h3⟩ := t
  refine ⟨ps, b _ _ (fun z => by rw [z, e] at h1; cases h1) h1, h2, fun pos cv hc => ?_⟩
  obtain ⟨c, e1, e2⟩ := h3 pos cv hc
  exact ⟨c, e1, b _ _ (fun z => by rw [z, e] at e2; cases e2) e2⟩
section
variable {P : Program} {w : World} {K : PySem.W.Frag} {mg : Str → Option Value} {base : Heap}
def spLMade (K : PySem.W.Frag) : Sp := fun vs H Q _ => ∃ (g : Addr) (ys : List Str) (z : Str) (out : List Str), vs = [.ref g, .str z] ∧ Mk H g ys ∧ NmsOk ys ∧ Tq B8 14 z ∧ Means ys z out ∧ ∀ H' p, Same H H' → H p = none → Dp K H' (.ref p) (datM out) → Q (.ref p) H'
theorem ok_lmade {CU BE f fE : Addr} {fd fdE : FuncData} {k : Nat} (F : Fun K "_law_made" "_law_made" st_made f fd) (G_maker : ∀ f F, FSc F → NOk P w K mg base (L2.CX P w) k f F ["word"] [("kept" : Str)] (spCh CU))
    (TE : ErrT K mg "Unmade" CU fE fdE) (CT : CaughtT K CU BE) (gB : mg "BenchError" = some (.ref BE)) (m_isinstance : mg "isinstance" = none) (m_str : mg "str" = none) (m_ValueError : mg "ValueError" = none) :
    FnOk P w K mg base CX0 (k + 1) f fd ["_law_maker_here", "_law_word"] (spLMade K) := by
  refine F.ok sc_made (fun vs H Q E h => ?_) (fun cdv A outer s H vs Q E hr h => ?_)
  · obtain ⟨g, ys, z, out, rfl, _⟩ := h
    rfl
  · obtain ⟨g, ys, z, out, rfl, mk, ok, tz, mo, q⟩ := h
    refine ⟨_, PSs.nox (pss_cons (ps_set (i := 2) sc_made.nd rfl (.inl rfl) (pe_tup (pa_cons pe_str pa_nil)))
      (pss_cons (ps_try_as (i := 3) (tb := fun W => tAsg (tTup (tCons (tC (.str (Str.ofString "value"))) (tCons (tCallC ("kept" : Str) FSc 0 (spCh CU) (WE W) (tCons (tVar 1) tNil)) tNil))) (gName 2)) (ts := tSuite K CU BE) (Wout := fun _ _ _ _ => False) rfl rfl sc_made.nd rfl rfl ⟨rfl, by decide, Or.inl TE.g⟩ takes0
          (fun W pn xe tk _ => pss_one (ps_set (i := 2) sc_made.nd rfl (Or.inl rfl) (by exact (pe_tup (pa_cons pe_str (pa_cons (pe_callC (y := ("kept" : Str)) (FS := FSc) G_maker hr rfl (by first | exact .inl rfl | exact .inr (.inl rfl)) (fun σ => passAt tk σ) (by exact (pa_cons (pv 1) pa_nil))) pa_nil))))))
          (fun a oe cls d pn hz hf => pss_one (ps_set (i := 2) sc_made.nd rfl (Or.inl rfl) (by exact (pe_tup (pa_cons pe_str (pa_cons (pe_callB (id := "isinstance") (r := rIsi K) call_isi (by rfl) m_isinstance (by decide +kernel) (pa_cons (pe_xf CT.x TE.nf hz hf (pv 3)) (pa_cons (pe_bltn (v := .ty "str") (by rfl) m_str (by decide +kernel) rfl) pa_nil)))
            (pa_cons (pe_callB (call_isD hz hf) (by rfl) m_isinstance (by decide +kernel) (pa_cons (pv 3) (pa_cons (pe_bltn (v := .ty "ValueError") (by rfl) m_ValueError (by decide +kernel) rfl) pa_nil)))
            (pa_cons (pe_callB (call_isD hz hf) (by rfl) m_isinstance (by decide +kernel) (pa_cons (pv 3) (pa_cons (pe_glob (v := .ref BE) rfl gB rfl) pa_nil))) pa_nil)))))))))
      (pss_one (ps_ret (pv 2))))), ?_⟩
    refine ⟨by show 1 ≤ sizeLine; decide, fun t0 n0 => ?_⟩
    first | refine go n0 fun H1 s1 e1 => ?_ | refine goT n0 fun H1 s1 e1 => ?_
    obtain ⟨a, NFg, c, h1, h2, h3, h4, h5, h6, h7⟩ := mk.same s1
    have back : ∀ {H2 : Hp}, Same (del H1 c) H2 → Same H1 (upd H2 c (CellO c a)) := fun {H2} s2 b o e => by
      by_cases hb : b = c
      · subst hb
        rw [h6] at e
        rw [upd_same]
        exact e
      · rw [upd_ne hb]
        exact s2 b o (by rw [del_ne hb]; exact e)
    have nac : a ≠ c := fun z => by
      rw [z, h6] at h7
      cases h7
    refine ⟨g, NFg, c, a, rfl, h1, h2, h3, h4, .str z, rfl, h4, h5, h6, a, ys, z, rfl, rfl, by rw [del_ne nac]; exact h7, ok, tz, out, mo, fun y ey H2 s2 nc => ?_, fun ne y H2 d s2 nd ed nc => ⟨true, CT.e, fun _ a0 na0 => ?_, fun r => Bool.noConfusion r⟩⟩
    · have S2 := back s2
      refine ⟨by show 2 ≤ sizeLine; decide, fun p np => ?_⟩
      refine ⟨_, rfl, q _ p ((s1.trans S2).trans (same_upd np)) ((s1.trans S2).free np) ?_⟩
      rw [ey]
      exact .tup (SqT.of upd_same) (.cons (.str _) (.cons (.str _) .nil))
    · have S2 := back s2
      have ndc : d ≠ c := ne_of_none ed nc
      have ed2 : (upd H2 c (CellO c a)) d = some (.xd [(("why" : Str), .str y)]) := by
        rw [upd_ne ndc]
        exact ed
      refine ⟨.ref a0, rfl, rfl, rfl, d, _, .str y, rfl, ed2, why_look, .str y, _, _, _, true, rfl, ClsV.ty "str", TyX.base (TyOf.str _), kit_ty (by decide +kernel), ?_⟩
      refine ⟨.ref a0, rfl, CU, d, _, .ty "ValueError", .type "ValueError", true, rfl, rfl, ed2, CT.c, rfl, fun u hu => hu, CT.v, ?_⟩
      refine ⟨.ref a0, rfl, CU, d, _, .ref BE, .ref BE, false, rfl, rfl, ed2, CT.c, rfl, fun u hu => hu, CT.b, ?_⟩
      refine ⟨by show 4 ≤ sizeLine; decide, fun p np => ?_⟩
      refine ⟨_, rfl, q _ p ((s1.trans S2).trans (same_upd np)) ((s1.trans S2).free np) ?_⟩
      have ed : datM out = .tuple [.str (Str.ofString "unmade"), .bool true, .bool true, .bool false] := by
        unfold datM
        split
        · exact absurd rfl ne
        · rfl
      rw [ed]
      exact .tup (SqT.of upd_same) (.cons (.str _) (.cons (.bl _) (.cons (.bl _) (.cons (.bl _) .nil))))
/-! ### a def called with keywords alone -/
theorem pe_callK0 {X : Cx} {CX : CXT} {k : Nat} {f : Addr} {fd : FuncData} {ps ks : List Str} {sp : Sp} {E : XK} {x : Str} {p pos : Pos} {kws : List Keyword} {tk : TA} {g : List Value → List Value → List Value} {gV : List V → List V → List V}
    (G : FnOk X.prog X.w X.K X.mg X.base CX k f fd ps sp) (room : Room k X.A) (gl : Gl X x) (gm : X.mg x = some (.ref f)) (kp : PySem.W.keepIn X.K (.ref f) = true) (kb : KBinds X.K fd ps ks g gV) (out : Passes CX X E) (kw : PK X kws tk)
    (a1 : (backToKw pos (keywordEach kws X.env)).all (·.1.isSome) = true := by rfl) (a2 : (backToKw pos (keywordEach kws X.env)).filterMap (·.1) = ks := by rfl) (a3 : (x == ("__debug__" : Str)) = false := by decide)
    (a4 : ((backTo pos (starEach [] X.env)).any (·.1) || (backToKw pos (keywordEach kws X.env)).any (·.1.isNone)) = false := by rfl) : PE X (.Call (.Name x p) [] kws pos) (tCallK sp gV E tNil tk) := by
  constructor
  intro pins st σ H want inv ask
  refine wpAny_Call_Name_kw (ld_glob inv gl gm ?_ a3)
  refine PySem.W.callWith_KW0 (h₀ := X.base) inv.ok.mod.kin kp a1 (thn (kw.run pos pins st σ H _ inv ask) fun ws st2 ⟨zs, H2, inv2, rz, q2⟩ => ⟨inv2.kIn, ?_⟩) a4
  rw [a2]
  exact run_fnk (us := []) (vs := []) G room kb out inv2 .nil rz q2
theorem kb_words {K : PySem.W.Frag} {fd : FuncData} (h : ∀ (s : Shared) (u : Value), BindsTo s fd ⟨[u], []⟩ [(("words" : Str), u)]) (h2 : ∀ (s : Shared) (u : Value), BindsTo s fd ⟨[], [(("words" : Str), u)]⟩ [(("words" : Str), u)]) :
    KBinds K fd ["words"] ["words"] (fun us ws => us ++ ws) (fun vs zs => vs ++ zs) := by
  refine ⟨fun s us ws _ hl => ?_, fun r1 r2 => r1.append r2⟩
  cases us with
  | nil =>
    cases ws with
    | nil => cases hl
    | cons w r =>
      cases r with
      | nil => exact h2 s w
      | cons w2 r => cases hl
  | cons u r =>
    cases r with
    | cons u2 r =>
      exfalso
      simp at hl
    | nil =>
      cases ws with
      | nil => exact h s u
      | cons w r =>
        exfalso
        simp at hl
def spMaker (T : Addr) : Sp := fun vs H Q _ => ∃ (l : Addr) (ys : List Str), vs = [.ref l] ∧ H l = some (.lst (ys.map V.str)) ∧ NmsOk ys ∧ ys ≠ [] ∧ TabN H T nmT ∧ ∀ H' g, ExtN H H' → TabN H' T nmT → Mk H' g ys → Q (.ref g) H'
theorem ok_maker {f fO T : Addr} {fd fdO : FuncData} {k : Nat} (F : Fun K "_law_maker" "_law_maker" st_maker f fd) (G_one : FnOk P w K mg base CX0 k fO fdO ["words"] (spOneOf T)) (g_one : mg "one_of" = some (.ref fO)) (kp_one : PySem.W.keepIn K (.ref fO) = true)
    (kb_one : KBinds K fdO ["words"] ["words"] (fun us ws => us ++ ws) (fun vs zs => vs ++ zs)) (m_list : mg "list" = none) : FnOk P w K mg base CX0 (k + 1) f fd ["_law_names_here"] (spMaker T) := by
  refine F.ok sc_maker (fun vs H Q E h => ?_) (fun cdv A outer s H vs Q E hr h => ?_)
  · obtain ⟨l, ys, rfl, _⟩ := h
    rfl
  · obtain ⟨l, ys, rfl, el, ok, ne, tab, q⟩ := h
    refine ⟨_, pss_cons (ps_set (i := 1) sc_maker.nd rfl (.inl rfl) (pe_callTy call_list_of (by rfl) m_list (by decide +kernel) (pa_cons (pv 0) pa_nil)))
      (pss_cons (ps_set (i := 2) sc_maker.nd rfl (.inl rfl) (pe_callK0 G_one hr (by rfl) g_one kp_one kb_one pass0 (pk_cons (pv 1) pk_nil)))
      (pss_cons (ps_if (pt_cmpR (op_neD hr.units) (pv 1) (pv 0) (nomark _)) (pss_one (ps_ret pe_non)) pss_nil)
      (pss_cons (ps_expr (pe_bm0 PySem.F.plainAttrs_list PySem.F.slot_list_reverse PySem.F.type_list_reverse mt_reverse (pv 1)))
      (pss_cons (ps_expr (pe_bm PySem.F.plainAttrs_list PySem.F.slot_list_append PySem.F.type_list_append mt_append (pv 1) (pa_cons pe_str pa_nil)))
      (pss_cons (ps_expr (pe_bm PySem.F.plainAttrs_list PySem.F.slot_list_pop PySem.F.type_list_pop mt_popAt (pv 1) (pa_cons pe_int pa_nil)))
      (pss_one (ps_ret (pv 2)))))))), ?_⟩
    refine ⟨.ref l, rfl, l, _, rfl, .inl (SqL.of el), fun o no => ?_⟩
    have s1 : Same H (upd H o (.lst (ys.map V.str))) := same_upd no
    have eo : (upd H o (.lst (ys.map V.str))) o = some (.lst (ys.map V.str)) := upd_same
    have tab1 := TabN.upd (o := .lst (ys.map V.str)) tab no
    revert s1 eo tab1
    generalize upd H o (.lst (ys.map V.str)) = H1
    intro s1 eo tab1
    refine ⟨_, rfl, o, ys, rfl, eo, ok.1, tab1, fun H2 g a ext tab2 na mk => ?_⟩
    have el2 : H2 l = some (.lst (ys.map V.str)) := ext _ _ (s1 _ _ el) (fun _ z => by cases z)
    have eo2 : H2 o = some (.lst (ys.map V.str)) := ext _ _ eo (fun _ z => by cases z)
    have nao : a ≠ o := fun z => by
      rw [z, eo] at na
      cases na
    refine ⟨.ref o, rfl, .ref l, rfl, _, _, .lst (SqL.of eo2) (dp_strs _), .lst (SqL.of el2) (dp_strs _), shaped_strs _ ok.ok, shaped_strs _ ok.ok, _, rfl, ?_⟩
    rw [eqv_strs, decide_eq_true rfl]
    refine ⟨.ref o, rfl, .inl ⟨rfl, _, SqL.of eo2⟩, o, _, rfl, rfl, eo2, ?_⟩
    refine goU fun H3 b3 e3 => ?_
    refine ⟨.ref o, rfl, .inl ⟨rfl, _, SqL.of e3⟩, o, _, _, rfl, rfl, e3, by rw [List.length_reverse, List.length_map]; exact small1000 (by have := ok.1; omega), ?_⟩
    refine goU fun H4 b4 e4 => ?_
    obtain ⟨y, r, er⟩ : ∃ y r, (ys.map V.str).reverse ++ [V.str (Str.ofString "zzz")] = y :: r := by
      cases h : (ys.map V.str).reverse with
      | nil => exact ⟨_, [], rfl⟩
      | cons y r => exact ⟨y, r ++ [V.str (Str.ofString "zzz")], rfl⟩
    rw [er] at e4
    refine ⟨.ref o, rfl, .inl ⟨rfl, _, SqL.of e4⟩, o, _, 0, 0, y, rfl, rfl, e4, by decide, by decide, by simp [seqIndex?], rfl, ?_⟩
    refine goU fun H5 b5 e5 => ?_
    have b35 : But o H2 H5 := (b3.trans b4).trans b5
    refine ⟨_, rfl, q _ g (fun b u e n => ?_) (tab_but tab2 b35 eo2) ⟨a, mk.but b35 eo2 nao⟩⟩
    exact b35 _ _ (ne_of_none e no) (ext _ _ (s1 _ _ e) n)
end
end WB

set_option Elab.async false
set_option linter.all false
set_option maxRecDepth 100000
set_option maxHeartbeats 4000000
namespace WB
open PySem PySem.Spec PyProof.Rows L2 WG
open NdefX (TabN)
open LamX (TabB ExtN)
open TL (tl)
abbrev st_right : Stmt := topS 18
theorem sc_right : FnScope ["_law_maker_here", "_law_names_here", "_law_word", "_law_found", "_law_due"] ["_law_maker_here", "_law_names_here", "_law_word"] (defScope st_right) := ⟨rfl, rfl, rfl, by decide +kernel, rfl, by decide +kernel, by decide +kernel⟩
theorem Means.tq {ys : List Str} {b : Str} {out : List Str} (h : Means ys b out) (hy : NmsOk ys) (tb : Tq B8 14 b) : ∀ y ∈ out, Tq B8 14 y := by
  intro y hm
  unfold Means at h
  split at h
  · rw [h] at hm
    cases hm
  · split at h
    · rw [h] at hm
      rw [List.mem_singleton.mp hm]
      exact tb
    · exact (hy.2.1 y (List.mem_filter.mp (h.1.mem_iff.mp hm)).1).2.mono (by decide) (fun _ h => h)
structure Shows (x : PyData) : Prop where
  s : x.showable = true
  n : x.hasDict = false
  d : x.depth ≤ 8
  l : x.shown.length ≤ sizeLine
theorem shows_of {out : List Str} (h : ∀ y ∈ out, Tq B8 14 y) : Shows (datM out) := by
  unfold datM
  split
  · rename_i z
    have tz := h z List.mem_cons_self
    refine ⟨by simp [PyData.showable, PyData.showableAll], by simp [PyData.hasDict, PyData.hasDictAll], by simp [PyData.depth, PyData.depthAll], ?_⟩
    have e1 : PyData.shown (.tuple [.str (Str.ofString "value"), .str z]) = tupleText [reprText (Str.ofString "value"), reprText z] := by
      simp only [PyData.shown, PyData.shownAll]
    rw [e1]
    have l1 := tupleText_len_le [reprText (Str.ofString "value"), reprText z]
    have l3 := StrLaws.reprText_len z (fun c hc => Nat.lt_trans (tz.pl c hc) (by decide))
    have l4 : (reprText (Str.ofString "value")).length ≤ 60 := by decide +kernel
    have l5 : ([reprText (Str.ofString "value"), reprText z].map (·.length)).sum = (reprText (Str.ofString "value")).length + ((reprText z).length + 0) := rfl
    have l6 : [reprText (Str.ofString "value"), reprText z].length = 2 := rfl
    rw [l5, l6] at l1
    have : sizeLine = 16777216 := sizeLine_eq
    have := tz.le
    omega
  · exact ⟨by decide +kernel, by decide +kernel, by decide +kernel, by decide +kernel⟩
section
variable {P : Program} {w : World} {K : PySem.W.Frag} {mg : Str → Option Value} {base : Heap}
def spRight : Sp := fun vs H Q _ => ∃ (g l : Addr) (ys : List Str) (z : Str), vs = [.ref g, .ref l, .str z] ∧ Mk H g ys ∧ H l = some (.lst (ys.map V.str)) ∧ NmsOk ys ∧ Tq B8 14 z ∧ ∀ H', Same H H' → Q (.bl true) H'
theorem ok_right {f fL fW : Addr} {fd fdL fdW : FuncData} {k : Nat} (F : Fun K "_law_right" "_law_right" st_right f fd) (D_made : Df K mg "_law_made" st_made ["_law_maker_here", "_law_word"] fL fdL) (G_made : FnOk P w K mg base CX0 (k + 1) fL fdL ["_law_maker_here", "_law_word"] (spLMade K))
    (D_w_meant : Df K mg "_law_meant" st_w_meant ["_law_names_here", "_law_beginning_here"] fW fdW) (m_len : mg "len" = none) (m_sorted : mg "sorted" = none) (m_repr : mg "repr" = none) :
    GOk P w K mg base CX0 (k + 2) f fd ["_law_maker_here", "_law_names_here", "_law_word"] spRight := by
  have G_w_meant : FnOk P w K mg base CX0 (k + 1) fW fdW ["_law_names_here", "_law_beginning_here"] spLMeant := ok_lmeant D_w_meant.F m_len m_sorted
  refine gfun_ok F sc_right (fun vs H Q E h => ?_) (fun cdv A outer s H vs Q E hgd hr h => ?_)
  · obtain ⟨g, l, ys, z, rfl, _⟩ := h
    rfl
  · obtain ⟨g, l, ys, z, rfl, mk, el, ok, tz, q⟩ := h
    have hun : A.units + 3 + 16 < cLine := by
      have := hr.un
      have z : (A.deeper (envOfC "_law_right" (defScope st_right) s.heap.objs.size f cdv)).units = A.units + 3 := rfl
      omega
    refine ⟨_, PSs.nox (pss_cons (ps_set (i := 3) sc_right.nd rfl (.inl rfl) (pe_call G_w_meant hr (by rfl) D_w_meant.g D_w_meant.F.kp D_w_meant.b .nil pass0 (pa_cons (pv 1) (pa_cons (pv 2) pa_nil))))
      (pss_cons (ps_set (i := 4) sc_right.nd rfl (.inl rfl) (pe_tup (pa_cons pe_str (pa_cons pe_bl (pa_cons pe_bl (pa_cons pe_bl pa_nil))))))
      (pss_cons (ps_if (pt_cmpR op_eq (pe_callB call_len_seq (by rfl) m_len PySem.boot_len (pa_cons (pv 3) pa_nil)) pe_int (nomark _)) (pss_one (ps_set (i := 4) sc_right.nd rfl (.inl rfl) (pe_tup (pa_cons pe_str (pa_cons (pe_ix ix_list (pv 3) pe_int (fun _ _ => rfl)) pa_nil))))) pss_nil)
      (pss_one (ps_ret (pe_cmpR op_eq (pe_callB (call_reprD hgd hun) (by rfl) m_repr (by decide +kernel) (pa_cons (pe_call G_made hr (by rfl) D_made.g D_made.F.kp D_made.b .nil pass0 (pa_cons (pv 0) (pa_cons (pv 2) pa_nil))) pa_nil)) (pe_callB (call_reprD hgd hun) (by rfl) m_repr (by decide +kernel) (pa_cons (pv 4) pa_nil)) (nomark _))))))), ?_⟩
    refine ⟨.ref l, rfl, .str z, rfl, l, ys, z, rfl, el, ok, tz, fun H1 o out s1 no eo mo => ?_⟩
    have sh := shows_of (mo.tq ok tz)
    refine ⟨by show 4 ≤ sizeLine; decide, fun d nd => ?_⟩
    first | refine go nd fun H2 s2 e2 => ?_ | refine goT nd fun H2 s2 e2 => ?_
    dsimp only [tSeq, tAsg, tC, gName]
    refine ts_gen (t := tIfS _ _ _) (fun σ' H' => Same H2 H' ∧ ∃ dd, σ' = [some (.ref g), some (.ref l), some (.str z), some (.ref o), some (.ref dd)] ∧ ∀ H5, Same H' H5 → Dp K H5 (.ref dd) (datM out)) (fun κ kc => ?_) ?_
    · refine ⟨.ref o, rfl, o, _, rfl, .inl (SqL.of (s2 _ _ eo)), rfl, _, rfl, ite2 (fun e => ?_) (fun e => ?_)⟩
      · have h1 : out.length = 1 := by
          rw [List.length_map] at e
          have := V.int.inj (of_decide_eq_true e)
          omega
        obtain ⟨y, ey⟩ := List.length_eq_one_iff.mp h1
        subst ey
        refine ⟨.ref o, rfl, o, _, 0, .str y, rfl, rfl, SqL.of (s2 _ _ eo), rfl, by show 2 ≤ sizeLine; decide, fun d2 nd2 => ?_⟩
        refine kc _ _ ⟨same_upd nd2, d2, rfl, fun H5 s5 => ?_⟩
        exact .tup (SqT.of (s5 _ _ upd_same)) (.cons (.str _) (.cons (.str _) .nil))
      · have ed : datM out = .tuple [.str (Str.ofString "unmade"), .bool true, .bool true, .bool false] := by
          unfold datM
          split
          · exact absurd (by rw [List.map_cons, List.length_cons]; exact decide_eq_true rfl) e
          · rfl
        refine kc _ _ ⟨Same.refl _, d, rfl, fun H5 s5 => ?_⟩
        rw [ed]
        exact .tup (SqT.of (s5 _ _ e2)) (.cons (.str _) (.cons (.bl _) (.cons (.bl _) (.cons (.bl _) .nil))))
    · rintro σ' H3 ⟨s3, dd, rfl, dpd⟩
      have S3 := (s1.trans s2).trans s3
      refine ⟨.ref g, rfl, .str z, rfl, g, ys, z, out, rfl, mk.same S3, ok, tz, mo, fun H4 p s4 np dp => ?_⟩
      refine ⟨p, _, rfl, dp, sh.s, sh.n, sh.d, sh.l, ?_⟩
      refine ⟨.ref dd, rfl, dd, _, rfl, dpd _ s4, sh.s, sh.n, sh.d, sh.l, rfl, ?_⟩
      rw [decide_eq_true rfl]
      exact q _ (S3.trans s4)
end
end WB

set_option Elab.async false
set_option linter.all false
set_option maxRecDepth 100000
set_option maxHeartbeats 4000000
namespace WB
open PySem PySem.Spec PyProof.Rows L2 WG
open NdefX (TabN)
open LamX (TabB ExtN)
open TL (tl)
abbrev st_law : Stmt := topS 19
theorem sc_law : FnScope ["_law_script", "_law_elder", "_law_before", "_law_k", "_law_pot_here", "_law_names_here", "_law_maker_here", "_law_turn", "_law_word"] ["_law_script"] (defScope st_law) := ⟨rfl, rfl, rfl, by decide +kernel, rfl, by decide +kernel, by decide +kernel⟩
theorem sq_ext {K : PySem.W.Frag} {H H' : Hp} {a : Addr} {xs : List V} (h : SqL K H a xs) (s : ExtN H H') : SqL K H' a xs := by
  rcases h with h | h
  · rcases h with h | ⟨o, h⟩
    · exact .inl (.inl (s _ _ h (fun _ z => by cases z)))
    · exact .inl (.inr ⟨o, s _ _ h (fun _ z => by cases z)⟩)
  · exact .inr h
theorem sq_but {K : PySem.W.Frag} {H H' : Hp} {a p : Addr} {xs : List V} (h : SqL K H a xs) (b : But p H H') (n : a ≠ p) : SqL K H' a xs := by
  rcases h with h | h
  · rcases h with h | ⟨o, h⟩
    · exact .inl (.inl (b _ _ n h))
    · exact .inl (.inr ⟨o, b _ _ n h⟩)
  · exact .inr h
theorem Mk.pot {H H' : Hp} {f p : Addr} {ys : List Str} (h : Mk H f ys) (pt : Pot H p) (b : But p H H') : Mk H' f ys := by
  obtain ⟨a, m⟩ := h
  obtain ⟨i, j, e, _⟩ := pt
  refine ⟨a, m.but b e fun z => ?_⟩
  obtain ⟨F, c, _, _, _, _, _, _, h7⟩ := m
  rw [z, e] at h7
  have h8 := HO.lst.inj (Option.some.inj h7)
  cases ys with
  | nil => cases h8
  | cons y r =>
    rw [List.map_cons] at h8
    cases (List.cons.inj h8).1
theorem Pot.ext {H H' : Hp} {p : Addr} (h : Pot H p) (s : ExtN H H') : Pot H' p := by
  obtain ⟨i, j, e, r⟩ := h
  exact ⟨i, j, s _ _ e (fun _ z => by cases z), r⟩
def ys0 : List Str := [Str.ofString "a", Str.ofString "ab"]
theorem ys0_ok : NmsOk ys0 := by
  have h : ∀ y ∈ ys0, 0 < y.length ∧ y.length ≤ 13 ∧ ∀ c ∈ tl y, c < 256 := by decide +kernel
  exact ⟨by decide, fun y hy => ⟨(h y hy).1, (h y hy).2.1, (h y hy).2.2⟩, by decide +kernel⟩
def ys1 : List Str := [Str.ofString "zz"]
theorem ys1_ok : NmsOk ys1 := by
  have h : ∀ y ∈ ys1, 0 < y.length ∧ y.length ≤ 13 ∧ ∀ c ∈ tl y, c < 256 := by decide +kernel
  exact ⟨by decide, fun y hy => ⟨(h y hy).1, (h y hy).2.1, (h y hy).2.2⟩, by decide +kernel⟩
section
variable {P : Program} {w : World} {K : PySem.W.Frag} {mg : Str → Option Value} {base : Heap}
def spLaw (K : PySem.W.Frag) (T : Addr) : Sp := fun vs H Q _ => ∃ (a : Addr) (ns : List Int), vs = [.ref a] ∧ H T = some (.tbl #[]) ∧ SqL K H a (ns.map V.int) ∧ ns.length ≤ 63 ∧ ∀ H', Q (.bl true) H'
theorem ok_law {f fC fP fD fS fT fN fB fR fM T : Addr} {fd fdC fdP fdD fdS fdT fdN fdB fdR fdM : FuncData} {k : Nat} (F : Fun K "law" "law" st_law f fd)
    (D_cell : Df K mg "_law_cell" sCell ["_law_script", "_law_k"] fC fdC) (D_pot : Df K mg "_law_pot" sPot ["_law_script", "_law_k"] fP fdP) (D_draw : Df K mg "_law_draw" sDraw ["_law_pot_here", "_law_many"] fD fdD)
    (D_signs : Df K mg "_law_signs" sSigns [] fS fdS) (D_text : Df K mg "_law_text" sText ["_law_pot_here", "_law_most", "_law_signs_here"] fT fdT) (D_names : Df K mg "_law_names" st_names ["_law_pot_here", "_law_most"] fN fdN)
    (D_beginning : Df K mg "_law_beginning" st_beginning ["_law_pot_here", "_law_names_here"] fB fdB) (D_right : Df K mg "_law_right" st_right ["_law_maker_here", "_law_names_here", "_law_word"] fR fdR) (G_right : GOk P w K mg base CX0 (k + 3) fR fdR ["_law_maker_here", "_law_names_here", "_law_word"] spRight)
    (D_maker : Df K mg "_law_maker" st_maker ["_law_names_here"] fM fdM) (G_maker : FnOk P w K mg base CX0 (k + 3) fM fdM ["_law_names_here"] (spMaker T))
    (m_len : mg "len" = none) (m_max : mg "max" = none) (m_min : mg "min" = none) (m_divmod : mg "divmod" = none) (m_range : mg "range" = none) :
    GOk P w K mg base CX0 (k + 4) f fd ["_law_script"] (spLaw K T) := by
  have G_pot : FnOk P w K mg base CX0 (k + 3) fP fdP ["_law_script", "_law_k"] (spPot K) := ok_pot D_pot.F D_cell m_len m_max
  have G_names : FnOk P w K mg base CX0 (k + 3) fN fdN ["_law_pot_here", "_law_most"] spNames := ok_names D_names.F D_draw D_signs D_text m_divmod m_len m_range
  have G_beginning : FnOk P w K mg base CX0 (k + 3) fB fdB ["_law_pot_here", "_law_names_here"] spBeg := ok_beginning D_beginning.F D_draw D_text m_divmod m_len m_range
  refine gfun_ok F sc_law (fun vs H Q E h => ?_) (fun cdv A outer s H vs Q E hgd hr h => ?_)
  · obtain ⟨a, ns, rfl, _⟩ := h
    rfl
  · obtain ⟨a, ns, rfl, hT, hS, hlen, q⟩ := h
    refine ⟨_, PSs.nox (pss_cons (ps_set (i := 1) sc_law.nd rfl (.inl rfl) (pe_lst (pa_cons pe_str (pa_cons pe_str pa_nil))))
      (pss_cons (ps_set (i := 2) sc_law.nd rfl (.inl rfl) (pe_call G_maker hr (by rfl) D_maker.g D_maker.F.kp D_maker.b .nil pass0 (pa_cons (pv 1) pa_nil)))
      (pss_cons (ps_for PassesOwn.never rfl (pi_range1 rfl m_range (pa_cons (pe_callB (call_max2 rfl) (by rfl) m_max (by decide +kernel) (pa_cons pe_int (pa_cons (pe_callB (call_min2 rfl) (by rfl) m_min (by decide +kernel) (pa_cons (pe_callB call_len_seq (by rfl) m_len PySem.boot_len (pa_cons (pv 0) pa_nil)) (pa_cons pe_int pa_nil))) pa_nil))) pa_nil)) (pg_name (i := 3) sc_law.nd rfl (Or.inl rfl)) (pss_cons (ps_set (i := 4) sc_law.nd rfl (.inl rfl) (pe_call G_pot hr (by rfl) D_pot.g D_pot.F.kp D_pot.b .nil pass0 (pa_cons (pv 0) (pa_cons (pv 3) pa_nil))))
      (pss_cons (ps_set (i := 5) sc_law.nd rfl (.inl rfl) (pe_call G_names hr (by rfl) D_names.g D_names.F.kp D_names.b .nil pass0 (pa_cons (pv 4) (pa_cons pe_int pa_nil))))
      (pss_cons (ps_if (pt_cmpR (op_eqD hr.units) (pv 5) (pe_lst pa_nil) (nomark _)) (pss_one (ps_set (i := 5) sc_law.nd rfl (.inl rfl) (pe_lst (pa_cons pe_str pa_nil)))) pss_nil)
      (pss_cons (ps_set (i := 6) sc_law.nd rfl (.inl rfl) (pe_call G_maker hr (by rfl) D_maker.g D_maker.F.kp D_maker.b .nil pass0 (pa_cons (pv 5) pa_nil)))
      (pss_cons (ps_if (PW.pt (pw_or (pt_cmpR op_isN (pv 6) pe_non (nomark _)) (pw_or1 (pt_cmpR op_isN (pv 2) pe_non (nomark _))))) (pss_one (ps_ret pe_bl)) pss_nil)
      (pss_cons (ps_for PassesOwn.never rfl (pi_range1 rfl m_range (pa_cons pe_int pa_nil)) (pg_name (i := 7) sc_law.nd rfl (Or.inl rfl)) (pss_cons (ps_set (i := 8) sc_law.nd rfl (.inl rfl) (pe_call G_beginning hr (by rfl) D_beginning.g D_beginning.F.kp D_beginning.b .nil pass0 (pa_cons (pv 4) (pa_cons (pe_ix ix_list (pe_lst (pa_cons (pv 5) (pa_cons (pv 1) pa_nil))) (pe_op op_mod (pv 7) pe_int) (fun _ _ => rfl)) pa_nil))))
      (pss_one (ps_if (PW.pt (pw_or (pt_not (pt_val (pe_callG G_right hgd hr (by rfl) D_right.g D_right.F.kp D_right.b pass0 (pa_cons (pv 6) (pa_cons (pv 5) (pa_cons (pv 8) pa_nil)))))) (pw_or1 (pt_not (pt_val (pe_callG G_right hgd hr (by rfl) D_right.g D_right.F.kp D_right.b pass0 (pa_cons (pv 2) (pa_cons (pv 1) (pa_cons (pv 8) pa_nil))))))))) (pss_one (ps_ret pe_bl)) pss_nil))))
      (pss_one (ps_par (i := 1) (j := 2) rfl sc_law.nd rfl rfl (by decide) rfl rfl (pa_cons (pv 5) (pa_cons (pv 6) pa_nil)) rfl)))))))))
      (pss_one (ps_ret pe_bl))))), ?_⟩
    refine ⟨by show 2 ≤ sizeLine; decide, fun l0 n0 => ?_⟩
    have s1' : Same H (upd H l0 (.lst [V.str (Str.ofString "a"), V.str (Str.ofString "ab")])) := same_upd n0
    have e1' : (upd H l0 (.lst [V.str (Str.ofString "a"), V.str (Str.ofString "ab")])) l0 = some (.lst (ys0.map V.str)) := upd_same
    revert s1' e1'
    generalize upd H l0 (.lst [V.str (Str.ofString "a"), V.str (Str.ofString "ab")]) = H1
    intro s1 e1
    have tab1 : TabN H1 T nmT := (NdefX.TabN.nil hT).ext s1
    refine ⟨.ref l0, rfl, l0, ys0, rfl, e1, ys0_ok, by decide +kernel, tab1, fun H2 g0 ext tab2 mk0 => ?_⟩
    have hS2 := sq_ext (s1.seq hS) ext
    have e2 : H2 l0 = some (.lst (ys0.map V.str)) := ext _ _ e1 (fun _ z => by cases z)
    refine ⟨.ref a, rfl, a, _, rfl, .inl hS2, _, 8, rfl, 1, _, rfl, _, rfl, ?_, ?_, for_range (lo := 0) (n := _) (fun i σ H' => SqL K H' a (ns.map V.int) ∧ TabN H' T nmT ∧ ∃ le ys gb x3 x4 x5 x6 x7 x8, H' le = some (.lst (ys.map V.str)) ∧ NmsOk ys ∧ ys ≠ [] ∧ Mk H' gb ys ∧ σ = [some (.ref a), some (.ref le), some (.ref gb), x3, x4, x5, x6, x7, x8])
      ⟨hS2, tab2, l0, ys0, g0, none, none, none, none, none, none, e2, ys0_ok, by decide +kernel, mk0, rfl⟩ ?_ ?_⟩
    · split <;> split <;> omega
    · split <;> split <;> omega
    · rintro i σ H3 hi ⟨hS3, tab3, le, ys, gb, x3, x4, x5, x6, x7, x8, ele3, oke, nee, mke3, rfl⟩
      refine ⟨.ref a, rfl, .int (0 + (i : Int)), rfl, a, ns, _, rfl, hS3, by omega, fun H4 p s4 np p4 => ?_⟩
      refine ⟨.ref p, rfl, p, 12, rfl, p4, by decide, by decide, fun H5 l zs b5 p5 nl nlp el5 hl hzs hnd => ?_⟩
      have okl : NmsOk zs := ⟨by omega, hzs, hnd⟩
      have S5 : Same H3 H5 := fun b o e => b5 b o (ne_of_none e np) (s4 b o e)
      have hS5 := S5.seq hS3
      have tab5 : TabN H5 T nmT := tab3.ext S5
      have ele5 := S5 _ _ ele3
      have mke5 := mke3.same S5
      have nlep : le ≠ p := ne_of_none ele3 np
      dsimp only [tSeq, tAsg, tC, gName]
      refine ts_gen (t := tIfS _ _ _) (fun σ' H' => SqL K H' a (ns.map V.int) ∧ TabN H' T nmT ∧ H' le = some (.lst (ys.map V.str)) ∧ Mk H' gb ys ∧ Pot H' p ∧ ∃ lx zx, lx ≠ p ∧ H' lx = some (.lst (zx.map V.str)) ∧ NmsOk zx ∧ zx ≠ [] ∧ σ' = [some (.ref a), some (.ref le), some (.ref gb), some (.int (0 + (i : Int))), some (.ref p), some (.ref lx), x6, x7, x8]) (fun κ kc => ?_) ?_
      · refine ⟨.ref l, rfl, Nat.zero_le _, fun o no => ?_⟩
        have S6 : Same H5 (upd H5 o (.lst ([] : List V))) := same_upd no
        have e6 : (upd H5 o (.lst ([] : List V))) o = some (.lst (([] : List Str).map V.str)) := upd_same
        revert S6 e6
        generalize upd H5 o (.lst ([] : List V)) = H6
        intro S6 e6
        refine ⟨_, _, .lst (SqL.of (S6 _ _ el5)) (dp_strs _), .lst (SqL.of e6) (dp_strs _), shaped_strs _ okl.ok, shaped_strs _ (fun y hy => by cases hy), _, rfl, ?_⟩
        rw [eqv_strs]
        refine ite2 (fun e => ?_) (fun e => ?_)
        · refine ⟨by show 1 ≤ sizeLine; decide, fun o2 no2 => ?_⟩
          have S7 : Same H6 (upd H6 o2 (.lst [V.str (Str.ofString "zz")])) := same_upd no2
          have e7 : (upd H6 o2 (.lst [V.str (Str.ofString "zz")])) o2 = some (.lst (ys1.map V.str)) := upd_same
          revert S7 e7
          generalize upd H6 o2 (.lst [V.str (Str.ofString "zz")]) = H7
          intro S7 e7
          have S57 := S6.trans S7
          exact kc _ _ ⟨S57.seq hS5, tab5.ext S57, S57 _ _ ele5, mke5.same S57, p5.same S57, o2, ys1, ((p5.same S6).ne no2).symm, e7, ys1_ok, by decide +kernel, rfl⟩
        · have nz : zs ≠ [] := fun z => e (decide_eq_true z)
          exact kc _ _ ⟨S6.seq hS5, tab5.ext S6, S6 _ _ ele5, mke5.same S6, p5.same S6, l, zs, nlp, S6 _ _ el5, okl, nz, rfl⟩
      · rintro σ' H6 ⟨hS6, tab6, ele6, mke6, p6, lx, zx, nlx, elx6, okx, nex, rfl⟩
        refine ⟨.ref lx, rfl, lx, zx, rfl, elx6, okx, nex, tab6, fun H7 gm ext tab7 mkm => ?_⟩
        have hS7 := sq_ext hS6 ext
        have ele7 : H7 le = _ := ext _ _ ele6 (fun _ z => by cases z)
        have elx7 : H7 lx = _ := ext _ _ elx6 (fun _ z => by cases z)
        have mke7 := mke6.ext ext
        have p7 := p6.ext ext
        have hA : ∀ {Ha Hb : Hp}, But p Ha Hb → SqL K Ha a (ns.map V.int) → SqL K Hb a (ns.map V.int) := by
          rcases hS3 with h | h
          · have n : a ≠ p := by
              rcases h with h | ⟨_, h⟩
              · exact ne_of_none h np
              · exact ne_of_none h np
            exact fun {_ _} b h => sq_but h b n
          · exact fun {_ _} _ _ => .inr h
        refine ⟨.ref gm, rfl, rfl, _, rfl, ?_⟩
        rw [decide_eq_false (show ¬ V.ref gm = V.non from fun z => by cases z)]
        refine ⟨.ref gb, rfl, rfl, _, rfl, ?_⟩
        rw [decide_eq_false (show ¬ V.ref gb = V.non from fun z => by cases z)]
        refine ⟨8, rfl, by decide, by decide, for_range (lo := 0) (n := 8) (fun j σ H' => SqL K H' a (ns.map V.int) ∧ TabN H' T nmT ∧ H' le = some (.lst (ys.map V.str)) ∧ Mk H' gb ys ∧ Pot H' p ∧ H' lx = some (.lst (zx.map V.str)) ∧ Mk H' gm zx ∧ ∃ y7 y8, σ = [some (.ref a), some (.ref le), some (.ref gb), some (.int (0 + (i : Int))), some (.ref p), some (.ref lx), some (.ref gm), y7, y8])
          ⟨hS7, tab7, ele7, mke7, p7, elx7, mkm, x7, x8, rfl⟩ ?_ ?_⟩
        · rintro j σ H8 hj ⟨hS8, tab8, ele8, mke8, p8, elx8, mkm8, y7, y8, rfl⟩
          refine ⟨.ref p, rfl, .ref lx, rfl, .ref le, rfl, by show 2 ≤ sizeLine; decide, fun L nL => ?_⟩
          have S9 : Same H8 (upd H8 L (.lst [V.ref lx, V.ref le])) := same_upd nL
          have e9 : (upd H8 L (.lst [V.ref lx, V.ref le])) L = some (.lst [V.ref lx, V.ref le]) := upd_same
          revert S9 e9
          generalize upd H8 L (.lst [V.ref lx, V.ref le]) = H9
          intro S9 e9
          obtain ⟨lw, zw, ew, elw, okw, nlw⟩ : ∃ lw zw, atI [V.ref lx, V.ref le] ((0 + (j : Int)) % 2) = some (.ref lw) ∧ H9 lw = some (.lst (zw.map V.str)) ∧ NmsOk zw ∧ lw ≠ p := by
            have h2 : (0 + (j : Int)) % 2 = 0 ∨ (0 + (j : Int)) % 2 = 1 := by omega
            rcases h2 with h2 | h2
            · exact ⟨lx, zx, by rw [h2]; rfl, S9 _ _ elx8, okx, nlx⟩
            · exact ⟨le, ys, by rw [h2]; rfl, S9 _ _ ele8, oke, nlep⟩
          have p9 := p8.same S9
          refine ⟨_, rfl, _, 2, rfl, rfl, (by show (0 : Int) < 2; decide), L, _, _, _, rfl, rfl, SqL.of e9, ew, p, lw, zw, rfl, p9, nlw, elw, okw, fun H10 y b10 p10 ty => ?_⟩
          have mkm10 := (mkm8.same S9).pot p9 b10
          have mke10 := (mke8.same S9).pot p9 b10
          have elx10 := b10 _ _ nlx (S9 _ _ elx8)
          have ele10 := b10 _ _ nlep (S9 _ _ ele8)
          have hS10 := hA b10 (S9.seq hS8)
          have tab10 : TabN H10 T nmT := by
            obtain ⟨_, _, e, _⟩ := p9
            exact tab_but (tab8.ext S9) b10 e
          refine ⟨.ref gm, rfl, .ref lx, rfl, .str y, rfl, gm, lx, zx, y, rfl, mkm10, elx10, okx, ty, fun H11 s11 => ⟨_, rfl, ?_⟩⟩
          refine ⟨.ref gb, rfl, .ref le, rfl, .str y, rfl, gb, le, ys, y, rfl, mke10.same s11, s11 _ _ ele10, oke, ty, fun H12 s12 => ⟨_, rfl, ?_⟩⟩
          have S := s11.trans s12
          exact ⟨S.seq hS10, tab10.ext S, S _ _ ele10, mke10.same S, p10.same S, S _ _ elx10, mkm10.same S, _, _, rfl⟩
        · rintro σ H8 ⟨hS8, tab8, ele8, mke8, p8, elx8, mkm8, y7, y8, rfl⟩
          exact ⟨.ref lx, rfl, .ref gm, rfl, .ref lx, .ref gm, rfl, hS8, tab8, lx, zx, gm, _, _, _, _, _, _, elx8, okx, nex, mkm8, rfl⟩
    · rintro σ H3 ⟨_, _, le, ys, gb, x3, x4, x5, x6, x7, x8, _, _, _, _, rfl⟩
      exact q _
end
end WB

set_option Elab.async false
set_option linter.all false
set_option maxRecDepth 100000
set_option maxHeartbeats 4000000
namespace WB
open PySem PySem.Spec PyProof.Rows L2 WG
open TL (tl)
theorem df_mk {K : PySem.W.Frag} {h : Heap} {mg : Str → Option Value} {x : Str} {st : Stmt} {ps : List Str} {f : Addr} {oc : Value} {od an : Option Addr} {osl : Array (Option Value)} {kV doc pm cdv ct : Value} (X : K.In h) (G : h.Ns mainGlobals mg)
    (a : PySem.W.nsIn K mainGlobals x = some (some (.ref f))) (l : K.lookup f = some ⟨oc, od, .func (PySem.W.fnOf x x (defArgs st) (defBody st) (defScope st) .none kV doc pm an cdv ct), osl⟩)
    (c : PySem.W.codeIn K cdv x = true) (k : PySem.W.keepIn K (.ref f) = true)
    (b : ∀ (kV doc pm : Value) (an : Option Addr) (cdv ct : Value) (us : List Value), us.length = ps.length → bindArgs (PySem.W.fnOf x x (defArgs st) (defBody st) (defScope st) .none kV doc pm an cdv ct) ⟨us, []⟩ = pure (ps.zip us)) :
    Df K mg x st ps f (PySem.W.fnOf x x (defArgs st) (defBody st) (defScope st) .none kV doc pm an cdv ct) := by
  have F := fun_mk (st := st) l c k
  exact ⟨F, F.binds b, PySem.W.mg_of X G a⟩
theorem all_mk {l : PySem.W.OpenLaw} {w : World} {K : PySem.W.Frag} {h : Heap} {mg : Str → Option Value} {fa T : Addr} (X : K.In h) (G : h.Ns mainGlobals mg) (hfa : mg "law" = some (.ref fa))
    {fCell : Addr} {odCell anCell : Option Addr} {slCell : Array (Option Value)} {ocCell kVCell dcCell pmCell cdCell ctCell : Value} {fPot : Addr} {odPot anPot : Option Addr} {slPot : Array (Option Value)} {ocPot kVPot dcPot pmPot cdPot ctPot : Value} {fDraw : Addr} {odDraw anDraw : Option Addr} {slDraw : Array (Option Value)} {ocDraw kVDraw dcDraw pmDraw cdDraw ctDraw : Value} {fSigns : Addr} {odSigns anSigns : Option Addr} {slSigns : Array (Option Value)} {ocSigns kVSigns dcSigns pmSigns cdSigns ctSigns : Value} {fText : Addr} {odText anText : Option Addr} {slText : Array (Option Value)} {ocText kVText dcText pmText cdText ctText : Value} {fNames : Addr} {odNames anNames : Option Addr} {slNames : Array (Option Value)} {ocNames kVNames dcNames pmNames cdNames ctNames : Value} {fBeg : Addr} {odBeg anBeg : Option Addr} {slBeg : Array (Option Value)} {ocBeg kVBeg dcBeg pmBeg cdBeg ctBeg : Value} {fWMeant : Addr} {odWMeant anWMeant : Option Addr} {slWMeant : Array (Option Value)} {ocWMeant kVWMeant dcWMeant pmWMeant cdWMeant ctWMeant : Value} {fLMade : Addr} {odLMade anLMade : Option Addr} {slLMade : Array (Option Value)} {ocLMade kVLMade dcLMade pmLMade cdLMade ctLMade : Value} {fMaker : Addr} {odMaker anMaker : Option Addr} {slMaker : Array (Option Value)} {ocMaker kVMaker dcMaker pmMaker cdMaker ctMaker : Value} {fRight : Addr} {odRight anRight : Option Addr} {slRight : Array (Option Value)} {ocRight kVRight dcRight pmRight cdRight ctRight : Value} {fMeant : Addr} {odMeant anMeant : Option Addr} {slMeant : Array (Option Value)} {ocMeant kVMeant dcMeant pmMeant cdMeant ctMeant : Value} {CU BE : Addr} {nmU qU : Str} {NU : Addr} {bsU : List Value} {snU : List Str} {subU : List Value} {abU : Bool} {colU : Option Bool} {ddU : Option Addr} {m0 m1 m2 m3 m5 : Option Value} {TD : Addr} {odTD : Option Addr} {ocTD : Value} {tTD : Tok} {nTD : Nat} {slTD : Array (Option Value)} {fE : Addr} {odE anE : Option Addr} {slE : Array (Option Value)} {ocE kVE dcE pmE cdE ctE : Value} {fOne cO : Addr} {odOne anOne : Option Addr} {slOne : Array (Option Value)} {ocOne kVOne dcOne pmOne ctOne : Value} {fLaw : Addr} {odLaw anLaw : Option Addr} {slLaw : Array (Option Value)} {ocLaw kVLaw dcLaw pmLaw cdLaw ctLaw : Value}
    (aCell : PySem.W.nsIn K mainGlobals "_law_cell" = some (some (.ref fCell)))
    (lCell : K.lookup fCell = some ⟨ocCell, odCell, .func (PySem.W.fnOf "_law_cell" "_law_cell" (defArgs sCell) (defBody sCell) (defScope sCell) .none kVCell dcCell pmCell anCell cdCell ctCell), slCell⟩)
    (cCell : PySem.W.codeIn K cdCell "_law_cell" = true)
    (kCell : PySem.W.keepIn K (.ref fCell) = true)
    (aPot : PySem.W.nsIn K mainGlobals "_law_pot" = some (some (.ref fPot)))
    (lPot : K.lookup fPot = some ⟨ocPot, odPot, .func (PySem.W.fnOf "_law_pot" "_law_pot" (defArgs sPot) (defBody sPot) (defScope sPot) .none kVPot dcPot pmPot anPot cdPot ctPot), slPot⟩)
    (cPot : PySem.W.codeIn K cdPot "_law_pot" = true)
    (kPot : PySem.W.keepIn K (.ref fPot) = true)
    (aDraw : PySem.W.nsIn K mainGlobals "_law_draw" = some (some (.ref fDraw)))
    (lDraw : K.lookup fDraw = some ⟨ocDraw, odDraw, .func (PySem.W.fnOf "_law_draw" "_law_draw" (defArgs sDraw) (defBody sDraw) (defScope sDraw) .none kVDraw dcDraw pmDraw anDraw cdDraw ctDraw), slDraw⟩)
    (cDraw : PySem.W.codeIn K cdDraw "_law_draw" = true)
    (kDraw : PySem.W.keepIn K (.ref fDraw) = true)
    (aSigns : PySem.W.nsIn K mainGlobals "_law_signs" = some (some (.ref fSigns)))
    (lSigns : K.lookup fSigns = some ⟨ocSigns, odSigns, .func (PySem.W.fnOf "_law_signs" "_law_signs" (defArgs sSigns) (defBody sSigns) (defScope sSigns) .none kVSigns dcSigns pmSigns anSigns cdSigns ctSigns), slSigns⟩)
    (cSigns : PySem.W.codeIn K cdSigns "_law_signs" = true)
    (kSigns : PySem.W.keepIn K (.ref fSigns) = true)
    (aText : PySem.W.nsIn K mainGlobals "_law_text" = some (some (.ref fText)))
    (lText : K.lookup fText = some ⟨ocText, odText, .func (PySem.W.fnOf "_law_text" "_law_text" (defArgs sText) (defBody sText) (defScope sText) .none kVText dcText pmText anText cdText ctText), slText⟩)
    (cText : PySem.W.codeIn K cdText "_law_text" = true)
    (kText : PySem.W.keepIn K (.ref fText) = true)
    (aNames : PySem.W.nsIn K mainGlobals "_law_names" = some (some (.ref fNames)))
    (lNames : K.lookup fNames = some ⟨ocNames, odNames, .func (PySem.W.fnOf "_law_names" "_law_names" (defArgs st_names) (defBody st_names) (defScope st_names) .none kVNames dcNames pmNames anNames cdNames ctNames), slNames⟩)
    (cNames : PySem.W.codeIn K cdNames "_law_names" = true)
    (kNames : PySem.W.keepIn K (.ref fNames) = true)
    (aBeg : PySem.W.nsIn K mainGlobals "_law_beginning" = some (some (.ref fBeg)))
    (lBeg : K.lookup fBeg = some ⟨ocBeg, odBeg, .func (PySem.W.fnOf "_law_beginning" "_law_beginning" (defArgs st_beginning) (defBody st_beginning) (defScope st_beginning) .none kVBeg dcBeg pmBeg anBeg cdBeg ctBeg), slBeg⟩)
    (cBeg : PySem.W.codeIn K cdBeg "_law_beginning" = true)
    (kBeg : PySem.W.keepIn K (.ref fBeg) = true)
    (aWMeant : PySem.W.nsIn K mainGlobals "_law_meant" = some (some (.ref fWMeant)))
    (lWMeant : K.lookup fWMeant = some ⟨ocWMeant, odWMeant, .func (PySem.W.fnOf "_law_meant" "_law_meant" (defArgs st_w_meant) (defBody st_w_meant) (defScope st_w_meant) .none kVWMeant dcWMeant pmWMeant anWMeant cdWMeant ctWMeant), slWMeant⟩)
    (cWMeant : PySem.W.codeIn K cdWMeant "_law_meant" = true)
    (kWMeant : PySem.W.keepIn K (.ref fWMeant) = true)
    (aLMade : PySem.W.nsIn K mainGlobals "_law_made" = some (some (.ref fLMade)))
    (lLMade : K.lookup fLMade = some ⟨ocLMade, odLMade, .func (PySem.W.fnOf "_law_made" "_law_made" (defArgs st_made) (defBody st_made) (defScope st_made) .none kVLMade dcLMade pmLMade anLMade cdLMade ctLMade), slLMade⟩)
    (cLMade : PySem.W.codeIn K cdLMade "_law_made" = true)
    (kLMade : PySem.W.keepIn K (.ref fLMade) = true)
    (aMaker : PySem.W.nsIn K mainGlobals "_law_maker" = some (some (.ref fMaker)))
    (lMaker : K.lookup fMaker = some ⟨ocMaker, odMaker, .func (PySem.W.fnOf "_law_maker" "_law_maker" (defArgs st_maker) (defBody st_maker) (defScope st_maker) .none kVMaker dcMaker pmMaker anMaker cdMaker ctMaker), slMaker⟩)
    (cMaker : PySem.W.codeIn K cdMaker "_law_maker" = true)
    (kMaker : PySem.W.keepIn K (.ref fMaker) = true)
    (aRight : PySem.W.nsIn K mainGlobals "_law_right" = some (some (.ref fRight)))
    (lRight : K.lookup fRight = some ⟨ocRight, odRight, .func (PySem.W.fnOf "_law_right" "_law_right" (defArgs st_right) (defBody st_right) (defScope st_right) .none kVRight dcRight pmRight anRight cdRight ctRight), slRight⟩)
    (cRight : PySem.W.codeIn K cdRight "_law_right" = true)
    (kRight : PySem.W.keepIn K (.ref fRight) = true)
    (aMeant : PySem.W.nsIn K mainGlobals "meant" = some (some (.ref fMeant)))
    (lMeant : K.lookup fMeant = some ⟨ocMeant, odMeant, .func (PySem.W.fnOf "meant" "meant" (defArgs st_meant) (defBody st_meant) (defScope st_meant) .none kVMeant dcMeant pmMeant anMeant cdMeant ctMeant), slMeant⟩)
    (cMeant : PySem.W.codeIn K cdMeant "meant" = true)
    (kMeant : PySem.W.keepIn K (.ref fMeant) = true)
    (aB : PySem.W.nsIn K mainGlobals "BenchError" = some (some (.ref BE)))
    (aN : PySem.W.nsIn K mainGlobals "Unmade" = some (some (.ref CU)))
    (xN : K.lookup CU = some (excClassObj nmU qU CU NU bsU [.type "ValueError", .type "Exception", .type "BaseException", .type "object"] true snU subU abU colU ddU m0 m1 m2 m3 m5 "ValueError.__new__"))
    (aE : PySem.W.findIn K (.ref CU) "__init__" = some (some (.ref fE)))
    (lE : K.lookup fE = some ⟨ocE, odE, .func (PySem.W.fnOf "__init__" "Unmade.__init__" (defArgs st_err) (defBody st_err) (defScope st_err) (.ref TD) kVE dcE pmE anE cdE ctE), slE⟩)
    (cE : PySem.W.codeIn K cdE "Unmade.__init__" = true)
    (kE : PySem.W.keepIn K (.ref fE) = true)
    (lTD : K.lookup TD = some ⟨ocTD, odTD, .seq [.str (Str.ofString "") tTD].toArray nTD, slTD⟩)
    (tE : PySem.W.typeIn K (.ref fE) = some (.type "function"))
    (saN : PySem.W.findIn K (.ref CU) "__setattr__" = some (some (.builtin "object.__setattr__")))
    (gaN : PySem.W.findIn K (.ref CU) "__getattribute__" = some (some (.builtin "BaseException.__getattribute__")))
    (ggN : PySem.W.findIn K (.ref CU) "__getattr__" = some none)
    (nfN : PySem.W.findIn K (.ref CU) "why" = some none)
    (hcN : PySem.W.findIn K (.ref CU) "__class__" = some (some (.builtin "object.__class__")))
    (kN : PySem.W.keepIn K (.ref CU) = true)
    (eN : PySem.W.subIn K (.ref CU) (.type "BaseException") = some true)
    (tN : PySem.W.typeIn K (.ref CU) = some (.type "type"))
    (hdN : PySem.W.hasDictIn K CU = true)
    (sN : PySem.W.subIn K (.ref CU) (.ref CU) = some true)
    (spN : PySem.W.specialIn K (.builtin "object.__class__") "__get__" = some (some (.builtin "getset_descriptor.__get__")))
    (tkN : PySem.W.takesIn K (.builtin "object.__class__") = some true)
    (moN : PySem.W.mroIn K CU (.type "object") = some true)
    (tB : PySem.W.typeIn K (.ref BE) = some (.type "type"))
    (hdB : PySem.W.hasDictIn K BE = true)
    (sB : PySem.W.subIn K (.ref CU) (.ref BE) = some false)
    (sV : PySem.W.subIn K (.ref CU) (.type "ValueError") = some true)
    (aOne : PySem.W.nsIn K mainGlobals "one_of" = some (some (.ref fOne)))
    (lOne : K.lookup fOne = some ⟨ocOne, odOne, .func (PySem.W.fnOf "one_of" "one_of" (defArgs st_one_of) (defBody st_one_of) (defScope st_one_of) .none kVOne dcOne pmOne anOne (.ref cO) ctOne), slOne⟩)
    (cOne : PySem.W.codeIn K (.ref cO) "one_of" = true)
    (kOne : PySem.W.keepIn K (.ref fOne) = true)
    (tabK : K.lookup T = none)
    (tabH : PySem.W.codeHdIn K cO T = true)
    (z_len : PySem.W.nsIn K mainGlobals "len" = some none)
    (z_max : PySem.W.nsIn K mainGlobals "max" = some none)
    (z_min : PySem.W.nsIn K mainGlobals "min" = some none)
    (z_divmod : PySem.W.nsIn K mainGlobals "divmod" = some none)
    (z_range : PySem.W.nsIn K mainGlobals "range" = some none)
    (z_str : PySem.W.nsIn K mainGlobals "str" = some none)
    (z_isinstance : PySem.W.nsIn K mainGlobals "isinstance" = some none)
    (z_ValueError : PySem.W.nsIn K mainGlobals "ValueError" = some none)
    (z_repr : PySem.W.nsIn K mainGlobals "repr" = some none)
    (z_sorted : PySem.W.nsIn K mainGlobals "sorted" = some none)
    (z_list : PySem.W.nsIn K mainGlobals "list" = some none)
    (aLaw : PySem.W.nsIn K mainGlobals "law" = some (some (.ref fLaw)))
    (lLaw : K.lookup fLaw = some ⟨ocLaw, odLaw, .func (PySem.W.fnOf "law" "law" (defArgs st_law) (defBody st_law) (defScope st_law) .none kVLaw dcLaw pmLaw anLaw cdLaw ctLaw), slLaw⟩)
    (cLaw : PySem.W.codeIn K cdLaw "law" = true)
    (kLaw : PySem.W.keepIn K (.ref fLaw) = true) :
    ∃ (fd : FuncData) (c cd : Addr), K.lookup T = none ∧ PySem.W.codeHdIn K c T = true ∧ (∀ (s : Shared) (v : Value), BindsTo s fd ⟨[v], []⟩ [("_law_script", v)]) ∧ ∀ base : Heap, K.In base → base.Ns mainGlobals mg → LamX.TabB base mg c T → GOk l.prog w K mg base CX0 6 fa fd ["_law_script"] (spLaw K T) := by
  have e := hfa.symm.trans (PySem.W.mg_of X G aLaw)
  cases e
  have g0 : ∀ {x : Str}, PySem.W.nsIn K mainGlobals x = some none → mg x = none := fun {x} z => PySem.W.mg_none_of X G z
  have DCell := df_mk (st := sCell) (ps := ["_law_script", "_law_k"]) X G aCell lCell cCell kCell fun _ _ _ _ _ _ us hl => match us, hl with | [_, _], _ => rfl
  have DPot := df_mk (st := sPot) (ps := ["_law_script", "_law_k"]) X G aPot lPot cPot kPot fun _ _ _ _ _ _ us hl => match us, hl with | [_, _], _ => rfl
  have DDraw := df_mk (st := sDraw) (ps := ["_law_pot_here", "_law_many"]) X G aDraw lDraw cDraw kDraw fun _ _ _ _ _ _ us hl => match us, hl with | [_, _], _ => rfl
  have DSigns := df_mk (st := sSigns) (ps := []) X G aSigns lSigns cSigns kSigns fun _ _ _ _ _ _ us hl => match us, hl with | [], _ => rfl
  have DText := df_mk (st := sText) (ps := ["_law_pot_here", "_law_most", "_law_signs_here"]) X G aText lText cText kText fun _ _ _ _ _ _ us hl => match us, hl with | [_, _, _], _ => rfl
  have DNames := df_mk (st := st_names) (ps := ["_law_pot_here", "_law_most"]) X G aNames lNames cNames kNames fun _ _ _ _ _ _ us hl => match us, hl with | [_, _], _ => rfl
  have DBeg := df_mk (st := st_beginning) (ps := ["_law_pot_here", "_law_names_here"]) X G aBeg lBeg cBeg kBeg fun _ _ _ _ _ _ us hl => match us, hl with | [_, _], _ => rfl
  have DWMeant := df_mk (st := st_w_meant) (ps := ["_law_names_here", "_law_beginning_here"]) X G aWMeant lWMeant cWMeant kWMeant fun _ _ _ _ _ _ us hl => match us, hl with | [_, _], _ => rfl
  have DLMade := df_mk (st := st_made) (ps := ["_law_maker_here", "_law_word"]) X G aLMade lLMade cLMade kLMade fun _ _ _ _ _ _ us hl => match us, hl with | [_, _], _ => rfl
  have DMaker := df_mk (st := st_maker) (ps := ["_law_names_here"]) X G aMaker lMaker cMaker kMaker fun _ _ _ _ _ _ us hl => match us, hl with | [_], _ => rfl
  have DRight := df_mk (st := st_right) (ps := ["_law_maker_here", "_law_names_here", "_law_word"]) X G aRight lRight cRight kRight fun _ _ _ _ _ _ us hl => match us, hl with | [_, _, _], _ => rfl
  have DMeant := df_mk (st := st_meant) (ps := ["names", "beginning"]) X G aMeant lMeant cMeant kMeant fun _ _ _ _ _ _ us hl => match us, hl with | [_, _], _ => rfl
  have FLaw := fun_mk (st := st_law) lLaw cLaw kLaw
  have FE : ErrD K fE _ := ⟨⟨_, _, _, _, _, _, _, _, _, _, rfl, lE, cE, .inr ⟨by simp, TD, _, _, _, rfl, lTD, rfl, .cons ⟨_, rfl⟩ .nil⟩, .inl rfl⟩, kE⟩
  have TE : ErrT K mg "Unmade" CU fE _ := ⟨⟨⟨nmU, qU, NU, bsU, _, snU, subU, abU, colU, ddU, m0, m1, m2, m3, m5, xN, rfl⟩, saN, eN, tN, kN⟩, aE, tE, nfN, PySem.W.mg_of X G aN, err_b2 FE⟩
  have CT : CaughtT K CU BE := ⟨⟨gaN, ggN, eN, hdN⟩, ⟨gaN, ggN, eN, hdN, hcN, spN, tkN, moN⟩, PySem.W.exm_ref eN hdN tN sN, kit_subT (by decide +kernel) sV, kit_subR hdB tB sB sN⟩
  refine ⟨PySem.W.fnOf "law" "law" (defArgs st_law) (defBody st_law) (defScope st_law) .none kVLaw dcLaw pmLaw anLaw cdLaw ctLaw, cO, cO, tabK, tabH, fun s v => ?_, fun base _ _ tb => ?_⟩
  · exact .of_eq rfl
  · have CH := ok_chosen (P := l.prog) (w := w) (base := base) (k := 0) FE TE DMeant (g0 z_sorted) (g0 z_len)
    have GMd := ok_lmade (k := 3) DLMade.F CH TE CT (PySem.W.mg_of X G aB) (g0 z_isinstance) (g0 z_str) (g0 z_ValueError)
    have GR := ok_right (k := 3) DRight.F DLMade GMd DWMeant (g0 z_len) (g0 z_sorted) (g0 z_repr)
    have GO := ok_one_of (P := l.prog) (w := w) (k := 3) lOne cOne tb (g0 z_list)
    have GM := ok_maker DMaker.F GO (PySem.W.mg_of X G aOne) kOne (kb_words (fun _ _ => .of_eq rfl) (fun _ _ => .of_eq rfl)) (g0 z_list)
    exact ok_law (k := 2) FLaw DCell DPot DDraw DSigns DText DNames DBeg DRight GR DMaker GM (g0 z_len) (g0 z_max) (g0 z_min) (g0 z_divmod) (g0 z_range)
end WB

open PySem PySem.W PyProof.Rows
set_option maxRecDepth 100000
set_option Elab.async false
set_option maxHeartbeats 0 in
theorem PySem.Challenge.cw_wordbench_k34_one_of_some_words_holds : PySem.Challenge.rw_wordbench_k34_one_of_some_words.Holds := by
  w_on; o_law; k_head; (case hw => w_witness2)
  k_fill
  refine WG.gwalk_ofT (l := PySem.Challenge.rw_wordbench_k34_one_of_some_words) (n := 63) (k := 6) (x := "_law_script") (CX := fun _ => L2.CX0) (sp := fun w T => WB.spLaw _ T) rfl (by decide) rfl ⟨rfl, by decide, by decide⟩ (fun w h Y => PySem.W.km_in_of Y) (fun w h Y => PySem.W.km_tabs_of Y _ (.head _)) ?F (fun _ _ a ns hl hT hS => ⟨a, ns, rfl, hT, hS, hl, fun _ => rfl⟩) (fun _ _ _ _ _ h => h)
  case F =>
    intro w mg fa h KX G hmg
    refine' WB.all_mk KX G hmg ?aCell ?lCell ?cCell ?kCell ?aPot ?lPot ?cPot ?kPot ?aDraw ?lDraw ?cDraw ?kDraw ?aSigns ?lSigns ?cSigns ?kSigns ?aText ?lText ?cText ?kText ?aNames ?lNames ?cNames ?kNames ?aBeg ?lBeg ?cBeg ?kBeg ?aWMeant ?lWMeant ?cWMeant ?kWMeant ?aLMade ?lLMade ?cLMade ?kLMade ?aMaker ?lMaker ?cMaker ?kMaker ?aRight ?lRight ?cRight ?kRight ?aMeant ?lMeant ?cMeant ?kMeant ?aB ?aN ?xN ?aE ?lE ?cE ?kE ?lTD ?tE ?saN ?gaN ?ggN ?nfN ?hcN ?kN ?eN ?tN ?hdN ?sN ?spN ?tkN ?moN ?tB ?hdB ?sB ?sV ?aOne ?lOne ?cOne ?kOne ?tabK ?tabH ?z_len ?z_max ?z_min ?z_divmod ?z_range ?z_str ?z_isinstance ?z_ValueError ?z_repr ?z_sorted ?z_list ?aLaw ?lLaw ?cLaw ?kLaw
    (case aCell => k_is)
    (case lCell => k_is)
    (case cCell => k_is)
    (case kCell => k_is)
    (case aPot => k_is)
    (case lPot => k_is)
    (case cPot => k_is)
    (case kPot => k_is)
    (case aDraw => k_is)
    (case lDraw => k_is)
    (case cDraw => k_is)
    (case kDraw => k_is)
    (case aSigns => k_is)
    (case lSigns => k_is)
    (case cSigns => k_is)
    (case kSigns => k_is)
    (case aText => k_is)
    (case lText => k_is)
    (case cText => k_is)
    (case kText => k_is)
    (case aNames => k_is)
    (case lNames => k_is)
    (case cNames => k_is)
    (case kNames => k_is)
    (case aBeg => k_is)
    (case lBeg => k_is)
    (case cBeg => k_is)
    (case kBeg => k_is)
    (case aWMeant => k_is)
    (case lWMeant => k_is)
    (case cWMeant => k_is)
    (case kWMeant => k_is)
    (case aLMade => k_is)
    (case lLMade => k_is)
    (case cLMade => k_is)
    (case kLMade => k_is)
    (case aMaker => k_is)
    (case lMaker => k_is)
    (case cMaker => k_is)
    (case kMaker => k_is)
    (case aRight => k_is)
    (case lRight => k_is)
    (case cRight => k_is)
    (case kRight => k_is)
    (case aMeant => k_is)
    (case lMeant => k_is)
    (case cMeant => k_is)
    (case kMeant => k_is)
    (case aB => k_is)
    (case aN => k_is)
    (case xN => k_is)
    (case aE => k_is)
    (case lE => k_is)
    (case cE => k_is)
    (case kE => k_is)
    (case lTD => k_is)
    (case tE => k_is)
    (case saN => k_is)
    (case gaN => k_is)
    (case ggN => k_is)
    (case nfN => k_is)
    (case hcN => k_is)
    (case kN => k_is)
    (case eN => k_is)
    (case tN => k_is)
    (case hdN => k_is)
    (case sN => k_is)
    (case spN => k_is)
    (case tkN => k_is)
    (case moN => k_is)
    (case tB => k_is)
    (case hdB => k_is)
    (case sB => k_is)
    (case sV => k_is)
    (case aOne => k_is)
    (case lOne => k_is)
    (case cOne => k_is)
    (case kOne => k_is)
    (case tabK => first | k_is | exact rfl | decide +kernel)
    (case tabH => first | k_is | exact rfl | decide +kernel)
    (case z_len => k_is)
    (case z_max => k_is)
    (case z_min => k_is)
    (case z_divmod => k_is)
    (case z_range => k_is)
    (case z_str => k_is)
    (case z_isinstance => k_is)
    (case z_ValueError => k_is)
    (case z_repr => k_is)
    (case z_sorted => k_is)
    (case z_list => k_is)
    (case aLaw => k_is)
    (case lLaw => k_is)
    (case cLaw => k_is)
    (case kLaw => k_is)
