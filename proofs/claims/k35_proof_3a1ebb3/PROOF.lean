import PyProof.Rows.All
import Wide.All
import OpenK.AllK
import Wide.FinOn
import PySem.Challenge.RW_wordbench_k35_whole_tables_of_makers
import HandS.ForMost
import HandS.IsInst
import KE.KIsAll
import PyProof.ReprRoads
import PyProof.StrBlock2
import HandS.Exc
import HandS.ExcInit
import HandS.ExcField
import HandS.ExcIs
import HandS.TryOnly
import HandS.WordsExc
import HandS.Defaults
import HandS.MakeKw
import HandS.MakeKwOnly
import HandS.EndTab
import HandS.HeadWalk
import HandS.Nested
import HandS.ExcValue
import KE.KNestM
import HandS.ExcOwn
import HandS.CallLocal
import HandS.StrMore
import HandS.More
import HandS.SetKeys
import PyProof.Rows.StrCountLaw
import HandS.Walk
import HandS.Iter
import HandS.Dict
import HandS.HotCalls
import HandS.ReplaceLit
import HandS.ReplaceDef
import PyProof.Rows.StrStrike
import HandS.Finally
set_option Elab.async false
set_option linter.all false
set_option maxRecDepth 100000
set_option maxHeartbeats 4000000
namespace WB
open PySem PySem.Spec PyProof.Rows L2
open TL (tl)
def topS (i : Nat) : Stmt := PySem.Challenge.pw_wordbench_k35_whole_tables_of_makers.main.body.getD i (.Pass ⟨0, 0, 0, 0⟩)
abbrev st_cell : Stmt := topS 26
theorem sc_cell : FnScope ["_law_script", "_law_k"] ["_law_script", "_law_k"] (defScope st_cell) := ⟨rfl, rfl, rfl, by decide +kernel, rfl, by decide +kernel, by decide +kernel⟩
abbrev st_pot : Stmt := topS 27
theorem sc_pot : FnScope ["_law_script", "_law_k", "_law_cell_here"] ["_law_script", "_law_k"] (defScope st_pot) := ⟨rfl, rfl, rfl, by decide +kernel, rfl, by decide +kernel, by decide +kernel⟩
abbrev st_draw : Stmt := topS 28
theorem sc_draw : FnScope ["_law_pot_here", "_law_many", "_law_digit"] ["_law_pot_here", "_law_many"] (defScope st_draw) := ⟨rfl, rfl, rfl, by decide +kernel, rfl, by decide +kernel, by decide +kernel⟩
abbrev sCell := st_cell
abbrev sPot := st_pot
abbrev sDraw := st_draw
abbrev scCell := sc_cell
abbrev scPot := sc_pot
abbrev scDraw := sc_draw
/-- a def of the top: its object, how it binds, its name -/
structure Df (K : PySem.W.Frag) (mg : Str → Option Value) (x : Str) (st : Stmt) (ps : List Str) (f : Addr) (fd : FuncData) : Prop where
  F : Fun K x x st f fd
  b : Binds K fd ps []
  g : mg x = some (.ref f)
/-! ### heaps -/
theorem same_upd {H : Hp} {p : Addr} {o : HO} (h : H p = none) : Same H (upd H p o) := fun b x e => by
  rw [upd_ne (ne_of_none e h)]
  exact e
/-- all that was tracked but at p is as it was -/
def But (p : Addr) (H H' : Hp) : Prop := ∀ b o, b ≠ p → H b = some o → H' b = some o
theorem But.refl (p : Addr) (H : Hp) : But p H H := fun _ _ _ h => h
theorem But.trans {p : Addr} {H H1 H2 : Hp} (a : But p H H1) (b : But p H1 H2) : But p H H2 := fun c o n h => b c o n (a c o n h)
theorem But.of_same {p : Addr} {H H' : Hp} (a : Same H H') : But p H H' := fun c o _ h => a c o h
theorem But.upd (p : Addr) (H : Hp) (o : HO) : But p H (upd H p o) := fun c u n h => by
  rw [upd_ne n]
  exact h
theorem But.new {p : Addr} {H : Hp} {q : Addr} {o : HO} (h : H q = none) : But p H (L2.upd H q o) := But.of_same (same_upd h)
/-- at p a pot stands -/
def Pot (H : Hp) (p : Addr) : Prop := ∃ a b : Int, H p = some (.lst [.int a, .int b]) ∧ 0 ≤ b ∧ b < 2147483648
theorem Pot.some {H : Hp} {p : Addr} (h : Pot H p) : ∃ o, H p = some o := by
  obtain ⟨a, b, e, _⟩ := h
  exact ⟨_, e⟩
theorem Pot.ne {H : Hp} {p q : Addr} (h : Pot H p) (n : H q = none) : p ≠ q := by
  obtain ⟨a, b, e, _⟩ := h
  exact ne_of_none e n
theorem Pot.new {H : Hp} {p q : Addr} {o : HO} (h : Pot H p) (n : H q = none) : Pot (L2.upd H q o) p := by
  have ne := h.ne n
  obtain ⟨a, b, e, h1, h2⟩ := h
  refine ⟨a, b, ?_, h1, h2⟩
  rw [upd_ne ne]
  exact e
/-! ### texts of some signs -/
structure Tq (p : Nat → Prop) (n : Nat) (y : Str) : Prop where
  le : y.length ≤ n
  pl : ∀ c ∈ tl y, p c
theorem Tq.mono {p q : Nat → Prop} {n m : Nat} {y : Str} (h : Tq p n y) (e : n ≤ m) (f : ∀ c, p c → q c) : Tq q m y := ⟨Nat.le_trans h.le e, fun c hc => f c (h.pl c hc)⟩
theorem Tq.app {p : Nat → Prop} {n m : Nat} {x y : Str} (h : Tq p n x) (k : Tq p m y) : Tq p (n + m) (x ++ y) := by
  refine ⟨?_, fun c hc => ?_⟩
  · rw [Str.length_append]
    exact Nat.add_le_add h.le k.le
  · rw [TL.tl_append] at hc
    exact (List.mem_append.mp hc).elim (h.pl c) (k.pl c)
theorem Tq.cut {p : Nat → Prop} {n : Nat} {x : Str} (h : Tq p n x) (lo hi : Option Int) : Tq p n (cutS x lo hi) := by
  refine ⟨Nat.le_trans (cutS_length x lo hi) h.le, fun c hc => h.pl c ?_⟩
  have e : c ∈ (x.cps.toList.drop _).take _ := hc
  exact List.mem_of_mem_drop (List.mem_of_mem_take e)
theorem Tq.sign {p : Nat → Prop} {c : Nat} (h : p c) : Tq p 1 ⟨#[c]⟩ := by
  refine ⟨Nat.le_refl 1, fun d hd => ?_⟩
  have e : d ∈ [c] := hd
  rw [List.mem_singleton.mp e]
  exact h
theorem mem_joinL (S : List Nat) : ∀ (ps : List (List Nat)) (c : Nat), c ∈ TL.joinL S ps → c ∈ S ∨ ∃ p ∈ ps, c ∈ p
  | [], c, h => by cases h
  | [p], c, h => .inr ⟨p, List.mem_singleton.mpr rfl, h⟩
  | p :: q :: r, c, h => by
    rcases List.mem_append.mp (show c ∈ p ++ (S ++ TL.joinL S (q :: r)) from h) with h | h
    · exact .inr ⟨p, List.mem_cons_self, h⟩
    · rcases List.mem_append.mp h with h | h
      · exact .inl h
      · rcases mem_joinL S (q :: r) c h with h | ⟨p', hp, hc⟩
        · exact .inl h
        · exact .inr ⟨p', List.mem_cons_of_mem _ hp, hc⟩
theorem sum_most {p : Nat → Prop} (m : Nat) : ∀ ys : List Str, (∀ y ∈ ys, Tq p m y) → (ys.map (·.length)).sum ≤ ys.length * m
  | [], _ => Nat.zero_le _
  | y :: r, h => by
    have h1 := sum_most m r fun z hz => h z (List.mem_cons_of_mem _ hz)
    have h2 := (h y List.mem_cons_self).le
    rw [List.map_cons, List.sum_cons, List.length_cons, Nat.succ_mul]
    omega
theorem Tq.join {p : Nat → Prop} {sep : Str} {k m n : Nat} {ys : List Str} (hs : Tq p k sep) (h : ∀ y ∈ ys, Tq p m y) (hn : ys.length * m + ys.length * k ≤ n) : Tq p n (Txt.join sep ys) := by
  refine ⟨?_, fun c hc => ?_⟩
  · rw [TL.join_eq]
    have e := StrLaws.join_length_le sep ys
    have e2 := sum_most m ys h
    have e3 : ys.length * sep.length ≤ ys.length * k := Nat.mul_le_mul_left _ hs.le
    omega
  · rw [TL.join_eq, TL.tl_join] at hc
    rcases mem_joinL _ _ c hc with h1 | ⟨p, hp, h1⟩
    · exact hs.pl c h1
    · obtain ⟨y, hy, rfl⟩ := List.mem_map.mp hp
      exact (h y hy).pl c h1
section
variable {P : Program} {w : World} {K : PySem.W.Frag} {mg : Str → Option Value} {base : Heap}
/-! ### _law_cell -/
def spCell (K : PySem.W.Frag) : Sp := fun vs H Q _ => ∃ (a : Addr) (ns : List Int) (k : Int), vs = [.ref a, .int k] ∧ SqL K H a (ns.map V.int) ∧ 0 ≤ k ∧ ∀ z : Int, Q (.int z) H
theorem ok_cell {f : Addr} {fd : FuncData} {k : Nat} (F : Fun K "_law_cell" "_law_cell" sCell f fd) (mL : mg "len" = none) : FnOk P w K mg base CX0 (k + 1) f fd ["_law_script", "_law_k"] (spCell K) := by
  refine F.ok scCell (fun vs H Q E h => ?_) (fun cdv A outer s H vs Q E hr h => ?_)
  · obtain ⟨a, ns, k, rfl, _⟩ := h
    rfl
  · obtain ⟨a, ns, k, rfl, hS, hk, q⟩ := h
    refine ⟨_, pss_one (ps_ret (pe_ifExp (pt_cmpR op_lt (pv 1) (pe_callB call_len_seq (by rfl) mL PySem.boot_len (pa_cons (pv 0) pa_nil)) (nomark _)) (pe_ix ix_list (pv 0) (pv 1) (fun _ _ => rfl)) pe_int)), ?_⟩
    refine ⟨.int k, rfl, .ref a, rfl, a, _, rfl, .inl hS, k, _, rfl, rfl, _, rfl, ite2 (fun e => ?_) (fun e => q 0)⟩
    have e1 := of_decide_eq_true e
    obtain ⟨n, rfl⟩ := Int.eq_ofNat_of_zero_le hk
    rw [List.length_map] at e1
    have hn : n < ns.length := by omega
    exact ⟨.ref a, rfl, .int n, rfl, a, _, _, .int ns[n], rfl, rfl, hS, atI_nat (j := n) (by rw [List.getElem?_map, List.getElem?_eq_getElem hn]; rfl), q _⟩
/-! ### _law_pot -/
def spPot (K : PySem.W.Frag) : Sp := fun vs H Q _ => ∃ (a : Addr) (ns : List Int) (k : Int), vs = [.ref a, .int k] ∧ SqL K H a (ns.map V.int) ∧ 0 ≤ k ∧
  ∀ H' p, Same H H' → H p = none → Pot H' p → Q (.ref p) H'
theorem ok_pot {f fC : Addr} {fd fdC : FuncData} {k : Nat} (F : Fun K "_law_pot" "_law_pot" sPot f fd) (C : Df K mg "_law_cell" sCell ["_law_script", "_law_k"] fC fdC) (mL : mg "len" = none) (mM : mg "max" = none) :
    FnOk P w K mg base CX0 (k + 2) f fd ["_law_script", "_law_k"] (spPot K) := by
  have GC : FnOk P w K mg base CX0 (k + 1) fC fdC ["_law_script", "_law_k"] (spCell K) := ok_cell C.F mL
  refine F.ok scPot (fun vs H Q E h => ?_) (fun cdv A outer s H vs Q E hr h => ?_)
  · obtain ⟨a, ns, k, rfl, _⟩ := h
    rfl
  · obtain ⟨a, ns, k, rfl, hS, hk, q⟩ := h
    refine ⟨_, pss_cons (ps_set (i := 2) scPot.nd rfl (.inl rfl) (pe_call GC hr (by rfl) C.g C.F.kp C.b .nil pass0 (pa_cons (pv 0) (pa_cons (pv 1) pa_nil))))
      (pss_one (ps_ret (pe_lst (pa_cons (pe_callB (call_max2 rfl) (by rfl) mM (by decide +kernel) (pa_cons pe_int (pa_cons (pe_op op_sub (pv 2) (pe_op op_pow pe_int pe_int)) pa_nil)))
        (pa_cons (pe_op op_mod (pe_op op_add (pe_op op_add (pe_op op_mul (pe_op op_mod (pv 2) pe_int) pe_int) (pe_op op_mul pe_int (pv 1))) pe_int) pe_int) pa_nil))))), ?_⟩
    refine ⟨.ref a, rfl, .int k, rfl, a, ns, k, rfl, hS, hk, fun z => ?_⟩
    refine ⟨.int z, rfl, 10, 18, rfl, rfl, ⟨by decide, by decide, by decide⟩, z, _, rfl, rfl, 0, _, rfl, ?_⟩
    refine ⟨.int z, rfl, z, 2147483629, rfl, rfl, (by show (0 : Int) < 2147483629; decide), _, 48271, rfl, rfl, .inr ⟨by decide, by decide⟩, .int k, rfl, 7919, k, rfl, rfl, .inl ⟨by decide, by decide⟩, _, _, rfl, rfl, _, 31, rfl, rfl, _, 2147483629, rfl, rfl, (by show (0 : Int) < 2147483629; decide), ?_⟩
    refine ⟨by show 2 ≤ sizeLine; decide, fun p hp => q _ p (same_upd hp) hp ⟨_, _, upd_same, Int.emod_nonneg _ (by decide), ?_⟩⟩
    exact Int.lt_trans (Int.emod_lt_of_pos _ (by decide)) (by decide)
/-! ### _law_draw -/
def spDraw : Sp := fun vs H Q _ => ∃ (p : Addr) (m : Int), vs = [.ref p, .int m] ∧ Pot H p ∧ 0 < m ∧ m ≤ 1000 ∧ ∀ H' (d : Int), But p H H' → Pot H' p → 0 ≤ d → d < m → Q (.int d) H'
theorem ok_draw {f : Addr} {fd : FuncData} {k : Nat} (F : Fun K "_law_draw" "_law_draw" sDraw f fd) (mD : mg "divmod" = none) : FnOk P w K mg base CX0 (k + 1) f fd ["_law_pot_here", "_law_many"] spDraw := by
  refine F.ok scDraw (fun vs H Q E h => ?_) (fun cdv A outer s H vs Q E hr h => ?_)
  · obtain ⟨p, m, rfl, _⟩ := h
    rfl
  · obtain ⟨p, m, rfl, ⟨a, b, hp, hb0, hb1⟩, hm0, hm1, q⟩ := h
    refine ⟨_, pss_cons (ps_if (pt_cmpR op_gt (pe_ix ix_list (pv 0) pe_int (fun _ _ => rfl)) pe_int (nomark _))
        (pss_cons (ps_asg (pe_callB call_divmod (by rfl) mD (by decide +kernel) (pa_cons (pe_ix ix_list (pv 0) pe_int (fun _ _ => rfl)) (pa_cons (pv 1) pa_nil)))
            (pg_tup rfl (pgs_cons (pg_sub (pv 0) pe_int set_list) (pgs_cons (pg_name (i := 2) scDraw.nd rfl (.inl rfl)) pgs_nil))))
          (pss_one (ps_ret (pv 2)))) pss_nil)
      (pss_cons (ps_asg (pe_op op_mod (pe_op op_add (pe_op op_mul (pe_ix ix_list (pv 0) pe_int (fun _ _ => rfl)) pe_int) pe_int) pe_int) (pg_sub (pv 0) pe_int set_list))
      (pss_one (ps_ret (pe_op op_mod (pe_op op_fdiv (pe_op op_mod (pe_op op_pow (pe_ix ix_list (pv 0) pe_int (fun _ _ => rfl)) pe_int) pe_int) pe_int) (pv 1))))), ?_⟩
    refine ⟨.ref p, rfl, p, _, 0, .int a, rfl, rfl, SqL.of hp, atI_nat (j := 0) rfl, a, 0, rfl, rfl, _, rfl, ite2 (fun e => ?_) (fun e => ?_)⟩
    · refine ⟨.ref p, rfl, p, _, 0, .int a, rfl, rfl, SqL.of hp, atI_nat (j := 0) rfl, .int m, rfl, a, m, rfl, ⟨hm0, by omega⟩, fun t nt => ?_⟩
      have npt : p ≠ t := ne_of_none hp nt
      have hp1 : (upd H t (.tup [.int (a / m), .int (a % m)])) p = some (.lst [.int a, .int b]) := by
        rw [upd_ne npt]
        exact hp
      refine ⟨t, _, rfl, SqT.of upd_same, rfl, _, _, rfl, .ref p, rfl, p, _, 0, 0, rfl, rfl, hp1, rfl, _, _, rfl, rfl, ?_⟩
      refine ⟨.int (a % m), rfl, q _ _ ((But.new nt).trans (But.upd _ _ _)) ⟨a / m, b, upd_same, hb0, hb1⟩ (Int.emod_nonneg _ (by omega)) (Int.emod_lt_of_pos _ hm0)⟩
    · refine ⟨.ref p, rfl, p, _, 1, .int b, rfl, rfl, SqL.of hp, atI_nat (j := 1) rfl, b, 39373, rfl, rfl, .inr ⟨by decide, by decide⟩, _, 8191, rfl, rfl, _, 2147483587, rfl, rfl, (by show (0 : Int) < 2147483587; decide), ?_⟩
      refine ⟨.ref p, rfl, p, _, 1, 1, rfl, rfl, hp, rfl, ?_⟩
      have c0 : 0 ≤ (b * 39373 + 8191) % 2147483587 := Int.emod_nonneg _ (by decide)
      have c1 : (b * 39373 + 8191) % 2147483587 < 2147483587 := Int.emod_lt_of_pos _ (by decide)
      refine ⟨.ref p, rfl, p, _, 1, .int ((b * 39373 + 8191) % 2147483587), rfl, rfl, SqL.of upd_same, atI_nat (j := 1) rfl, (b * 39373 + 8191) % 2147483587, 2, rfl, rfl, ⟨by decide, by decide, by omega⟩, _, 2147483543, rfl, rfl, (by show (0 : Int) < 2147483543; decide), _, 13, rfl, rfl, ⟨by decide, by decide⟩, .int m, rfl, _, m, rfl, rfl, hm0, ?_⟩
      exact q _ _ (But.upd _ _ _) ⟨a, _, upd_same, c0, by omega⟩ (Int.emod_nonneg _ (by omega)) (Int.emod_lt_of_pos _ hm0)
end
theorem at_strs (ys : List Str) (d : Int) (h0 : 0 ≤ d) (h1 : d < (ys.length : Int)) : ∃ y ∈ ys, atI (ys.map V.str) d = some (.str y) := by
  obtain ⟨n, rfl⟩ := Int.eq_ofNat_of_zero_le h0
  have hn : n < ys.length := by omega
  exact ⟨ys[n], List.getElem_mem hn, atI_nat (by rw [List.getElem?_map, List.getElem?_eq_getElem hn]; rfl)⟩
theorem at_ints (ys : List Int) (d : Int) (h0 : 0 ≤ d) (h1 : d < (ys.length : Int)) : ∃ y ∈ ys, atI (ys.map V.int) d = some (.int y) := by
  obtain ⟨n, rfl⟩ := Int.eq_ofNat_of_zero_le h0
  have hn : n < ys.length := by omega
  exact ⟨ys[n], List.getElem_mem hn, atI_nat (by rw [List.getElem?_map, List.getElem?_eq_getElem hn]; rfl)⟩
theorem at_any (ys : List V) (d : Int) (h0 : 0 ≤ d) (h1 : d < (ys.length : Int)) : ∃ y ∈ ys, atI ys d = some y := by
  obtain ⟨n, rfl⟩ := Int.eq_ofNat_of_zero_le h0
  have hn : n < ys.length := by omega
  exact ⟨ys[n], List.getElem_mem hn, atI_nat (List.getElem?_eq_getElem hn)⟩
theorem go {R : Hp → Prop} {H : Hp} {a : Addr} {o : HO} (n : H a = none) (h : ∀ H', Same H H' → H' a = some o → R H') : R (upd H a o) := h _ (same_upd n) upd_same
theorem goT {α : Type} {R : Hp → α → Prop} {Q : α} {H : Hp} {a : Addr} {o : HO} (n : H a = none) (h : ∀ H', Same H H' → H' a = some o → R H' Q) : R (upd H a o) Q := h _ (same_upd n) upd_same
theorem goU {R : Hp → Prop} {H : Hp} {a : Addr} {o : HO} (h : ∀ H', But a H H' → H' a = some o → R H') : R (upd H a o) := h _ (But.upd _ _ _) upd_same
theorem ev_use {t : TE} {σ : L2.St} {H : Hp} {v : V} {R : VK} (e : ∀ R : VK, R v H → t σ H R) (c : R v H) : t σ H R := e R c
theorem ev_gen {t : TE} {σ : L2.St} {H : Hp} (D : V → Hp → Prop) {R : VK} (e : ∀ R : VK, (∀ v H', D v H' → R v H') → t σ H R) (c : ∀ v H', D v H' → R v H') : t σ H R := e R c
theorem ts_gen {t : TS} {κ : L2.Ends} {σ : L2.St} {H : Hp} (D : L2.St → Hp → Prop) (e : ∀ κ : L2.Ends, (∀ σ' H', D σ' H' → κ.nx σ' H') → t κ σ H) (c : ∀ σ' H', D σ' H' → κ.nx σ' H') : t κ σ H := e κ c
theorem dp_strs {K : PySem.W.Frag} {H : Hp} : ∀ ys : List Str, DpAll K H (ys.map V.str) (ys.map PyData.str)
  | [] => .nil
  | y :: r => .cons (.str y) (dp_strs r)
theorem strOk_of {z : Str} (h : ∀ c ∈ tl z, c < 256) : PyData.strOk z = true := by
  unfold PyData.strOk
  rw [← Array.all_toList]
  exact List.all_eq_true.mpr fun c hc => decide_eq_true (Nat.lt_trans (h c hc) (by decide))
theorem lay_strs : ∀ ys : List Str, (∀ y ∈ ys, PyData.strOk y = true) → PyData.canLayAll0 (ys.map PyData.str) = true ∧ PyData.depthAll (ys.map PyData.str) = 0
  | [], _ => ⟨by simp [PyData.canLayAll0], by simp [PyData.depthAll]⟩
  | y :: r, h => by
    obtain ⟨h1, h2⟩ := lay_strs r fun z hz => h z (List.mem_cons_of_mem _ hz)
    rw [List.map_cons]
    exact ⟨by simp [PyData.canLayAll0, PyData.canLay0, h1, h y List.mem_cons_self], by simp [PyData.depthAll, PyData.depth, h2]⟩
theorem shaped_strs (ys : List Str) (h : ∀ y ∈ ys, PyData.strOk y = true) : SeqAt.shaped (.list (ys.map PyData.str)) = true := by
  obtain ⟨h1, h2⟩ := lay_strs ys h
  unfold SeqAt.shaped
  simp [PyData.canLay0, PyData.depth, h1, h2]
theorem eqv_nil (ds : List PyData) : PyData.eqv (.list ds) (.list []) = ds.isEmpty := by
  cases ds with
  | nil => simp [PyData.eqv, PyData.eqvAll]
  | cons d r => simp [PyData.eqv, PyData.eqvAll]
theorem strs_flat (ys : List Str) : (ys.map V.str).all flatV = true := by
  rw [List.all_map]
  exact List.all_eq_true.mpr fun _ _ => rfl
theorem eqvAll_strs : ∀ xs ys : List Str, PyData.eqvAll (xs.map PyData.str) (ys.map PyData.str) = decide (xs = ys)
  | [], [] => by simp [PyData.eqvAll]
  | [], y :: r => by simp [PyData.eqvAll]
  | x :: r, [] => by simp [PyData.eqvAll]
  | x :: r, y :: t => by
    rw [List.map_cons, List.map_cons]
    simp only [PyData.eqvAll, PyData.eqv]
    rw [eqvAll_strs r t]
    by_cases h : x = y
    · subst h
      by_cases h2 : r = t
      · subst h2
        simp
      · simp [h2]
    · simp [h]
theorem eqv_strs (xs ys : List Str) : PyData.eqv (.list (xs.map PyData.str)) (.list (ys.map PyData.str)) = decide (xs = ys) := by
  simp only [PyData.eqv]
  exact eqvAll_strs xs ys
theorem inV_strs (z : Str) (ys : List Str) : inV (.str z) (ys.map V.str) = decide (z ∈ ys) := by
  unfold inV
  rw [List.any_map]
  induction ys with
  | nil => rfl
  | cons y r ih =>
    rw [List.any_cons, ih]
    show (decide (y = z) || decide (z ∈ r)) = _
    by_cases h : y = z
    · subst h
      simp
    · have h2 : ¬ z = y := fun e => h e.symm
      simp [h, h2]
theorem tl_cut_to (x : Str) (k : Nat) : tl (cutS x none (some (k : Int))) = (tl x).take k := by
  show ((((tl x).drop (HT.sIx x.length 0 none)).take (HT.sIx x.length x.length (some (k : Int)) - HT.sIx x.length 0 none)).toArray).toList = _
  rw [HT.sIx_none, HT.sIx_nat, List.drop_zero, Nat.sub_zero]
  show (tl x).take (min k x.length) = _
  rw [TL.len_tl, ← List.take_take, List.take_length]
theorem tl_cut_from (x : Str) (k : Nat) : tl (cutS x (some (k : Int)) none) = (tl x).drop k := by
  show ((((tl x).drop (HT.sIx x.length 0 (some (k : Int)))).take (HT.sIx x.length x.length none - HT.sIx x.length 0 (some (k : Int)))).toArray).toList = _
  rw [HT.sIx_none, HT.sIx_nat]
  show ((tl x).drop (min k x.length)).take (x.length - min k x.length) = _
  have hl := TL.len_tl x
  by_cases h : k ≤ x.length
  · rw [Nat.min_eq_left h, List.take_of_length_le (by rw [List.length_drop]; omega)]
  · rw [Nat.min_eq_right (by omega), List.drop_of_length_le (by omega), List.drop_of_length_le (by omega), List.take_nil]
theorem fold_toList : ∀ (l : List (Array Nat)) (acc : Array Nat), (l.foldl (· ++ ·) acc).toList = acc.toList ++ (l.map Array.toList).flatten
  | [], acc => by simp
  | x :: l, acc => by
    rw [List.foldl_cons, fold_toList l]
    simp
theorem mul_tl (z : Str) (n : Nat) : (Txt.mul z (n : Int)).cps.toList = (List.replicate n z.cps.toList).flatten := by
  unfold Txt.mul
  by_cases h1 : (n : Int) < 1
  · have e : n = 0 := by omega
    subst e
    rw [if_pos h1]
    rfl
  · rw [if_neg h1]
    by_cases h2 : ((n : Int) == 1 || z.length == 0) = true
    · rw [if_pos h2]
      rcases Bool.or_eq_true_iff.mp h2 with e | e
      · have e1 : n = 1 := by
          have := eq_of_beq e
          omega
        subst e1
        simp
      · have e1 : z.cps.toList = [] := List.length_eq_zero_iff.mp (by
          have := eq_of_beq e
          simpa [Str.length] using this)
        rw [e1]
        simp
    · rw [if_neg h2]
      show ((List.replicate (n : Int).toNat z.cps).foldl (· ++ ·) #[]).toList = _
      rw [fold_toList, Int.toNat_natCast, List.map_replicate]
      rfl
theorem op_mul_str {X : Cx} : OpR X (binaryOp .Mult) (fun x y H Q => ∃ (z : Str) (n : Nat), x = .str z ∧ y = .int (n : Int) ∧ n ≤ 1000 ∧ z.length ≤ 1000 ∧ ∀ y : Str, tl y = (List.replicate n (tl z)).flatten → Q (.str y) H) := by
  intro pins s σ H x y v u Q I rx ry h
  obtain ⟨z, n, rfl, rfl, hn, hz, q⟩ := h
  obtain ⟨tx, rfl⟩ := rx
  obtain ⟨ty, rfl⟩ := ry
  have pw : z.length * n ≤ 1000000 := Nat.le_trans (Nat.mul_le_mul hz hn) (by decide)
  refine PySem.SB.mul ⟨?_, fun h1 h2 => ?_, fun h1 h2 => ?_⟩ fun t' k => ⟨.str _, H, I.tok k, ⟨t', rfl⟩, q _ ?_⟩
  · rw [decide_eq_false (by omega), decide_eq_false (by omega)]
    rfl
  · have e : (1000 : Int) ≤ (2 ^ 63 - 1) / (n : Int) := by
      have h3 : (0 : Int) < n := by omega
      exact (Int.le_ediv_iff_mul_le h3).mpr (by omega)
    omega
  · rw [Int.toNat_natCast]
    exact decide_eq_false (by show ¬ sizeLine < _; have : sizeLine = 16777216 := sizeLine_eq; omega)
  · exact mul_tl z n
theorem tt_use {t : TT} {σ : L2.St} {H : Hp} {b : Bool} {R : Bool → Hp → Prop} (e : ∀ R : Bool → Hp → Prop, R b H → t σ H R) (c : R b H) : t σ H R := e R c
theorem str_ext {a b : Str} (h : tl a = tl b) : a = b := by
  cases a; cases b
  exact congrArg Str.mk (Array.toList_inj.mp h)
abbrev B8 : Nat → Prop := fun c => c < 256
theorem Pot.same {H H' : Hp} {p : Addr} (h : Pot H p) (s : Same H H') : Pot H' p := by
  obtain ⟨x, y, e, h1, h2⟩ := h
  exact ⟨x, y, s _ _ e, h1, h2⟩
end WB

set_option Elab.async false
set_option linter.all false
set_option maxRecDepth 100000
set_option maxHeartbeats 4000000
namespace WG
open PySem PySem.Spec PyProof.Rows L2
/-! ### a def's promise where no repr is under way -/
structure GOk (P : Program) (w : World) (K : PySem.W.Frag) (mg : Str → Option Value) (base : Heap) (CX : CXT) (k : Nat) (f : Addr) (fd : FuncData) (ps : List Str) (sp : Sp) : Prop where
  len : ∀ vs H Q E, sp vs H Q E → vs.length = ps.length
  run : ∀ (A : Around) (outer : List Env) (s : Shared) (H : Hp) (args : Args) (us : List Value) (vs : List V) (Q : VK) (E : XK), A.guards = some [] → Room k A → Env0 P w K mg base A outer s H →
    BindsTo s fd args (ps.zip us) → Vals vs us → sp vs H Q E → codeAny (model P w) A (.call (.ref f) args) (CR CX outer P w H s Q E) s
theorem GOk.of {P : Program} {w : World} {K : PySem.W.Frag} {mg : Str → Option Value} {base : Heap} {CX : CXT} {k : Nat} {f : Addr} {fd : FuncData} {ps : List Str} {sp : Sp} (F : FnOk P w K mg base CX k f fd ps sp) : GOk P w K mg base CX k f fd ps sp :=
  ⟨F.len, fun A o s H args us vs Q E _ => F.run A o s H args us vs Q E⟩
section
variable {CX : CXT} {P : Program} {w : World} {K : PySem.W.Frag} {mg : Str → Option Value} {base : Heap} {k : Nat} {f : Addr} {N ps : List Str} {sp : Sp}
theorem gfn_of {name qual : Str} {params : Arguments} {body : List Stmt} {scope : Scope} {dV kV doc pm cdv ct oc : Value} {an od : Option Addr} {osl : Array (Option Value)}
    (lk : K.lookup f = some ⟨oc, od, .func (PySem.W.fnOf name qual params body scope dV kV doc pm an cdv ct), osl⟩) (hcd : PySem.W.codeIn K cdv qual = true) (S : FnScope N ps scope) (len : ∀ vs H Q E, sp vs H Q E → vs.length = ps.length)
    (hbody : ∀ (A : Around) (outer : List Env) (s : Shared) (H : Hp) (vs : List V) (Q : VK) (E : XK), A.guards = some [] → Room k (A.deeper (envOfC qual scope s.heap.objs.size f cdv)) → sp vs H Q E →
      ∃ t, PSs (cxOf CX P w K mg base N qual scope f cdv A outer s H E) body t ∧ t { nx := fun _ H' => Q .non H', rt := Q } (L2.start N vs) H) :
    GOk P w K mg base CX (k + 1) f (PySem.W.fnOf name qual params body scope dV kV doc pm an cdv ct) ps sp := by
  refine ⟨len, fun A outer s H args us vs Q E hgd room env bnd rel want => ?_⟩
  have hlen := len _ _ _ _ want
  have kin : K.In s.heap := env.mod.kin.keeps fun b o q => (env.bs b o q).1
  have nolim : s.heap.NoLimit := env.mod.nolimit.keeps fun b o q => (env.bs b o q).1
  have kinds : ∀ y ∈ ps.zip us, scope.names.lookup y.1 = some .local ∨ (scope.names.lookup y.1 = some .cell ∧ ((cellsFrom (s.heap.objs.size + 1) scope.names []).lookup y.1).isSome = true) := by
    intro y hy
    obtain ⟨n, v⟩ := y
    cases S.par n (List.of_mem_zip hy).1 with
    | inl z => exact .inl z
    | inr z => exact .inr ⟨z, PySem.W.cellsFrom_some _ _ _ (.inl z)⟩
  refine codeAny_call_function room.depth (kin _ _ lk) rfl S.co S.gen rfl (PySem.W.codeRec_of kin hcd) (bnd _ _ _ _ ?_)
  refine wpAny_newFunctionEnv_cells S.kind kinds fun e2 he2 s1 hx => ?_
  subst he2
  refine ⟨nolim.keeps hx.toInCall.keep, codeAny_func ?_⟩
  obtain ⟨t, tb, tq⟩ := hbody A outer s H vs Q E hgd (room.deeper _) want
  have I : Inv (cxOf CX P w K mg base N qual scope f cdv A outer s H E) [] (L2.start N vs) H s1 := inv_start S room.hd env hlen rel hx
  refine wpAny_mono (tb.run [] s1 (L2.start N vs) H _ I tq) (fun fl s' hs => ?_) fun e s' hs => hs
  cases fl with
  | ret u =>
    obtain ⟨v, _, H', J, rv, q⟩ := hs
    exact ⟨v, H', J.os, J.bare, J.base, J.hok, rv, q⟩
  | next =>
    obtain ⟨_, H', J, q⟩ := hs
    exact ⟨V.non, H', J.os, J.bare, J.base, J.hok, rfl, q⟩
  | brk =>
    obtain ⟨_, _, _, q⟩ := hs
    exact False.elim q
  | cont =>
    obtain ⟨_, _, _, q⟩ := hs
    exact False.elim q
theorem gfun_ok {x qual : Str} {st : Stmt} {fd : FuncData} (F : Fun K x qual st f fd) (S : FnScope N ps (defScope st)) (len : ∀ vs H Q E, sp vs H Q E → vs.length = ps.length)
    (hbody : ∀ (cdv : Value) (A : Around) (outer : List Env) (s : Shared) (H : Hp) (vs : List V) (Q : VK) (E : XK), A.guards = some [] → Room k (A.deeper (envOfC qual (defScope st) s.heap.objs.size f cdv)) → sp vs H Q E →
      ∃ t, PSs (cxOf CX P w K mg base N qual (defScope st) f cdv A outer s H E) (defBody st) t ∧ t { nx := fun _ H' => Q .non H', rt := Q } (L2.start N vs) H) : GOk P w K mg base CX (k + 1) f fd ps sp := by
  obtain ⟨oc, od, kV, doc, pm, an, cdv, ct, osl, rfl, lk, hcd⟩ := F.ex
  exact gfn_of lk hcd S len fun A outer s H vs Q E hg hr hsp => hbody cdv A outer s H vs Q E hg hr hsp
end
section
variable {X : Cx} {CX : CXT} {k : Nat} {f : Addr} {fd : FuncData} {ps : List Str} {sp : Sp} {E : XK} {x : Str} {p pos : Pos} {e : Expr} {es : List Expr} {t : TA}
theorem pe_callG (F : GOk X.prog X.w X.K X.mg X.base CX k f fd ps sp) (hgd : X.A.guards = some []) (hr : Room k X.A) (hg : Gl X x) (hm : X.mg x = some (.ref f)) (hk : PySem.W.keepIn X.K (.ref f) = true) (hb : Binds X.K fd ps []) (hx : Passes CX X E)
    (ha : PA X (e :: es) t) (hdb : (x == ("__debug__" : Str)) = false := by decide) (he : starEach (e :: es) X.env = (false, eval e X.env) :: starEach es X.env := by rfl) (hpl : (backTo pos (starEach es X.env)).any (·.1) = false := by rfl) :
    PE X (.Call (.Name x p) (e :: es) [] pos) (tCall sp [] E t) := by
  constructor
  intro pins s σ H Q I h
  refine wpAny_Call_Name_kw (ld_glob I hg hm ?_ hdb)
  refine PySem.W.callWith_K (h₀ := X.base) I.ok.mod.kin hk (thn (ha.run pos pins s σ H _ I h) fun us s1 ⟨vs, H1, I1, r, q⟩ => ⟨I1.kIn, ?_⟩) he hpl
  have q : sp vs H1 Q E := by
    have z : sp (vs ++ []) H1 Q E := q
    rw [List.append_nil] at z
    exact z
  have hl : (us ++ []).length = ps.length := by
    rw [List.append_nil, ← r.length]
    exact F.len _ _ _ _ q
  have b := hb s1 us I1.kIn hl
  rw [List.append_nil] at b
  refine wpAny_call (codeAny_mono (F.run X.A X.stack s1 H1 ⟨us, []⟩ us vs Q E hgd hr I1.env0 b r q) fun rr s' hq => ?_)
  cases rr with
  | error er => exact hx pins σ H1 s1 er s' I1 hq
  | ok fl =>
    cases fl with
    | ret u => exact I1.after hq
    | next => exact hq.elim
    | brk => exact hq.elim
    | cont => exact hq.elim
end
/-! ### the law's end over such a promise -/
theorem glaw_call {P : Program} {w : World} {K : PySem.W.Frag} {mg mb : Str → Option Value} {CX : CXT} {k : Nat} {fa a : Addr} {fd : FuncData} {x : Str} {sp : Sp} {t : Shared} {vs : List Value} {ns : List Int}
    (kin : K.In t.heap) (nsm : t.heap.Ns mainGlobals mg) (nsb : t.heap.Ns builtinsNs mb) (hbb : ∀ x : Str, x ≠ "__name__" → mb x = bootBuiltins x) (nolim : t.heap.NoLimit) (nogen : t.gens = #[])
    (obj : t.heap.get? a = some { cls := .type "list", data := .seq vs.toArray }) (hints : IntsAre vs ns) (hl : ns.length ≤ sizeLine) (room : Room k callerA)
    (F : ∀ base : Heap, K.In base → base.Ns mainGlobals mg → GOk P w K mg base CX k fa fd [x] sp) (bnd : ∀ (s : Shared) (u : Value), BindsTo s fd ⟨[u], []⟩ [(x, u)])
    (want : ∀ H : Hp, Only H → SqL K H a (ns.map V.int) → sp [.ref a] H (fun v _ => v = .bl true) fun _ _ _ => False)
    (noX : ∀ H e s', CX [] H t (fun _ _ _ => False) e s' → False) :
    codeAny (model P w) callerA (.call (.ref fa) ⟨[.ref a], []⟩) (fun r s' => r = .ok (.ret (.bool true)) ∧ OldK t.heap s'.heap ∧ s'.os = t.os ∧ AllBare s'.gens) t := by
  have rv := vals_ints hints
  have hlv := hints.length
  have main : ∀ H : Hp, Only H → SqL K H a (ns.map V.int) → HOk P w H t.heap → (∀ b, H b ≠ none → b = a) → (H a ≠ none → K.lookup a = none) →
      codeAny (model P w) callerA (.call (.ref fa) ⟨[.ref a], []⟩) (fun r s' => r = .ok (.ret (.bool true)) ∧ OldK t.heap s'.heap ∧ s'.os = t.os ∧ AllBare s'.gens) t := by
    intro H only hS ok onlyA hK
    have noD : ∀ {b : Addr} {o : Obj} {es : Array DictEntry} {ep : Nat}, t.heap.get? b = some o → o.data = .dict es ep → H b = none := by
      intro b o es ep e d
      cases q : H b with
      | none => rfl
      | some u =>
        have z := onlyA b (by rw [q]; exact Option.some_ne_none u)
        subst z
        rw [obj] at e
        cases e
        cases d
    have nsH : ∀ {b : Addr} {m : Str → Option Value}, t.heap.Ns b m → (hidT t.heap H).Ns b m := by
      rintro b m ⟨o, es, ep, e, d, r⟩
      exact ⟨o, es, ep, hidT_get e (noD e d), d, r⟩
    have kinH : K.In (hidT t.heap H) := by
      intro b o e
      refine hidT_get (kin b o e) ?_
      cases q : H b with
      | none => rfl
      | some u =>
        have z := onlyA b (by rw [q]; exact Option.some_ne_none u)
        subst z
        rw [hK (by rw [q]; exact Option.some_ne_none u)] at e
        cases e
    have md : Mod K mg (hidT t.heap H) := by
      refine ⟨kinH, nsH nsm, ⟨mb, nsH nsb, hbb⟩, ?_⟩
      obtain ⟨mc, h1, h2⟩ := nolim
      exact ⟨mc, nsH h1, h2⟩
    have env : Env0 P w K mg (hidT t.heap H) callerA [] t H :=
      ⟨rfl, md, fun b o e => of_hidT e, Nat.le_of_eq (hidT_size _ _), trivial, fun b hb => (List.not_mem_nil (show b ∈ ([] : List Addr) from hb)).elim, ok, .of_eq nogen⟩
    refine codeAny_mono ((F _ kinH (nsH nsm)).run callerA [] t H ⟨[.ref a], []⟩ [.ref a] [.ref a] _ _ rfl room env (bnd t (.ref a)) (.cons rfl .nil) (want H only hS)) fun r s' h => ?_
    cases r with
    | error e => exact (noX H e s' h).elim
    | ok fl =>
      cases fl with
      | next => exact h.elim
      | brk => exact h.elim
      | cont => exact h.elim
      | ret u =>
        obtain ⟨v, H', os, bare, un, ok', r', q⟩ := h
        have q' : v = .bl true := q
        subst q'
        cases r'
        refine ⟨rfl, OldK.of_keep fun b o e => ?_, os, bare⟩
        cases q : H b with
        | none => exact un.keep b o e q (fun z => (List.not_mem_nil (show b ∈ ([] : List Addr) from z)).elim) List.not_mem_nil
        | some u =>
          rcases only b with z | ⟨ob, xs, z⟩
          · rw [q] at z
            cases z
          · obtain ⟨e1, _⟩ := ok b _ z
            obtain ⟨e2, _⟩ := ok' b _ (un.frzs b ob _ z)
            rw [e] at e1
            cases e1
            exact e2
  cases hk : K.lookup a with
  | some o =>
    have e := kin a o hk
    rw [obj] at e
    cases e
    refine main (fun _ => none) (fun _ => .inl rfl) (.inr ⟨_, vs.toArray, _, hk, rfl, rfl, rfl, ?_, by simpa using rv⟩) (fun b u z => by cases (show (none : Option HO) = some u from z)) (fun b z => absurd rfl z) fun z => absurd rfl z
    rw [List.size_toArray, hlv]
    exact hl
  | none =>
    refine main (fun b => if b = a then some (.frz { cls := .type "list", data := .seq vs.toArray } (.lst (ns.map V.int))) else none) (fun b => ?_) (.inl (.inr ⟨_, if_pos rfl⟩)) (fun b u z => ?_) (fun b z => ?_) fun _ => hk
    · by_cases hb : b = a
      · exact .inr ⟨_, _, if_pos hb⟩
      · exact .inl (if_neg hb)
    · by_cases hb : b = a
      · have z' := (if_pos hb).symm.trans z
        cases z'
        subst hb
        exact ⟨obj, by rw [List.length_map]; exact hl, vs, _, rv, obj⟩
      · have z' := (if_neg hb).symm.trans z
        cases z'
    · by_cases hb : b = a
      · exact hb
      · exact absurd (if_neg hb) z
theorem gwalk_of {l : PySem.W.OpenLaw} {n k : Nat} {q : Program} {loose : List Str} {XP : (Str → Option Value) → Heap → Prop} {YP : World → Heap → Prop} {d : DefRec} {K : Params → PySem.W.Frag} {CX : World → CXT} {sp : World → Sp} {x : Str}
    (hn : l.most = some n) (hn2 : n ≤ sizeLine) (hdf : d.params.defaults = []) (hr : Room k callerA) (hY : ∀ (w : World) (h : Heap), YP w h → (K w.params).In h)
    (F : ∀ (w : World) (mg : Str → Option Value) (fa : Addr) (h : Heap), (K w.params).In h → h.Ns mainGlobals mg → mg d.name = some (.ref fa) →
      ∃ fd : FuncData, (∀ (s : Shared) (u : Value), BindsTo s fd ⟨[u], []⟩ [(x, u)]) ∧ ∀ base : Heap, (K w.params).In base → base.Ns mainGlobals mg → GOk l.prog w (K w.params) mg base (CX w) k fa fd [x] (sp w))
    (hsp : ∀ (w : World) (H : Hp) (a : Addr) (ns : List Int), ns.length ≤ n → Only H → SqL (K w.params) H a (ns.map V.int) → sp w [.ref a] H (fun v _ => v = .bl true) fun _ _ _ => False)
    (hCX : ∀ (w : World) (H : Hp) (s : Shared) (e : Value) (s' : Shared), CX w [] H s (fun _ _ _ => False) e s' → False) : PySem.W.WalkO q loose XP YP l.row.toRowW d [] (fun f vs => PySem.call f vs) := by
  refine Att.attach_call hn hdf fun w s0 s1 mg mb fa o pm cd doc a vs ns G Y ho hd hcd hmg hobj hints hlen hg => ?_
  obtain ⟨fd, hb, hF⟩ := F w mg fa _ (hY w _ Y) G.T.g hmg
  exact glaw_call (hY w _ Y) G.T.g G.T.b G.T.builtins G.T.nolimit hg hobj hints (Nat.le_trans hlen hn2) hr hF hb (fun H hO hS => hsp w H a ns hlen hO hS) fun H e s' => hCX w H s1 e s'
/-! ### text * int -/
theorem fold_toList : ∀ (l : List (Array Nat)) (acc : Array Nat), (l.foldl (· ++ ·) acc).toList = acc.toList ++ (l.map Array.toList).flatten
  | [], acc => by simp
  | x :: l, acc => by
    rw [List.foldl_cons, fold_toList l]
    simp
theorem mul_tl (z : Str) (n : Nat) : (Txt.mul z (n : Int)).cps.toList = (List.replicate n z.cps.toList).flatten := by
  unfold Txt.mul
  by_cases h1 : (n : Int) < 1
  · have e : n = 0 := by omega
    subst e
    rw [if_pos h1]
    rfl
  · rw [if_neg h1]
    by_cases h2 : ((n : Int) == 1 || z.length == 0) = true
    · rw [if_pos h2]
      rcases Bool.or_eq_true_iff.mp h2 with e | e
      · have e1 : n = 1 := by
          have := eq_of_beq e
          omega
        subst e1
        simp
      · have e1 : z.cps.toList = [] := List.length_eq_zero_iff.mp (by
          have := eq_of_beq e
          simpa [Str.length] using this)
        rw [e1]
        simp
    · rw [if_neg h2]
      show ((List.replicate (n : Int).toNat z.cps).foldl (· ++ ·) #[]).toList = _
      rw [fold_toList, Int.toNat_natCast, List.map_replicate]
      rfl
theorem op_mul_str {X : Cx} : OpR X (binaryOp .Mult) (fun x y H Q => ∃ (z : Str) (n : Nat), x = .str z ∧ y = .int (n : Int) ∧ n ≤ 1000 ∧ z.length ≤ 1000 ∧ ∀ y : Str, y.length = z.length * n → (∀ c ∈ y.cps.toList, c ∈ z.cps.toList) → Q (.str y) H) := by
  intro pins s σ H x y v u Q I rx ry h
  obtain ⟨z, n, rfl, rfl, hn, hz, q⟩ := h
  obtain ⟨tx, rfl⟩ := rx
  obtain ⟨ty, rfl⟩ := ry
  have pw : z.length * n ≤ 1000000 := Nat.le_trans (Nat.mul_le_mul hz hn) (by decide)
  refine PySem.SB.mul ⟨?_, fun h1 h2 => ?_, fun h1 h2 => ?_⟩ fun t' k => ⟨.str _, H, I.tok k, ⟨t', rfl⟩, q _ ?_ ?_⟩
  · rw [decide_eq_false (by omega), decide_eq_false (by omega)]
    rfl
  · have e : (1000 : Int) ≤ (2 ^ 63 - 1) / (n : Int) := by
      have h3 : (0 : Int) < n := by omega
      exact (Int.le_ediv_iff_mul_le h3).mpr (by omega)
    omega
  · rw [Int.toNat_natCast]
    exact decide_eq_false (by show ¬ sizeLine < _; have : sizeLine = 16777216 := sizeLine_eq; omega)
  · rw [TL.len_tl, TL.len_tl z]
    show (Txt.mul z (n : Int)).cps.toList.length = _
    rw [mul_tl]
    simp [Nat.mul_comm]
  · intro c hc
    rw [mul_tl] at hc
    obtain ⟨l, hl, hcl⟩ := List.mem_flatten.mp hc
    rw [(List.mem_replicate.mp hl).2] at hcl
    exact hcl
/-! ### repr of a list -/
/-- a value and the data that it is: as in Dp, and dicts of none or one text with an int -/
inductive Itm (K : PySem.W.Frag) (H : Hp) : V → PyData → Prop
  | dp {v : V} {d : PyData} (h : Dp K H v d) (nd : d.hasDict = false) : Itm K H v d
  | d0 {a : Addr} (h : H a = some (.dK [])) : Itm K H (.ref a) (.dict [])
  | d1 {a : Addr} {x : Str} {i : Int} (h : H a = some (.dK [(Sum.inr x, .int i)])) : Itm K H (.ref a) (.dict [(.str x, .int i)])
inductive ItmAll (K : PySem.W.Frag) (H : Hp) : List V → List PyData → Prop
  | nil : ItmAll K H [] []
  | cons {v : V} {vs : List V} {d : PyData} {ds : List PyData} : Itm K H v d → ItmAll K H vs ds → ItmAll K H (v :: vs) (d :: ds)
section
variable {X : Cx} {pins : List (Addr × Obj)} {σ : L2.St} {H : Hp} {s : Shared}
theorem Itm.reads (I : Inv X pins σ H s) {v : V} {u : Value} {d : PyData} (h : Itm X.K H v d) (r : RelV v u) : ∃ as, Reads s.heap u d as ∧ (d.hasDict = true → sysModules ∉ as) := by
  cases h with
  | dp h nd =>
    obtain ⟨as, q⟩ := Dp.reads I d v u h r
    exact ⟨as, q, fun z => by rw [nd] at z; cases z⟩
  | @d0 a h =>
    cases r
    obtain ⟨_, ns, vs, kv, o, es, ep, ho, hx, hd, hk, hp, _⟩ := I.hok _ _ h
    cases kv
    generalize hl : es.toList = l at hp
    cases hp
    refine ⟨_, Reads.dict (kvs := []) (as := []) (bs := []) ho hx.1 hd (by rw [hl]; exact .nil) (by rw [hl]; exact .nil), fun _ => ?_⟩
    intro hm
    rcases List.mem_cons.mp hm with e | e
    · rw [← e] at ns
      exact absurd ns (by decide)
    · cases e
  | @d1 a x i h =>
    cases r
    obtain ⟨_, ns, vs, kv, o, es, ep, ho, hx, hd, hk, hp, _⟩ := I.hok _ _ h
    cases kv with
    | cons h1 h2 =>
      cases h2
      obtain ⟨e1, t, e2⟩ := h1
      rename_i b nd2
      obtain ⟨b1, b2⟩ := b
      dsimp only at e1 e2
      subst e1 e2
      generalize hl : es.toList = l at hp
      cases hp with
      | cons k1 k2 k3 =>
        cases k3
        rename_i en
        obtain ⟨hh, ky, vl⟩ := en
        dsimp only at k1 k2
        subst k2
        have k1' : keyIs (Sum.inr x) ky = true := k1
        rcases keyIs_shape k1' with ⟨j, t', z, _⟩ | ⟨y, t', z, rfl⟩
        · cases z
        · cases z
          refine ⟨_, Reads.dict (kvs := [(.str x, .int i)]) ho hx.1 hd (by rw [hl]; exact .cons (.str x t') .nil) (by rw [hl]; exact .cons (.int i t) .nil), fun _ => ?_⟩
          intro hm
          rcases List.mem_cons.mp hm with e | e
          · rw [← e] at ns
            exact absurd ns (by decide)
          · cases e
theorem ItmAll.all (I : Inv X pins σ H s) : ∀ {vs : List V} {ds : List PyData} {us : List Value}, ItmAll X.K H vs ds → Vals vs us → PyData.showableAll ds = true → (∀ t ∈ PyData.shownAll ds, t.length ≤ sizeLine) →
    (∃ as, ReadsAll s.heap us ds as) ∧ ∃ bs, ReadAtMost s.heap (PyData.depthAll ds) bs ∧ ReprAllK X.prog X.w bs s.heap (PyData.depthAll ds) us (PyData.shownAll ds)
  | _, _, _, .nil, .nil, _, _ => ⟨⟨_, .nil⟩, [], (fun _ h => nomatch h), by simp only [PyData.shownAll]; exact .nil⟩
  | _, _, _, .cons (d := d) (ds := ds) h1 h2, .cons r1 r2, hs, hz => by
    have hs' : d.showable = true ∧ PyData.showableAll ds = true := by simpa [PyData.showableAll] using hs
    obtain ⟨as, q, nq⟩ := h1.reads I r1
    obtain ⟨⟨as2, q2⟩, bs2, b2, k2⟩ := ItmAll.all I h2 r2 hs'.2 (fun t ht => hz t (by simp only [PyData.shownAll]; exact List.mem_cons_of_mem _ ht))
    obtain ⟨bs1, b1, k1⟩ := ReprK.of_reads (prog := X.prog) (w := X.w) q hs'.1 nq (hz _ (by simp only [PyData.shownAll]; exact List.mem_cons_self ..))
    refine ⟨⟨_, .cons q q2⟩, bs1 ++ bs2, ?_, ?_⟩
    · have e1 : d.depth ≤ PyData.depthAll (d :: ds) := by simp only [PyData.depthAll]; omega
      have e2 : PyData.depthAll ds ≤ PyData.depthAll (d :: ds) := by simp only [PyData.depthAll]; omega
      exact (b1.mono e1).append (b2.mono e2)
    · have e1 : d.depth ≤ PyData.depthAll (d :: ds) := by simp only [PyData.depthAll]; omega
      have e2 : PyData.depthAll ds ≤ PyData.depthAll (d :: ds) := by simp only [PyData.depthAll]; omega
      simp only [PyData.shownAll]
      exact .cons ((k1.more fun b hb => List.mem_append_left _ hb).level_le e1) (k2.more_le (fun b hb => List.mem_append_right _ hb) e2)
/-- repr(l) -/
def rRepr (K : PySem.W.Frag) : List V → Hp → VK → Prop := fun xs H Q => ∃ (a : Addr) (vs : List V) (ds : List PyData), xs = [.ref a] ∧ SqL K H a vs ∧ vs ≠ [] ∧ ItmAll K H vs ds ∧ PyData.showableAll ds = true ∧ PyData.depthAll ds ≤ 8 ∧
  (listText (PyData.shownAll ds)).length ≤ sizeLine ∧ Q (.str (listText (PyData.shownAll ds))) H
end
theorem call_repr_l {X : Cx} (hg : X.A.guards = some []) (hu : X.A.units + 16 < cLine) : CallR X (.builtin "repr") (rRepr X.K) := by
  intro pins s σ H xs us Q I r h
  obtain ⟨a, vs, ds, rfl, hS, hne, hI, hs, hdp, hz, q⟩ := h
  cases r with
  | cons ra rr =>
    cases rr
    cases ra
    obtain ⟨its, rv, ⟨o, n, ho, hc, hdx, hd⟩, _⟩ := I.list hS
    obtain ⟨⟨as, hr⟩, bs, hb, hk⟩ := ItmAll.all I hI rv hs (fun t ht => Nat.le_trans (listText_mem_le ht) hz)
    cases its with
    | nil =>
      cases rv
      exact absurd rfl hne
    | cons x l =>
      have rd : Reads s.heap (.ref a) (.list ds) _ := Reads.list ho hc hd hr
      have hna : a ∉ bs := not_mem_of_deeper rd (by simp only [PyData.depth]; omega) hb
      refine call_repr_slot (T := "list") (idr := "list.__repr__") (by omega) ⟨o, ho, hc⟩ F.slot_list_repr.toG ?_
      exact call_list_reprK (h₀ := s.heap) (as := bs) ho hc hd hna (by simpa using hk.length_eq) (fun i y e => hk.item i y (by simpa using e)) (g := []) hg (fun b _ => Clear.nil b) (by show X.A.units + 1 + (_ + 1) < cLine; omega) (fun _ _ e => e)
        (fun h' u tk hkp => ⟨_, _, rfl, .str _, H, I.kept (t' := tk) hkp, ⟨u, rfl⟩, q⟩) hz
end WG

set_option Elab.async false
set_option linter.all false
set_option maxRecDepth 100000
set_option maxHeartbeats 4000000
namespace WG
open PySem PySem.Spec PySem.Calls PyProof.Rows PySem.W
section
variable {prog : Program} {w : World} {A : Around} {E : Value → Shared → Prop} {s : Shared} {K : Frag} {x D : Addr} {ox : Obj} {od : Option Obj}
theorem find_dat {C : Addr} {name : Str} {a g : Value} (hc : (clsIn K C).isSome = true) (ha : findIn K (.ref C) name = some (some a)) (hg : specialIn K a "__get__" = some (some g)) (ht : takesIn K a = some true) :
    findObj K C od name = some (.bind g a) := by
  obtain ⟨cd, hcd⟩ := Option.isSome_iff_exists.mp hc
  unfold findObj
  rw [hcd, Option.bind_some, ha, Option.bind_some]
  simp [hg, ht]
theorem exc_class {Q : Option Value → Shared → Prop} (c : L2.ExcC K D) (kin : K.In s.heap) (at0 : InstAt s.heap x ox D od) (h : Q (some (.ref D)) { s with toks := s.toks + 1 }) : wpAny (model prog w) A (getAttr? (.ref x) "__class__") Q E s := by
  have hf : findObj K D od "__class__" = some (.bind (.builtin "getset_descriptor.__get__") (.builtin "object.__class__")) := by
    refine find_dat ?_ c.ha c.hn c.ht
    obtain ⟨cd, hcd, _⟩ := any_some c.hd
    rw [hcd] <;> rfl
  obtain ⟨hh, gs, dr, tk, os⟩ := s
  have t0 := at0.type (M := model prog w)
  have t1 := looks_findIn (M := model prog w) kin c.hg
  have t2 := looks_findIn (M := model prog w) kin c.hk
  have t3 := looks_find (M := model prog w) kin at0 hf
  have isb : Looks (model prog w) hh (isInstance (.ref x) (.type "BaseException")) true := t0.andThen (looks_subIn kin c.hs)
  have z0 : (false && onTheHeap (Value.builtin "BaseException.__getattribute__")) = false := rfl
  have z2 : (Value.builtin "BaseException.__getattribute__" == Value.builtin "object.__getattribute__") = false := by decide +kernel
  have z1 : (onTheHeap (Value.ref D) && Value.builtin "BaseException.__getattribute__" == Value.builtin "object.__getattribute__") = false := by
    rw [z2]
    rfl
  unfold getAttr? getAttrBy? getAttrBy
  refine wpAny_bind (wpAny_mkText (wpAny_bind (wpAny_attempt (wpAny_holding (wpAny_bind (t0.at (wpAny_bind (t1.at ?_))))))))
  show wpAny _ _ (if (onTheHeap (Value.ref D) && Value.builtin "BaseException.__getattribute__" == Value.builtin "object.__getattribute__") = true then _ else _) _ _ _
  rw [z1, if_neg Bool.false_ne_true]
  unfold getAttrByItsOwn hookBefore
  refine wpAny_bind ?_
  rw [if_pos (show onTheHeap (Value.ref D) = true from rfl)]
  refine t2.at (wpAny_bind (wpAny_attempt (wpAny_holding ?_)))
  unfold callGetattribute
  rw [z0, if_neg Bool.false_ne_true]
  unfold boundAndCalled
  rw [PySem.F.excAttr_ValueError.ga.bind (.ref x)]
  refine wpAny_bind (wpAny_pure ?_)
  show wpAny _ _ (call (.builtin "BaseException.__getattribute__") [.ref x, .str "__class__" tk]) _ _ _
  refine wpAny_call (codeAny_call_builtin PySem.F.excAttr_ValueError.ga.plain PySem.F.entry_bexc_ga ?_)
  refine @check_slot (model prog w) _ _ ⟨hh, gs, dr, tk + 1, os⟩ "BaseException.__getattribute__" "BaseException" "__getattribute__" (.ref x) [.str "__class__" tk] [] _ (by decide +kernel) (by decide +kernel) isb (PySem.F.args_bexc_ga (.ref x) (.str "__class__" tk)) ?_
  unfold Builtin.«object.__getattribute__»
  refine wpAny_bind (wpAny_of_eq (a := ((Value.ref x : Value), [Value.str "__class__" tk])) (by first | rfl | (simp only [slotArgs]; rfl)) ?_)
  refine wpAny_bind (wpAny_pure (wpAny_bind (t0.at (wpAny_bind (t3.at ?_)))))
  show wpAny _ _ (holding [Value.builtin "object.__class__"] (call (.builtin "getset_descriptor.__get__") [.builtin "object.__class__", .ref x, .ref D]) >>= ret) _ _ _
  refine wpAny_bind (wpAny_holding (wpAny_call (class_get (s := ⟨hh, gs, dr, tk + 1, os⟩) (ox := ox) (od := od) kin at0 c.hm ?_)))
  refine wpAny_pure ?_
  show wpAny _ _ (handedOut (.ref D)) _ _ _
  rw [handedOut_of (v := .ref D) rfl]
  first
    | exact wpAny_pure (wpAny_pure h)
    | exact wpAny_pure h
    | exact wpAny_pure (wpAny_bind (wpAny_pure (wpAny_pure h)))
theorem kit_exc (c : L2.ExcC K D) : KitX K (.ref x) (.ref D) (fun h => InstAt h x ox D od) := by
  obtain ⟨cd, hcd, _⟩ := any_some c.hd
  obtain ⟨o, ho, hdo⟩ : ∃ o, K.lookup D = some o ∧ o.data = .cls cd := by
    unfold clsIn at hcd
    split at hcd
    · rename_i c' d' cd' sl' hk
      cases hcd
      exact ⟨_, hk, rfl⟩
    · cases hcd
  obtain ⟨oc, odd, oda, osl⟩ := o
  dsimp only at hdo
  subst hdo
  refine { ty := fun _ _ _ J => J.type, it := fun _ _ kin _ => ?_, ne := fun h tp dd its n sl kin htp => ?_, ca := fun kin J k => exc_class c kin J k }
  · intro A' Q' E' s' kp q
    unfold isType loadHead
    exact wpAny_bind (wpAny_loadPart (kp _ _ (kin _ _ ho)) (wpAny_pure q))
  · refine Bool.eq_false_iff.mpr fun q => ?_
    have e : D = tp := Value.ref.inj (beq_iff_eq.mp q)
    subst e
    have z := (kin _ _ ho).symm.trans htp
    cases z
end
end WG
namespace WG
open PySem PySem.Spec PyProof.Rows L2
/-- isinstance(e, c), e the caught exception at a with its own dict -/
def rIsD (K : PySem.W.Frag) (a : Addr) (cls : Value) (d : Option Addr) : List V → Hp → VK → Prop := fun xs H Q => ∃ (D dd : Addr) (fs : List (Str × V)) (c : V) (cv : Value) (b : Bool), cls = .ref D ∧ d = some dd ∧ H dd = some (.xd fs) ∧ ExcC K D ∧
  xs = [.ref a, c] ∧ (∀ u, RelV c u → u = cv) ∧ PySem.W.kitOne K (.ref D) cv = some b ∧ Q (.bl b) H
theorem call_isD {X : Cx} {a : Addr} {oe : Obj} {cls : Value} {d : Option Addr} {pn : List (Addr × Obj)} (hz : Zc cls d oe) (hf : ∃ vs, oe.data = .fields vs) : CallR (X.suite a ((a, oe) :: pn)) (.builtin "isinstance") (rIsD X.K a cls d) := by
  intro pins s σ H xs us Q I r h
  obtain ⟨D, dd, fs, cl, cv, b, rfl, rfl, hx, c, rfl, hcv, e, q⟩ := h
  cases r with
  | cons rx rr =>
    cases rr with
    | cons rt rr =>
      cases rr
      cases rx
      have ec := hcv _ rt
      subst ec
      obtain ⟨hget, _⟩ := I.pin (a, oe) (List.mem_append.mpr (.inl List.mem_cons_self))
      obtain ⟨vs, hv⟩ := hf
      obtain ⟨mA, hns, _⟩ := I.hok dd _ hx
      obtain ⟨od, ho, _⟩ := lookIn_ns hns
      have J : PySem.W.InstAt s.heap a oe D (some od) := ⟨hget, hz.1, by unfold PySem.W.notCls; rw [hv] <;> rfl, by rw [hz.2]; exact ho⟩
      exact PySem.W.kia_one (kit_exc c) I.kIn J e (fun z => nomatch z) fun tk => ⟨.bl b, H, I.kept (t' := tk) fun _ _ z => z, rfl, q⟩
end WG

set_option Elab.async false
set_option linter.all false
set_option maxRecDepth 100000
set_option maxHeartbeats 4000000
namespace WG
open PySem PySem.Spec PyProof.Rows L2
/-! ### the law's end where one table of code objects may grow -/
def OnlyT (T : Addr) (H : Hp) : Prop := ∀ b, H b = none ∨ b = T ∨ ∃ o xs, H b = some (.frz o (.lst xs))
theorem glaw_callT {P : Program} {w : World} {K : PySem.W.Frag} {mg mb : Str → Option Value} {CX : CXT} {k : Nat} {fa a c T : Addr} {fd : FuncData} {x : Str} {sp : Sp} {t : Shared} {vs : List Value} {ns : List Int}
    (kin : K.In t.heap) (nsm : t.heap.Ns mainGlobals mg) (nsb : t.heap.Ns builtinsNs mb) (hbb : ∀ x : Str, x ≠ "__name__" → mb x = bootBuiltins x) (nolim : t.heap.NoLimit) (nogen : t.gens = #[])
    (tab : t.heap.get? T = some { cls := .none, data := .fields #[] }) (tabK : K.lookup T = none) (head : PySem.W.CodeHd t.heap c T)
    (blt : ∃ (bm : Addr) (ob : Obj), mg "__builtins__" = some (.ref bm) ∧ bm ≠ builtinsNs ∧ t.heap.get? bm = some ob ∧ ob.cls = .type "module" ∧ ob.dict = some builtinsNs ∧ ob.data = .plain)
    (obj : t.heap.get? a = some { cls := .type "list", data := .seq vs.toArray }) (hints : IntsAre vs ns) (hl : ns.length ≤ sizeLine) (room : Room k callerA)
    (F : ∀ base : Heap, K.In base → base.Ns mainGlobals mg → LamX.TabB base mg c T → GOk P w K mg base CX k fa fd [x] sp) (bnd : ∀ (s : Shared) (u : Value), BindsTo s fd ⟨[u], []⟩ [(x, u)])
    (want : ∀ H : Hp, H T = some (.tbl #[]) → SqL K H a (ns.map V.int) → sp [.ref a] H (fun v _ => v = .bl true) fun _ _ _ => False)
    (noX : ∀ H e s', CX [] H t (fun _ _ _ => False) e s' → False) :
    codeAny (model P w) callerA (.call (.ref fa) ⟨[.ref a], []⟩) (fun r s' => r = .ok (.ret (.bool true)) ∧ OldK t.heap s'.heap ∧ s'.os = t.os ∧ AllBare s'.gens) t := by
  have rv := vals_ints hints
  have hlv := hints.length
  have apart : T ≠ a := fun z => by
    rw [z, obj] at tab
    have q := congrArg Obj.data (Option.some.inj tab)
    have q' : Data.seq vs.toArray _ = Data.fields #[] := q
    cases q'
  have main : ∀ H : Hp, H T = some (.tbl #[]) → OnlyT T H → SqL K H a (ns.map V.int) → HOk P w H t.heap → (∀ b, H b ≠ none → b = a ∨ b = T) → (H a ≠ none → K.lookup a = none) →
      codeAny (model P w) callerA (.call (.ref fa) ⟨[.ref a], []⟩) (fun r s' => r = .ok (.ret (.bool true)) ∧ OldK t.heap s'.heap ∧ s'.os = t.os ∧ AllBare s'.gens) t := by
    intro H hT only hS ok onlyA hK
    have other : ∀ {b : Addr} {o : Obj}, t.heap.get? b = some o → (∀ us n, o.data ≠ .seq us n) → o.data ≠ .fields #[] → H b = none := by
      intro b o e n1 n2
      cases q : H b with
      | none => rfl
      | some u =>
        cases onlyA b (by rw [q]; exact Option.some_ne_none u) with
        | inl z =>
          subst z
          rw [obj] at e
          cases e
          exact absurd rfl (n1 _ _)
        | inr z =>
          subst z
          rw [tab] at e
          cases e
          exact absurd rfl n2
    have noD : ∀ {b : Addr} {o : Obj} {es : Array DictEntry} {ep : Nat}, t.heap.get? b = some o → o.data = .dict es ep → H b = none := by
      intro b o es ep e d
      exact other e (fun us n z => by rw [d] at z; cases z) (fun z => by rw [d] at z; cases z)
    have nsH : ∀ {b : Addr} {m : Str → Option Value}, t.heap.Ns b m → (hidT t.heap H).Ns b m := by
      rintro b m ⟨o, es, ep, e, d, r⟩
      exact ⟨o, es, ep, hidT_get e (noD e d), d, r⟩
    have kinH : K.In (hidT t.heap H) := by
      intro b o e
      refine hidT_get (kin b o e) ?_
      cases q : H b with
      | none => rfl
      | some u =>
        cases onlyA b (by rw [q]; exact Option.some_ne_none u) with
        | inl z =>
          subst z
          rw [hK (by rw [q]; exact Option.some_ne_none u)] at e
          cases e
        | inr z =>
          subst z
          rw [tabK] at e
          cases e
    have md : Mod K mg (hidT t.heap H) := by
      refine ⟨kinH, nsH nsm, ⟨mb, nsH nsb, hbb⟩, ?_⟩
      obtain ⟨mc, h1, h2⟩ := nolim
      exact ⟨mc, nsH h1, h2⟩
    have tabB : LamX.TabB (hidT t.heap H) mg c T := by
      constructor
      · obtain ⟨o, us, file, tf, flags, tg, inF, text, tt, e1, r1, r2, r3, rest⟩ := head
        refine ⟨o, us, file, tf, flags, tg, inF, text, tt, hidT_get e1 (other e1 (fun us n z => ?_) fun z => ?_), r1, r2, r3, rest⟩
        · rw [r2] at z
          cases z
        · rw [r2] at z
          cases z
          simp at r3
      · obtain ⟨bm, ob, b1, b2, b3, b4, b5, b6⟩ := blt
        refine ⟨bm, ob, b1, b2, fun q => ?_, fun q => ?_, hidT_get b3 (other b3 (fun us n z => ?_) fun z => ?_), b4, b5, b6⟩
        · obtain ⟨o, es, ep, e, hd, _⟩ := nsm
          rw [q, e] at b3
          cases b3
          rw [hd] at b6
          cases b6
        · rw [q, tab] at b3
          cases b3
          cases b6
        · rw [b6] at z
          cases z
        · rw [b6] at z
          cases z
      · intro z
        obtain ⟨o, es, ep, e, hd, _⟩ := nsm
        rw [z, tab] at e
        cases e
        cases hd
    have env : Env0 P w K mg (hidT t.heap H) callerA [] t H :=
      ⟨rfl, md, fun b o e => of_hidT e, Nat.le_of_eq (hidT_size _ _), trivial, fun b hb => (List.not_mem_nil (show b ∈ ([] : List Addr) from hb)).elim, ok, .of_eq nogen⟩
    refine codeAny_mono ((F _ kinH (nsH nsm) tabB).run callerA [] t H ⟨[.ref a], []⟩ [.ref a] [.ref a] _ _ rfl room env (bnd t (.ref a)) (.cons rfl .nil) (want H hT hS)) fun r s' h => ?_
    cases r with
    | error e => exact (noX H e s' h).elim
    | ok fl =>
      cases fl with
      | next => exact h.elim
      | brk => exact h.elim
      | cont => exact h.elim
      | ret u =>
        obtain ⟨v, H', os, bare, un, ok', r', q⟩ := h
        have q' : v = .bl true := q
        subst q'
        cases r'
        have rest : ∀ b o, b ≠ T → t.heap.get? b = some o → s'.heap.get? b = some o := by
          intro b o nb e
          cases q : H b with
          | none => exact un.keep b o e q (fun z => (List.not_mem_nil (show b ∈ ([] : List Addr) from z)).elim) List.not_mem_nil
          | some u =>
            rcases only b with z | z | ⟨ob, xs, z⟩
            · rw [q] at z
              cases z
            · exact absurd z nb
            · obtain ⟨e1, _⟩ := ok b _ z
              obtain ⟨e2, _⟩ := ok' b _ (un.frzs b ob _ z)
              rw [e] at e1
              cases e1
              exact e2
        obtain ⟨more, zT⟩ := un.tbls T #[] hT
        have grown : s'.heap.get? T = some { cls := .none, data := .fields (#[] ++ more) } := ok' T _ zT
        refine ⟨rfl, ⟨fun b o e => ?_, fun b o e => ?_⟩, os, bare⟩
        · by_cases hb : b = T
          · subst hb
            rw [tab] at e
            cases e
            exact .inr (.inl ⟨(head.tab tab).isCodeTable, rfl, #[], more, rfl, grown⟩)
          · exact .inl (rest b o hb e)
        · by_cases hb : b = T
          · subst hb
            exact ⟨_, grown⟩
          · exact ⟨o, rest b o hb e⟩
  cases hk : K.lookup a with
  | some o =>
    have e := kin a o hk
    rw [obj] at e
    cases e
    refine main (fun b => if b = T then some (.tbl #[]) else none) (if_pos rfl) (fun b => ?_) (.inr ⟨_, vs.toArray, _, hk, rfl, rfl, rfl, ?_, by simpa using rv⟩) (fun b u z => ?_) (fun b z => ?_) fun z => absurd (if_neg (fun q => apart q.symm)) z
    · by_cases hb : b = T
      · exact .inr (.inl hb)
      · exact .inl (if_neg hb)
    · rw [List.size_toArray, hlv]
      exact hl
    · by_cases hb : b = T
      · have z' := (if_pos hb).symm.trans z
        cases z'
        rw [hb]
        exact tab
      · have z' := (if_neg hb).symm.trans z
        cases z'
    · by_cases hb : b = T
      · exact .inr hb
      · exact absurd (if_neg hb) z
  | none =>
    refine main (fun b => if b = a then some (.frz { cls := .type "list", data := .seq vs.toArray } (.lst (ns.map V.int))) else if b = T then some (.tbl #[]) else none) ((if_neg apart).trans (if_pos rfl)) (fun b => ?_) (.inl (.inr ⟨_, if_pos rfl⟩)) (fun b u z => ?_) (fun b z => ?_) fun _ => hk
    · by_cases hb : b = a
      · exact .inr (.inr ⟨_, _, if_pos hb⟩)
      · by_cases hT : b = T
        · exact .inr (.inl hT)
        · exact .inl ((if_neg hb).trans (if_neg hT))
    · by_cases hb : b = a
      · have z' := (if_pos hb).symm.trans z
        cases z'
        subst hb
        exact ⟨obj, by rw [List.length_map]; exact hl, vs, _, rv, obj⟩
      · have z1 := (if_neg hb).symm.trans z
        by_cases hT : b = T
        · have z' := (if_pos hT).symm.trans z1
          cases z'
          rw [hT]
          exact tab
        · have z' := (if_neg hT).symm.trans z1
          cases z'
    · by_cases hb : b = a
      · exact .inl hb
      · by_cases hT : b = T
        · exact .inr hT
        · exact absurd ((if_neg hb).trans (if_neg hT)) z
theorem gwalk_ofT {l : PySem.W.OpenLaw} {n k : Nat} {q : Program} {loose : List Str} {XP : (Str → Option Value) → Heap → Prop} {YP : World → Heap → Prop} {d : DefRec} {K : Params → PySem.W.Frag} {CX : World → CXT} {sp : World → Addr → Sp} {x : Str} {T : Addr}
    (hn : l.most = some n) (hn2 : n ≤ sizeLine) (hdf : d.params.defaults = []) (hr : Room k callerA) (hY : ∀ (w : World) (h : Heap), YP w h → (K w.params).In h) (hT : ∀ (w : World) (h : Heap), YP w h → h.get? T = some { cls := .none, data := .fields #[] })
    (F : ∀ (w : World) (mg : Str → Option Value) (fa : Addr) (h : Heap), (K w.params).In h → h.Ns mainGlobals mg → mg d.name = some (.ref fa) →
      ∃ (fd : FuncData) (c cd : Addr), (K w.params).lookup T = none ∧ PySem.W.codeHdIn (K w.params) c T = true ∧ (∀ (s : Shared) (u : Value), BindsTo s fd ⟨[u], []⟩ [(x, u)]) ∧ ∀ base : Heap, (K w.params).In base → base.Ns mainGlobals mg → LamX.TabB base mg c T → GOk l.prog w (K w.params) mg base (CX w) k fa fd [x] (sp w T))
    (hsp : ∀ (w : World) (H : Hp) (a : Addr) (ns : List Int), ns.length ≤ n → H T = some (.tbl #[]) → SqL (K w.params) H a (ns.map V.int) → sp w T [.ref a] H (fun v _ => v = .bl true) fun _ _ _ => False)
    (hCX : ∀ (w : World) (H : Hp) (s : Shared) (e : Value) (s' : Shared), CX w [] H s (fun _ _ _ => False) e s' → False) : PySem.W.WalkO q loose XP YP l.row.toRowW d [] (fun f vs => PySem.call f vs) := by
  refine Att.attach_call hn hdf fun w s0 s1 mg mb fa o pm cd doc a vs ns G Y ho hd hcd hmg hobj hints hlen hg => ?_
  obtain ⟨fd, c, _, tK, ch, hb, hF⟩ := F w mg fa _ (hY w _ Y) G.T.g hmg
  exact glaw_callT (hY w _ Y) G.T.g G.T.b G.T.builtins G.T.nolimit hg (hT w _ Y) tK (PySem.W.codeHd_of_K (hY w _ Y) ch) G.T.bmain hobj hints (Nat.le_trans hlen hn2) hr hF hb (fun H hO hS => hsp w H a ns hlen hO hS) fun H e s' => hCX w H s1 e s'
end WG

set_option Elab.async false
set_option linter.all false
set_option maxRecDepth 100000
set_option maxHeartbeats 4000000
namespace WB
open PySem PySem.Spec PyProof.Rows L2 WG
open NdefX (NF FnO fnO_at codeO_at CellsAt NOk fnAt_of)
open LamX (CodeO)
open TL (tl)
/-! ### a def that outlives the def that made it, with three captured names -/
/-- the cell at c holds the value v -/
def CellV (c : Addr) (v : V) : HO := .ext fun h => ∃ u, RelV v u ∧ h.IsCell c (some u)
theorem cellV_ok {P : Program} {w : World} {H : Hp} {h : Heap} {c : Addr} {v : V} {u : Value} (r : RelV v u) (e : h.IsCell c (some u)) : ObjOk P w H h c (CellV c v) := by
  obtain ⟨o, ho, hd⟩ := e
  exact ⟨⟨u, r, o, ho, hd⟩, ⟨o, ho⟩, fun h1 h2 ⟨u1, r1, o1, e1, d1⟩ st => ⟨u1, r1, o1, st o1 e1, d1⟩⟩
theorem cellV_at {P : Program} {w : World} {H : Hp} {h : Heap} {c : Addr} {v : V} (x : HOk P w H h) (e : H c = some (CellV c v)) : ∃ u, RelV v u ∧ h.IsCell c (some u) := (x c _ e).1
theorem hok_del {P : Program} {w : World} {H : Hp} {h : Heap} {c : Addr} {φ : Heap → Prop} (x : HOk P w H h) (e : H c = some (.ext φ)) : HOk P w (del H c) h := by
  intro b o z
  have nb : b ≠ c := fun q => by
    rw [q, del_same] at z
    cases z
  rw [del_ne nb] at z
  refine (x b o z).stay (fun _ _ _ q => q) (fun d q => ?_) (fun d xs q => ?_)
  · rw [del_ne (fun r => by rw [r, e] at q; cases q)]
    exact q
  · rw [del_ne (fun r => by rw [r, e] at q; cases q)]
    exact q
/-- the three cells let go, and taken up again -/
def off3 (H : Hp) (c1 c2 c3 : Addr) : Hp := del (del (del H c1) c2) c3
def on3 (H : Hp) (c1 c2 c3 : Addr) (v1 v2 v3 : V) : Hp := upd (upd (upd H c1 (CellV c1 v1)) c2 (CellV c2 v2)) c3 (CellV c3 v3)
theorem off3_ne {H : Hp} {c1 c2 c3 b : Addr} (h1 : b ≠ c1) (h2 : b ≠ c2) (h3 : b ≠ c3) : off3 H c1 c2 c3 b = H b := by
  unfold off3
  rw [del_ne h3, del_ne h2, del_ne h1]
theorem off3_1 {H : Hp} {c1 c2 c3 : Addr} (n12 : c1 ≠ c2) (n13 : c1 ≠ c3) : off3 H c1 c2 c3 c1 = none := by
  unfold off3
  rw [del_ne n13, del_ne n12, del_same]
theorem off3_2 {H : Hp} {c1 c2 c3 : Addr} (n23 : c2 ≠ c3) : off3 H c1 c2 c3 c2 = none := by
  unfold off3
  rw [del_ne n23, del_same]
theorem off3_3 {H : Hp} {c1 c2 c3 : Addr} : off3 H c1 c2 c3 c3 = none := del_same
theorem on3_ne {H : Hp} {c1 c2 c3 b : Addr} {v1 v2 v3 : V} (h1 : b ≠ c1) (h2 : b ≠ c2) (h3 : b ≠ c3) : on3 H c1 c2 c3 v1 v2 v3 b = H b := by
  unfold on3
  rw [upd_ne h3, upd_ne h2, upd_ne h1]
theorem on3_1 {H : Hp} {c1 c2 c3 : Addr} {v1 v2 v3 : V} (n12 : c1 ≠ c2) (n13 : c1 ≠ c3) : on3 H c1 c2 c3 v1 v2 v3 c1 = some (CellV c1 v1) := by
  unfold on3
  rw [upd_ne n13, upd_ne n12, upd_same]
theorem on3_2 {H : Hp} {c1 c2 c3 : Addr} {v1 v2 v3 : V} (n23 : c2 ≠ c3) : on3 H c1 c2 c3 v1 v2 v3 c2 = some (CellV c2 v2) := by
  unfold on3
  rw [upd_ne n23, upd_same]
theorem on3_3 {H : Hp} {c1 c2 c3 : Addr} {v1 v2 v3 : V} : on3 H c1 c2 c3 v1 v2 v3 c3 = some (CellV c3 v3) := upd_same
/-- three cells, unlike, and no more -/
structure Cl3 (F : NF) (y1 y2 y3 : Str) (c1 c2 c3 : Addr) : Prop where
  k1 : F.cl.lookup y1 = some c1
  k2 : F.cl.lookup y2 = some c2
  k3 : F.cl.lookup y3 = some c3
  only : ∀ x d, F.cl.lookup x = some d → x = y1 ∨ x = y2 ∨ x = y3
  n12 : c1 ≠ c2
  n13 : c1 ≠ c3
  n23 : c2 ≠ c3
section
variable {P : Program} {w : World} {K : PySem.W.Frag} {mg : Str → Option Value} {base : Heap} {k : Nat} {f c1 c2 c3 : Addr} {v1 v2 v3 : V} {F : NF} {ps : List Str} {y1 y2 y3 : Str} {sp : List (Option V) → Sp}
theorem cl_run3 (Fn : NOk P w K mg base (L2.CX P w) k f F ps [y1, y2, y3] sp) {A : Around} {outer : List Env} {s : Shared} {H : Hp} {us : List Value} {vs : List V} {Q : VK} {E : XK} (room : Room k A) (env : Env0 P w K mg base A outer s H) (hf : H f = some (FnO f F)) (hq : H F.c = some (CodeO F.c F.qual))
    (cl : Cl3 F y1 y2 y3 c1 c2 c3) (h1 : H c1 = some (CellV c1 v1)) (h2 : H c2 = some (CellV c2 v2)) (h3 : H c3 = some (CellV c3 v3)) (rel : Vals vs us)
    (ask : sp [some v1, some v2, some v3] vs (off3 H c1 c2 c3) (fun r H1 => H1 c1 = none → H1 c2 = none → H1 c3 = none → Q r (on3 H1 c1 c2 c3 v1 v2 v3)) (fun cls d H1 => H1 c1 = none → H1 c2 = none → H1 c3 = none → E cls d (on3 H1 c1 c2 c3 v1 v2 v3))) :
    codeAny (model P w) A (.call (.ref f) ⟨us, []⟩) (CR (L2.CX P w) outer P w H s Q E) s := by
  obtain ⟨k1, k2, k3, only, n12, n13, n23⟩ := cl
  obtain ⟨u1, r1, oc1, hoc1, hd1⟩ := cellV_at env.hok h1
  obtain ⟨u2, r2, oc2, hoc2, hd2⟩ := cellV_at env.hok h2
  obtain ⟨u3, r3, oc3, hoc3, hd3⟩ := cellV_at env.hok h3
  have nfr : ∀ {c : Addr} {v : V}, H c = some (CellV c v) → c ∉ frs outer := fun {c v} h z => by
    have q := env.frf c z
    rw [h] at q
    cases q
  have nf : ∀ {c : Addr} {oc : Obj} {u : Value}, s.heap.get? c = some oc → oc.data = .cell (some u) → f ≠ c := fun {c oc u} hoc hd z => by
    obtain ⟨_, _, _, _, _, ho⟩ := fnO_at env.hok hf
    rw [z, hoc] at ho
    cases ho
    cases hd
  have nq : ∀ {c : Addr} {oc : Obj} {u : Value}, s.heap.get? c = some oc → oc.data = .cell (some u) → F.c ≠ c := fun {c oc u} hoc hd z => by
    obtain ⟨c2, o2, us2, t2, e0, e1, e2, _⟩ := codeO_at env.hok hq
    cases e0
    rw [z, hoc] at e1
    cases e1
    rw [e2] at hd
    cases hd
  have z1 : off3 H c1 c2 c3 c1 = none := off3_1 n12 n13
  have z2 : off3 H c1 c2 c3 c2 = none := off3_2 n23
  have z3 : off3 H c1 c2 c3 c3 = none := off3_3
  have dn : ∀ {b : Addr}, H b = none → off3 H c1 c2 c3 b = none := fun {b} z => by
    by_cases e3 : b = c3
    · rw [e3]
      exact z3
    · by_cases e2 : b = c2
      · rw [e2]
        exact z2
      · by_cases e1 : b = c1
        · rw [e1]
          exact z1
        · rw [off3_ne e1 e2 e3]
          exact z
  have hok2 : HOk P w (off3 H c1 c2 c3) s.heap := hok_del (hok_del (hok_del env.hok h1) (by rw [del_ne n12.symm]; exact h2)) (by rw [del_ne n23.symm, del_ne n13.symm]; exact h3)
  have env2 : Env0 P w K mg base A outer s (off3 H c1 c2 c3) := ⟨env.frames, env.mod, fun b o e => ⟨(env.bs b o e).1, dn (env.bs b o e).2⟩, env.bsz, env.funs, fun b hb => dn (env.frf b hb), hok2, env.bare⟩
  have cells : CellsAt F.cl [y1, y2, y3] [some v1, some v2, some v3] s.heap (off3 H c1 c2 c3) := by
    have same : ∀ x d, F.cl.lookup x = some d → (x = y1 ∧ d = c1) ∨ (x = y2 ∧ d = c2) ∨ (x = y3 ∧ d = c3) := fun x d e => by
      rcases only x d e with z | z | z
      · rw [z, k1] at e
        exact .inl ⟨z, (Option.some.inj e).symm⟩
      · rw [z, k2] at e
        exact .inr (.inl ⟨z, (Option.some.inj e).symm⟩)
      · rw [z, k3] at e
        exact .inr (.inr ⟨z, (Option.some.inj e).symm⟩)
    refine ⟨rfl, fun x d e => ?_, fun x x2 d e1 e2 => ?_, fun i x e => ?_⟩
    · rcases same x d e with ⟨_, z⟩ | ⟨_, z⟩ | ⟨_, z⟩
      · rw [z]
        exact ⟨z1, _, oc1, hoc1, hd1⟩
      · rw [z]
        exact ⟨z2, _, oc2, hoc2, hd2⟩
      · rw [z]
        exact ⟨z3, _, oc3, hoc3, hd3⟩
    · rcases same x d e1 with ⟨a1, b1⟩ | ⟨a1, b1⟩ | ⟨a1, b1⟩ <;> rcases same x2 d e2 with ⟨a2, b2⟩ | ⟨a2, b2⟩ | ⟨a2, b2⟩
      · exact a1.trans a2.symm
      · exact absurd (b1.symm.trans b2) n12
      · exact absurd (b1.symm.trans b2) n13
      · exact absurd (b2.symm.trans b1) n12
      · exact a1.trans a2.symm
      · exact absurd (b1.symm.trans b2) n23
      · exact absurd (b2.symm.trans b1) n13
      · exact absurd (b2.symm.trans b1) n23
      · exact a1.trans a2.symm
    · cases i with
      | zero =>
        cases e
        refine ⟨c1, k1, fun v ev => ?_⟩
        cases ev
        exact ⟨u1, r1, oc1, hoc1, hd1⟩
      | succ i =>
        cases i with
        | zero =>
          cases e
          refine ⟨c2, k2, fun v ev => ?_⟩
          cases ev
          exact ⟨u2, r2, oc2, hoc2, hd2⟩
        | succ i =>
          cases i with
          | zero =>
            cases e
            refine ⟨c3, k3, fun v ev => ?_⟩
            cases ev
            exact ⟨u3, r3, oc3, hoc3, hd3⟩
          | succ i => cases e
  have nb : ∀ {c : Addr} {v : V}, H c = some (CellV c v) → ∀ {b : Addr} {o : HO}, H b = some o → (∀ φ, o ≠ .ext φ) → b ≠ c := fun {c v} h {b o} e n z => by
    rw [z, h] at e
    exact n _ (Option.some.inj e).symm
  have nn : ∀ {c : Addr} {v : V}, H c = some (CellV c v) → ∀ {b : Addr}, H b = none → b ≠ c := fun {c v} h {b} e z => by
    rw [z, h] at e
    cases e
  have up : ∀ {H1 : Hp} {hp : Heap}, HOk P w H1 hp → H1 c1 = none → H1 c2 = none → H1 c3 = none → hp.get? c1 = some oc1 → hp.get? c2 = some oc2 → hp.get? c3 = some oc3 → HOk P w (on3 H1 c1 c2 c3 v1 v2 v3) hp := fun {H1 hp} ok f1 f2 f3 g1 g2 g3 => by
    have s1 := HOk.laidN ok (fun _ _ q => q) f1 (cellV_ok (v := v1) r1 ⟨oc1, g1, hd1⟩)
    have s2 := HOk.laidN s1 (fun _ _ q => q) (by rw [upd_ne n12.symm]; exact f2) (cellV_ok (v := v2) r2 ⟨oc2, g2, hd2⟩)
    exact HOk.laidN s2 (fun _ _ q => q) (by rw [upd_ne n23.symm, upd_ne n13.symm]; exact f3) (cellV_ok (v := v3) r3 ⟨oc3, g3, hd3⟩)
  have kp : ∀ {H1 : Hp} {b : Addr} {o : HO}, H b = some o → (∀ φ, o ≠ .ext φ) → (off3 H c1 c2 c3 b = some o) ∧ on3 H1 c1 c2 c3 v1 v2 v3 b = H1 b := fun {H1 b o} e n => by
    have a1 := nb h1 e n
    have a2 := nb h2 e n
    have a3 := nb h3 e n
    rw [off3_ne a1 a2 a3, on3_ne a1 a2 a3]
    exact ⟨e, rfl⟩
  refine codeAny_mono (Fn.run A outer s (off3 H c1 c2 c3) us vs _ _ _ room env2 (by rw [off3_ne (nf hoc1 hd1) (nf hoc2 hd2) (nf hoc3 hd3)]; exact hf) (by rw [off3_ne (nq hoc1 hd1) (nq hoc2 hd2) (nq hoc3 hd3)]; exact hq) cells rel ask) fun r s' got => ?_
  cases r with
  | error e =>
    obtain ⟨x, B, H1, cls, d, rfl, fl, ok, ub, na, os, ag, hE⟩ := got
    have kB1 := ub.keep c1 oc1 hoc1 z1 (nfr h1)
    have kB2 := ub.keep c2 oc2 hoc2 z2 (nfr h2)
    have kB3 := ub.keep c3 oc3 hoc3 z3 (nfr h3)
    have f1 := ub.free c1 oc1 hoc1 z1
    have f2 := ub.free c2 oc2 hoc2 z2
    have f3 := ub.free c3 oc3 hoc3 z3
    have nx : ∀ {c : Addr} {oc : Obj}, B.get? c = some oc → x ≠ c := fun {c oc} kB z => by
      have q := fl.2.1
      rw [z, kB] at q
      cases q
    refine ⟨x, B, on3 H1 c1 c2 c3 v1 v2 v3, cls, d, rfl, fl, up ok f1 f2 f3 kB1 kB2 kB3, ⟨fun b o e n h => ub.keep b o e (dn n) h, ub.slot, fun b o e n => ?_, ub.there, fun b xs e => ?_, fun b o xs e => ?_, fun b q e => ?_⟩, by rw [on3_ne (nx kB1) (nx kB2) (nx kB3)]; exact na, os, ag, hE f1 f2 f3⟩
    · rw [on3_ne (nn h1 n) (nn h2 n) (nn h3 n)]
      exact ub.free b o e (dn n)
    · obtain ⟨a1, a2⟩ := kp (H1 := H1) e (fun _ z => by cases z)
      rw [a2]
      exact ub.tups b xs a1
    · obtain ⟨a1, a2⟩ := kp (H1 := H1) e (fun _ z => by cases z)
      rw [a2]
      exact ub.frzs b o xs a1
    · obtain ⟨a1, a2⟩ := kp (H1 := H1) e (fun _ z => by cases z)
      rw [a2]
      exact ub.tbls b q a1
  | ok fl =>
    cases fl with
    | next => exact got.elim
    | brk => exact got.elim
    | cont => exact got.elim
    | ret u =>
      obtain ⟨v, H1, os, bare, un, ok, rv, q⟩ := got
      have g1 := un.keep c1 oc1 hoc1 z1 (nfr h1) List.not_mem_nil
      have g2 := un.keep c2 oc2 hoc2 z2 (nfr h2) List.not_mem_nil
      have g3 := un.keep c3 oc3 hoc3 z3 (nfr h3) List.not_mem_nil
      have f1 := un.free c1 oc1 hoc1 z1 List.not_mem_nil
      have f2 := un.free c2 oc2 hoc2 z2 List.not_mem_nil
      have f3 := un.free c3 oc3 hoc3 z3 List.not_mem_nil
      refine ⟨v, on3 H1 c1 c2 c3 v1 v2 v3, os, bare, ⟨fun b o e n => un.keep b o e (dn n), fun b o e n => un.slot b o e (dn n), fun b o e n h => ?_, un.there, fun b xs e => ?_, fun b o xs e => ?_, fun b q e => ?_⟩, up ok f1 f2 f3 g1 g2 g3, rv, q f1 f2 f3⟩
      · rw [on3_ne (nn h1 n) (nn h2 n) (nn h3 n)]
        exact un.free b o e (dn n) h
      · obtain ⟨a1, a2⟩ := kp (H1 := H1) e (fun _ z => by cases z)
        rw [a2]
        exact un.tups b xs a1
      · obtain ⟨a1, a2⟩ := kp (H1 := H1) e (fun _ z => by cases z)
        rw [a2]
        exact un.frzs b o xs a1
      · obtain ⟨a1, a2⟩ := kp (H1 := H1) e (fun _ z => by cases z)
        rw [a2]
        exact un.tbls b q a1
end
/-- m(..), the local name at i holds a def of the sort FS that has outlived its maker and keeps three names -/
def tCallC3 (y1 y2 y3 : Str) (FS : NF → Prop) (i : Nat) (sp : List (Option V) → Sp) (E : L2.St → XK) (t : TA) : TE := fun σ H Q => ∃ (f : Addr) (F : NF) (c1 c2 c3 : Addr) (v1 v2 v3 : V), σ[i]? = some (some (.ref f)) ∧ FS F ∧ Cl3 F y1 y2 y3 c1 c2 c3 ∧ H f = some (FnO f F) ∧
  t σ H fun vs H1 => H1 f = some (FnO f F) ∧ H1 F.c = some (CodeO F.c F.qual) ∧ H1 c1 = some (CellV c1 v1) ∧ H1 c2 = some (CellV c2 v2) ∧ H1 c3 = some (CellV c3 v3) ∧ sp [some v1, some v2, some v3] vs (off3 H1 c1 c2 c3) (fun r H2 => H2 c1 = none → H2 c2 = none → H2 c3 = none → Q r (on3 H2 c1 c2 c3 v1 v2 v3)) (fun cls d H2 => H2 c1 = none → H2 c2 = none → H2 c3 = none → E σ cls d (on3 H2 c1 c2 c3 v1 v2 v3))
theorem pe_callC3 {X : Cx} {k i : Nat} {FS : NF → Prop} {ps : List Str} {sp : List (Option V) → Sp} {E : L2.St → XK} {nm y1 y2 y3 : Str} {p pos : Pos} {e : Expr} {es : List Expr} {t : TA}
    (Fn : ∀ f F, FS F → NOk X.prog X.w X.K X.mg X.base (L2.CX X.prog X.w) k f F ps [y1, y2, y3] sp) (room : Room k X.A) (at_ : X.N[i]? = some nm) (vis : Vis X.env.scope nm) (out : ∀ σ, PassesAt (L2.CX X.prog X.w) X σ (E σ)) (args : PA X (e :: es) t)
    (n1 : (nm == ("__debug__" : Str)) = false := by decide) (n2 : (nm == ("__classdict__" : Str)) = false := by decide)
    (s1 : starEach (e :: es) X.env = (false, eval e X.env) :: starEach es X.env := by rfl) (s2 : (backTo pos (starEach es X.env)).any (·.1) = false := by rfl) : PE X (.Call (.Name nm p) (e :: es) [] pos) (tCallC3 y1 y2 y3 FS i sp E t) := by
  constructor
  intro pins st σ H want inv ask
  obtain ⟨f, F, c1, c2, c3, v1, v2, v3, hσ, hF, cl, hf, ask⟩ := ask
  refine wpAny_Call_Name_kw (thn ((pe_var (pos := p) at_ vis n1 n2).run pins st σ H (fun v H1 => v = .ref f ∧ H1 = H) inv ⟨.ref f, hσ, rfl, rfl⟩) fun u st1 got => ?_)
  obtain ⟨v, H1, inv1, rel, rfl, rfl⟩ := got
  cases rel
  refine PySem.W.callWith_F (first := []) (fnAt_of inv1 hf) (thn (args.run pos pins st1 σ _ _ inv1 ask) fun us st2 ⟨vs, H2, inv2, rels, q1, q2, q3, q4, q5, q⟩ => ⟨fnAt_of inv2 q1, ?_⟩) s1 s2
  refine wpAny_call (codeAny_mono (cl_run3 (Fn f F hF) room inv2.env0 q1 q2 cl q3 q4 q5 rels q) fun r s' got => ?_)
  cases r with
  | error e => exact out σ pins _ _ e s' inv2 got
  | ok fl =>
    cases fl with
    | ret u => exact inv2.after got
    | next => exact got.elim
    | brk => exact got.elim
    | cont => exact got.elim
/-! ### a def that ends by giving out such a one -/
theorem fn_ofC3 {CX : CXT} {P : Program} {w : World} {K : PySem.W.Frag} {mg : Str → Option Value} {base : Heap} {k : Nat} {f : Addr} {name qual : Str} {params : Arguments} {body : List Stmt} {scope : Scope} {dV kV doc pm cdv ct oc : Value} {an od : Option Addr} {osl : Array (Option Value)}
    {N ps : List Str} {sp : Sp} {st1 : Stmt} {y1 y2 y3 z : Str} {p pos : Pos} {i j1 j2 j3 : Nat} (lk : K.lookup f = some ⟨oc, od, .func (PySem.W.fnOf name qual params body scope dV kV doc pm an cdv ct), osl⟩) (hcd : PySem.W.codeIn K cdv qual = true) (S : FnScope N ps scope)
    (len : ∀ vs H Q E, sp vs H Q E → vs.length = ps.length) (hb : body = [st1, .Return (some (.Name z p)) pos]) (hi : N[i]? = some z) (hz : Vis scope z) (hj1 : N[j1]? = some y1) (hj2 : N[j2]? = some y2) (hj3 : N[j3]? = some y3) (hy1 : scope.names.lookup y1 = some .cell) (hy2 : scope.names.lookup y2 = some .cell) (hy3 : scope.names.lookup y3 = some .cell)
    (n1 : (z == ("__debug__" : Str)) = false) (n2 : (z == ("__classdict__" : Str)) = false)
    (hbody : ∀ (A : Around) (outer : List Env) (s : Shared) (H : Hp) (vs : List V) (Q : VK) (E : XK), Room k (A.deeper (envOfC qual scope s.heap.objs.size f cdv)) → sp vs H Q E →
      ∃ t1, PS (cxOf CX P w K mg base N qual scope f cdv A outer s H E) st1 t1 ∧
        t1 { nx := fun σ' H' => ∃ g v1 v2 v3, σ'[i]? = some (some (.ref g)) ∧ σ'[j1]? = some (some v1) ∧ σ'[j2]? = some (some v2) ∧ σ'[j3]? = some (some v3) ∧ ∀ c1 c2 c3, (envOfC qual scope s.heap.objs.size f cdv).cells.lookup y1 = some c1 → (envOfC qual scope s.heap.objs.size f cdv).cells.lookup y2 = some c2 → (envOfC qual scope s.heap.objs.size f cdv).cells.lookup y3 = some c3 → H' c1 = none → H' c2 = none → H' c3 = none → (c1 ≠ c2 ∧ c1 ≠ c3 ∧ c2 ≠ c3) ∧ Q (.ref g) (on3 H' c1 c2 c3 v1 v2 v3), rt := fun _ _ => False } (L2.start N vs) H) :
    FnOk P w K mg base CX (k + 1) f (PySem.W.fnOf name qual params body scope dV kV doc pm an cdv ct) ps sp := by
  refine ⟨len, fun A outer s H args us vs Q E room env bnd rel want => ?_⟩
  have hlen := len _ _ _ _ want
  have kin : K.In s.heap := env.mod.kin.keeps fun b o q => (env.bs b o q).1
  have nolim : s.heap.NoLimit := env.mod.nolimit.keeps fun b o q => (env.bs b o q).1
  have kinds : ∀ y ∈ ps.zip us, scope.names.lookup y.1 = some .local ∨ (scope.names.lookup y.1 = some .cell ∧ ((cellsFrom (s.heap.objs.size + 1) scope.names []).lookup y.1).isSome = true) := by
    intro y hy
    obtain ⟨n, v⟩ := y
    cases S.par n (List.of_mem_zip hy).1 with
    | inl z => exact .inl z
    | inr z => exact .inr ⟨z, PySem.W.cellsFrom_some _ _ _ (.inl z)⟩
  refine codeAny_call_function room.depth (kin _ _ lk) rfl S.co S.gen rfl (PySem.W.codeRec_of kin hcd) (bnd _ _ _ _ ?_)
  refine wpAny_newFunctionEnv_cells S.kind kinds fun e2 he2 sA hx => ?_
  subst he2
  refine ⟨nolim.keeps hx.toInCall.keep, codeAny_func ?_⟩
  obtain ⟨t1, h1, tq⟩ := hbody A outer s H vs Q E (room.deeper _) want
  have I : Inv (cxOf CX P w K mg base N qual scope f cdv A outer s H E) [] (L2.start N vs) H sA := inv_start S room.hd env hlen rel hx
  subst hb
  refine wpAny_mono (Q := fun fl s' => ∃ g, fl = Flow.ret (.ref g) ∧ CE outer P w H s Q (.ref g) s') ?_ (fun fl s' ⟨g, e, q⟩ => ?_) fun e s' hs => hs
  · refine wpAny_execs_cons (thn (h1.run [] sA _ H _ I tq) fun fl sC got => ?_)
    cases fl with
    | ret v => obtain ⟨_, _, _, _, _, q⟩ := got; exact q.elim
    | brk => obtain ⟨_, _, _, q⟩ := got; exact q.elim
    | cont => obtain ⟨_, _, _, q⟩ := got; exact q.elim
    | next =>
      obtain ⟨σC, HC, IC, g, v1, v2, v3, hg, ha1, ha2, ha3, q⟩ := got
      refine wpAny_execs_cons (wpAny_Return_some (thn ((pe_var (pos := p) hi hz n1 n2).run [] sC σC HC (fun v H1 => v = .ref g ∧ H1 = HC) IC ⟨.ref g, hg, rfl, rfl⟩) fun u sD got => ?_))
      obtain ⟨v, HD, J, rel2, rfl, rfl⟩ := got
      cases rel2
      refine ⟨g, rfl, ?_⟩
      obtain ⟨m, _, loc⟩ := J.loc
      have cellOf : ∀ {y : Str} {j : Nat} {v : V}, N[j]? = some y → σC[j]? = some (some v) → scope.names.lookup y = some .cell → ∃ c u, (envOfC qual scope s.heap.objs.size f cdv).cells.lookup y = some c ∧ RelV v u ∧ sD.heap.IsCell c (some u) := fun {y j v} hj ha hy => by
        obtain ⟨u, ru, look⟩ := loc j y v hj ha (.inr (.inl hy))
        rcases look with ⟨z, _⟩ | ⟨_, c, hc, hcell⟩
        · have z' : scope.names.lookup y = some .local := z
          rw [hy] at z'
          cases z'
        · exact ⟨c, u, hc, ru, hcell⟩
      obtain ⟨c1, u1, hc1, ru1, cell1⟩ := cellOf hj1 ha1 hy1
      obtain ⟨c2, u2, hc2, ru2, cell2⟩ := cellOf hj2 ha2 hy2
      obtain ⟨c3, u3, hc3, ru3, cell3⟩ := cellOf hj3 ha3 hy3
      have fc1 := J.freeC y1 c1 hc1
      have fc2 := J.freeC y2 c2 hc2
      have fc3 := J.freeC y3 c3 hc3
      have low1 : s.heap.objs.size ≤ c1 := J.ok.cab y1 c1 rfl hc1
      have low2 : s.heap.objs.size ≤ c2 := J.ok.cab y2 c2 rfl hc2
      have low3 : s.heap.objs.size ≤ c3 := J.ok.cab y3 c3 rfl hc3
      obtain ⟨⟨n12, n13, n23⟩, q⟩ := q c1 c2 c3 hc1 hc2 hc3 fc1 fc2 fc3
      have up : HOk P w (on3 HD c1 c2 c3 v1 v2 v3) sD.heap := HOk.laidN (HOk.laidN (HOk.laidN J.hok (fun _ _ q => q) fc1 (cellV_ok ru1 cell1)) (fun _ _ q => q) (by rw [upd_ne n12.symm]; exact fc2) (cellV_ok ru2 cell2)) (fun _ _ q => q) (by rw [upd_ne n23.symm, upd_ne n13.symm]; exact fc3) (cellV_ok ru3 cell3)
      refine ⟨.ref g, on3 HD c1 c2 c3 v1 v2 v3, J.os, J.bare, ⟨J.base.keep, J.base.slot, fun b o e n h => ?_, J.base.there, fun b xs e => ?_, fun b o xs e => ?_, fun b q e => ?_⟩, up, rfl, q⟩
      · rw [on3_ne (fun z => by rw [z] at e; exact absurd (Heap.lt_size e) (Nat.not_lt.mpr low1)) (fun z => by rw [z] at e; exact absurd (Heap.lt_size e) (Nat.not_lt.mpr low2)) (fun z => by rw [z] at e; exact absurd (Heap.lt_size e) (Nat.not_lt.mpr low3))]
        exact J.base.free b o e n h
      · have z := J.base.tups b xs e
        rw [on3_ne (ne_of_none z fc1) (ne_of_none z fc2) (ne_of_none z fc3)]
        exact z
      · have z := J.base.frzs b o xs e
        rw [on3_ne (ne_of_none z fc1) (ne_of_none z fc2) (ne_of_none z fc3)]
        exact z
      · obtain ⟨more, z⟩ := J.base.tbls b q e
        exact ⟨more, by rw [on3_ne (ne_of_none z fc1) (ne_of_none z fc2) (ne_of_none z fc3)]; exact z⟩
  · subst e
    exact q
end WB

set_option Elab.async false
set_option linter.all false
set_option maxRecDepth 100000
set_option maxHeartbeats 4000000
namespace WB
open PySem PySem.Spec PyProof.Rows L2 WG
open TL (tl)
/-! ### a call of a local name within a try -/
def tCallLS (i : Nat) (f : Addr) (sp : Sp) (E : L2.St → XK) (t : TA) : TE := fun σ H Q => σ[i]? = some (some (.ref f)) ∧ t σ H fun vs H1 => sp vs H1 Q (E σ)
theorem pe_callLS {X : Cx} {CX : CXT} {k i : Nat} {f : Addr} {fd : FuncData} {ps : List Str} {sp : Sp} {E : L2.St → XK} {nm : Str} {p pos : Pos} {e : Expr} {es : List Expr} {t : TA}
    (G : FnOk X.prog X.w X.K X.mg X.base CX k f fd ps sp) (room : Room k X.A) (at_ : X.N[i]? = some nm) (vis : Vis X.env.scope nm) (kp : PySem.W.keepIn X.K (.ref f) = true) (bnd : Binds X.K fd ps []) (out : ∀ σ, PassesAt CX X σ (E σ)) (args : PA X (e :: es) t)
    (n1 : (nm == ("__debug__" : Str)) = false := by decide) (n2 : (nm == ("__classdict__" : Str)) = false := by decide)
    (s1 : starEach (e :: es) X.env = (false, eval e X.env) :: starEach es X.env := by rfl) (s2 : (backTo pos (starEach es X.env)).any (·.1) = false := by rfl) : PE X (.Call (.Name nm p) (e :: es) [] pos) (tCallLS i f sp E t) := by
  constructor
  intro pins st σ H want inv ask
  refine wpAny_Call_Name_kw (thn ((pe_var (pos := p) at_ vis n1 n2).run pins st σ H (fun v H1 => v = .ref f ∧ H1 = H) inv ⟨.ref f, ask.1, rfl, rfl⟩) fun u st1 got => ?_)
  obtain ⟨v, H1, inv1, rel, rfl, rfl⟩ := got
  cases rel
  exact PySem.W.callWith_K (h₀ := X.base) inv.ok.mod.kin kp (thn (args.run pos pins st1 σ _ _ inv1 ask.2) fun us st2 ⟨vs, H2, inv2, rels, q⟩ => ⟨inv2.kIn, run_fnS G room bnd (out σ) inv2 rels q⟩) s1 s2
/-! ### dict(d) of a dict of the module -/
inductive EntAll (P : Params) : List DictEntry → List (Key × V) → Prop
  | nil : EntAll P [] []
  | cons {hs : Int} {x : Str} {t : Tok} {u : Value} {v : V} {es : List DictEntry} {kvs : List (Key × V)} : hs = PyData.keyHash P x → RelV v u → EntAll P es kvs → EntAll P (⟨hs, .str x t, u⟩ :: es) ((Sum.inr x, v) :: kvs)
theorem EntAll.vals {P : Program} {w : World} {es : List DictEntry} {kvs : List (Key × V)} (h : EntAll w.params es kvs) : ∃ vs : List (Key × Value), KV kvs vs ∧ Pairs (mixKind P w) es vs ∧ (∀ e ∈ es, ∃ k, (mixKind P w).is k e.key = true ∧ e.hash = (mixKind P w).hash k) ∧ vs.map (·.1) = kvs.map (·.1) := by
  induction h with
  | nil => exact ⟨[], .nil, .nil, (fun e he => by cases he), rfl⟩
  | @cons hs x t u v es kvs eh rel _ ih =>
    obtain ⟨vs, h1, h2, h3, h4⟩ := ih
    have is1 : (mixKind P w).is (Sum.inr x) (.str x t) = true := strKind_is P w x t
    refine ⟨(Sum.inr x, u) :: vs, .cons ⟨rfl, rel⟩ h1, .cons is1 rfl h2, fun e he => ?_, by rw [List.map_cons, List.map_cons, h4]⟩
    rcases List.mem_cons.mp he with r | r
    · subst r
      exact ⟨Sum.inr x, is1, eh⟩
    · exact h3 e r
/-- a dict that the module has written -/
def KDic (K : PySem.W.Frag) (w : World) (a : Addr) (kvs : List (Key × V)) : Prop :=
  ∃ es n, K.lookup a = some ⟨.type "dict", none, .dict es n, #[]⟩ ∧ (a == sysModules) = false ∧ EntAll w.params es.toList kvs ∧ (kvs.map (·.1)).Nodup ∧ kvs.length ≤ 1000
theorem call_dictK {X : Cx} : CallR X (.type "dict") (fun xs H Q => ∃ (a : Addr) (kvs : List (Key × V)), xs = [.ref a] ∧ KDic X.K X.w a kvs ∧ ∀ p, H p = none → Q (.ref p) (upd H p (.dK kvs))) := by
  intro pins s σ H xs us want I rels ask
  obtain ⟨a, kvs, rfl, ⟨es, n, look, low, ent, nd, len⟩, q⟩ := ask
  obtain ⟨u, rfl, rel⟩ := vals1 rels
  cases rel
  obtain ⟨vs, kv, prs, keys, same⟩ := ent.vals (P := X.prog)
  have dd : s.heap.DictOf (mixKind X.prog X.w) a vs := ⟨_, es, n, I.kIn _ _ look, ⟨rfl, rfl, rfl⟩, rfl, fun e he => keys e (Array.mem_toList_iff.mpr he), prs, by rw [same]; exact nd⟩
  have lv : vs.length ≤ sizeLine := by
    have h := congrArg List.length same
    rw [List.length_map, List.length_map] at h
    rw [h]
    exact Nat.le_trans len (by decide)
  have lk : kvs.length ≤ sizeLine := Nat.le_trans len (by decide)
  refine kt_call_dict low dd lv fun h2 d2 sb => ?_
  have ns : (s.heap.objs.size == sysModules) = false := beq_eq_false_iff_ne.mpr (Nat.ne_of_gt I.big)
  have laid : ∀ b o, s.heap.get? b = some o → h2.get? b = some o := fun b o e => (sb.2 b (Nat.ne_of_lt (Heap.lt_size e))).trans (Heap.get?_push_of_some _ e)
  have ob : ObjOk X.prog X.w (upd H s.heap.objs.size (.dK kvs)) h2 s.heap.objs.size (.dK kvs) := ⟨lk, ns, vs, kv, d2⟩
  exact ⟨.ref s.heap.objs.size, _, I.laid (t' := s.toks) laid (Nat.le_refl _) ob, rfl, q _ (I.hok.fresh (Nat.le_refl _))⟩
/-! ### Unmade -/
/-- Unmade, as the written part tells it -/
structure ErrT (K : PySem.W.Frag) (mg : Str → Option Value) (x : Str) (C fI : Addr) (fd : FuncData) : Prop where
  o : OexC K C
  i : PySem.W.findIn K (.ref C) "__init__" = some (some (.ref fI))
  t : PySem.W.typeIn K (.ref fI) = some (.type "function")
  nf : PySem.W.findIn K (.ref C) "why" = some none
  g : mg x = some (.ref C)
  b : Binds K fd ["self", "why"] []
abbrev st_Unmade_init : Stmt := inClass (topS 17) 0
theorem sc_Unmade_init : FnScope ["self", "why"] ["self", "why"] (defScope st_Unmade_init) := ⟨rfl, rfl, rfl, by decide +kernel, rfl, by decide +kernel, by decide +kernel⟩
abbrev st_err := st_Unmade_init
abbrev sc_err := sc_Unmade_init
abbrev ErrD (K : PySem.W.Frag) (f : Addr) (fd : FuncData) : Prop := FunD K "__init__" "Unmade.__init__" (defArgs st_err) (defBody st_err) (defScope st_err) [.str (Str.ofString "")] [] f fd
theorem err_b2 {K : PySem.W.Frag} {f : Addr} {fd : FuncData} (F : ErrD K f fd) : Binds K fd ["self", "why"] [] := by
  obtain ⟨ds, hv, b⟩ := F.binds1 (ps := ["self", "why"]) 2 1 (by simp) rfl (fun T kV doc pm an cdv ct us its h1 h2 => match us, its, h1, h2 with | [_, _], [_], _, _ => ⟨_, rfl, rfl⟩)
  cases hv
  exact b
section
variable {P : Program} {w : World} {K : PySem.W.Frag} {mg : Str → Option Value} {base : Heap}
def spErr (C : Addr) : Sp := fun vs H Q _ => ∃ (a : Addr) (y : V), vs = [.ref a, y] ∧ H a = some (exo a C none) ∧ ∀ dx, H dx = none → dx ≠ a → Q .non (upd (upd H dx (exd dx [(("why" : Str), y)])) a (exo a C (some dx)))
theorem ok_err {C f : Addr} {fd : FuncData} {x : Str} {k : Nat} (F : ErrD K f fd) (T : ErrT K mg x C f fd) : FnOk P w K mg base CX0 (k + 1) f fd ["self", "why"] (spErr C) := by
  refine F.ok sc_err (fun vs H Q E h => ?_) (fun cdv A outer s H vs Q E hr h => ?_)
  · obtain ⟨a, y, rfl, _⟩ := h
    rfl
  · obtain ⟨a, y, rfl, ea, q⟩ := h
    refine ⟨_, pss_one (ps_ost (pv 0) (pv 1)), ?_⟩
    exact ⟨y, rfl, .ref a, rfl, a, C, rfl, T.o, T.nf, .inl ⟨ea, fun dx n ne => q dx n ne⟩⟩
/-- the way out by a raised error -/
theorem err_out {C : Addr} {y : V} {H : Hp} {E : XK} (h : ∀ H' d, Same H H' → H d = none → H' d = some (.xd [(("why" : Str), y)]) → E (.ref C) (some d) H') (a : Addr) (na : H a = none) :
    spErr C [.ref a, y] (upd H a (exo a C none)) (fun v H2 => v = .non ∧ ∃ (d : Addr) (fs : List (Str × V)), H2 a = some (exo a C (some d)) ∧ H2 d = some (exd d fs) ∧ H d = none ∧ E (.ref C) (some d) (upd (del H2 a) d (.xd fs))) (fun _ _ _ => False) := by
  refine ⟨a, y, rfl, upd_same, fun dx ndx ne => ⟨rfl, dx, [(("why" : Str), y)], upd_same, ?_, ?_, ?_⟩⟩
  · rw [upd_ne ne, upd_same]
  · rw [upd_ne ne] at ndx
    exact ndx
  · rw [upd_ne ne] at ndx
    refine h _ dx (fun b o e => ?_) ndx upd_same
    have nb : b ≠ dx := ne_of_none e ndx
    have nba : b ≠ a := ne_of_none e na
    rw [upd_ne nb, del_ne nba, upd_ne nba, upd_ne nb, upd_ne nba]
    exact e
theorem why_look {v : V} : List.lookup ("why" : Str) [(("why" : Str), v)] = some v := by simp [List.lookup]
/-- what may be asked of a caught Unmade -/
structure CaughtT (K : PySem.W.Frag) (CU BE : Addr) : Prop where
  x : XfC K CU
  c : ExcC K CU
  e : PySem.W.exmOne K (.ref CU) (.ref CU) = some true
  v : PySem.W.kitOne K (.ref CU) (.type "ValueError") = some true
  b : PySem.W.kitOne K (.ref CU) (.ref BE) = some false
end
theorem kit_subT {K : PySem.W.Frag} {a : Addr} {T : String} {b : Bool} (hm : PySem.W.kitMeta T = true) (h : PySem.W.subIn K (.ref a) (.type T) = some b) : PySem.W.kitOne K (.ref a) (.type T) = some b := by
  unfold PySem.W.kitOne
  rw [if_neg (by intro z; cases z)]
  unfold PySem.W.kitCls
  dsimp only
  rw [if_pos hm]
  exact h
theorem kit_subR {K : PySem.W.Frag} {a c : Addr} {b : Bool} (h1 : PySem.W.hasDictIn K c = true) (h2 : PySem.W.typeIn K (.ref c) = some (.type "type")) (h3 : PySem.W.subIn K (.ref a) (.ref c) = some b) (h4 : PySem.W.subIn K (.ref a) (.ref a) = some true) : PySem.W.kitOne K (.ref a) (.ref c) = some b := by
  obtain ⟨cd, hc, _⟩ := PySem.W.any_some h1
  unfold PySem.W.kitOne
  split
  · rename_i e
    have e2 : a = c := Value.ref.inj (beq_iff_eq.mp e)
    subst e2
    rw [h4] at h3
    exact h3
  · unfold PySem.W.kitCls
    dsimp only
    have e : ((PySem.W.clsIn K c).isSome && PySem.W.typeIn K (.ref c) == some (.type "type")) = true := by rw [hc, h2] <;> rfl
    rw [if_pos e]
    exact h3
end WB

set_option Elab.async false
set_option linter.all false
set_option maxRecDepth 100000
set_option maxHeartbeats 4000000
namespace L2
open PySem PySem.Spec PyProof.Rows
/-- X(), an own error whose __init__ has a default for all but itself -/
theorem pmk_oex0 {X : Cx} {CX : CXT} {nmC : Str} {cC fI : Addr} {lev : Nat} {fdI : FuncData} {pars : List Str} {spI : Sp} {dsI : List Value} {dvI : List V} {pA pB : Pos} (cls : OexC X.K cC) (ini : PySem.W.findIn X.K (.ref cC) "__init__" = some (some (.ref fI))) (tyI : PySem.W.typeIn X.K (.ref fI) = some (.type "function"))
    (good : FnOk X.prog X.w X.K X.mg X.base CX lev fI fdI pars spI) (room : Room (lev + 1) X.A) (bnd : Binds X.K fdI pars dsI) (vals : Vals dvI dsI) (out : Passes CX X (fun _ _ _ => False)) (glob : Gl X nmC) (at_ : X.mg nmC = some (.ref cC)) (nodb : (nmC == ("__debug__" : Str)) = false := by decide) :
    PMk X (.Call (.Name nmC pA) [] [] pB) (tMkO cC spI dvI tNil) := by
  intro pins st σ H want inv ask
  obtain ⟨x1, x2, x3, x4, bm, x5, x6, x7, x8, x9, y0, y1, y2, y3, y5, look, mro⟩ := cls.cls
  refine wpAny_Call_Name_kw (ld_glob inv glob at_ ?_ nodb)
  refine PySem.W.callWith_K0 inv.kIn cls.kC ?_
  obtain ⟨hz, q1⟩ := ask
  obtain ⟨hp, gs, dr, tk, os⟩ := st
  have up1 : hp.objs.size ≤ hp.objs.size + 1 := Nat.le_succ _
  have want1 := q1 (hp.objs.size + 1) (inv.hok.fresh up1)
  have stay : ∀ b o, hp.get? b = some o → ((hp.push (PySem.W.kdv_tup [])).push (PySem.HandSPX.excO cC hp.objs.size)).get? b = some o := fun b o e => by
    refine Heap.get?_push_of_some _ ?_
    exact Heap.get?_push_of_some _ e
  have there : ((hp.push (PySem.W.kdv_tup [])).push (PySem.HandSPX.excO cC hp.objs.size)).get? (hp.objs.size + 1) = some (PySem.HandSPX.excO cC hp.objs.size) := by heap_get
  have inv2 : Inv X pins σ (upd H (hp.objs.size + 1) (exo (hp.objs.size + 1) cC none)) ⟨(hp.push (PySem.W.kdv_tup [])).push (PySem.HandSPX.excO cC hp.objs.size), gs, dr, tk, os⟩ := inv.laid (t' := tk) stay up1 (exo_ok there)
  have rel : Vals (V.ref (hp.objs.size + 1) :: ([] ++ dvI)) (Value.ref (hp.objs.size + 1) :: ([] ++ dsI)) := .cons rfl vals
  have len : ([Value.ref (hp.objs.size + 1)] ++ dsI).length = pars.length := by
    have e := rel.length
    rw [good.len _ _ _ _ want1] at e
    exact e.symm
  have ran := good.run _ X.stack ⟨(hp.push (PySem.W.kdv_tup [])).push (PySem.HandSPX.excO cC hp.objs.size), gs, dr, tk, os⟩ _ ⟨[Value.ref (hp.objs.size + 1)], []⟩ _ _ _ (fun _ _ _ => False) (room.make cC [] []) (inv2.env0.make cC [] []) (bnd _ [Value.ref (hp.objs.size + 1)] inv2.kIn len) rel want1
  have small : ([] : List Value).length ≤ sizeLine := Nat.zero_le _
  show wpAny _ _ (call (.ref cC) []) _ _ _
  refine wpAny_call (PySem.HandSPX.call_own F.excBase_ValueError (fun Y => PySem.HandSPX.refsVE_contains Y bm mro) (inv.kIn _ _ look) (PySem.W.looks_findIn inv.kIn ini) (fun self => PySem.W.bind_fn inv.kIn self tyI) small (codeAny_mono ran fun r st2 got => ?_))
  cases r with
  | error er => exact out pins σ _ _ er st2 inv2 got
  | ok fl =>
    cases fl with
    | next => exact got.elim
    | brk => exact got.elim
    | cont => exact got.elim
    | ret u =>
      obtain ⟨v, H2, g1, g2, g3, g4, rv, ev, d, fs, ea, ed, nd, q2⟩ := got
      subst ev
      obtain ⟨h2, gs2, dr2, t2, os2⟩ := st2
      exact ⟨rv, mk_end (raises_own cls.exC cls.tyC) inv up1 stay g3 g4 g1 g2 ea ed nd q2⟩
end L2
namespace WB
open PySem PySem.Spec PyProof.Rows L2 WG
open NdefX (NF FnO NOk nok_of NScope nscope_by TabN TabsN)
open LamX (CodeO TabB)
open TL (tl)
theorem small1000 {n : Nat} (h : n ≤ 1000) : n < sizeLine := by
  have : sizeLine = 16777216 := sizeLine_eq
  omega
abbrev st_own : Stmt := topS 32
theorem sc_own : FnScope ["_law_kept", "_law_bad", "_law_odd_here", "_law_inner"] ["_law_kept", "_law_bad", "_law_odd_here"] (defScope st_own) := ⟨rfl, rfl, rfl, by decide +kernel, rfl, by decide +kernel, by decide +kernel⟩
abbrev st_inner : Stmt := match defBody st_own with
  | [s, _] => s
  | _ => st_own
def qIn : Str := (envOfC "_law_own" (defScope st_own) 0 0 .none).qual ++ ("_law_inner" : Str)
theorem sc_inner : NScope ["_law_word", "_law_kept", "_law_bad", "_law_odd_here"] ["_law_word"] ["_law_kept", "_law_bad", "_law_odd_here"] (C8.fnScope st_inner) := nscope_by (by decide +kernel)
theorem free_inner : NdefX.ndefB (defScope st_own) (C8.fnScope st_inner) ["_law_kept", "_law_bad", "_law_odd_here"] = true := by decide +kernel
theorem only_three : ∀ x ∈ (C8.fnScope st_inner).names, x.2 = .free → x.1 = ("_law_kept" : Str) ∨ x.1 = ("_law_bad" : Str) ∨ x.1 = ("_law_odd_here" : Str) := by decide +kernel
theorem kept_in : (("_law_kept" : Str), NameKind.free) ∈ (C8.fnScope st_inner).names := by decide +kernel
theorem bad_in : (("_law_bad" : Str), NameKind.free) ∈ (C8.fnScope st_inner).names := by decide +kernel
theorem odd_in : (("_law_odd_here" : Str), NameKind.free) ∈ (C8.fnScope st_inner).names := by decide +kernel
theorem own_cells (n : Nat) : (PySem.cellsFrom n (defScope st_own).names []).lookup ("_law_kept" : Str) = some n ∧ (PySem.cellsFrom n (defScope st_own).names []).lookup ("_law_bad" : Str) = some (n + 1) ∧ (PySem.cellsFrom n (defScope st_own).names []).lookup ("_law_odd_here" : Str) = some (n + 2) := ⟨rfl, rfl, rfl⟩
/-- the defs that _law_own gives out -/
def FSi (F : NF) : Prop := ∃ (cl : List (Str × Addr)) (cd : Addr), F = NF.of st_inner "_law_inner" qIn cl cd
abbrev sgn (c : Nat) : Str := ⟨#[c]⟩
/-- a maker: its def at g, its dict at d, its sign c, its odd pair at o -/
def MkA (H : Hp) (g d : Addr) (c : Nat) (o : Addr) : Prop := ∃ (F : NF) (c1 c2 c3 : Addr), FSi F ∧ Cl3 F "_law_kept" "_law_bad" "_law_odd_here" c1 c2 c3 ∧ H g = some (FnO g F) ∧ H F.c = some (CodeO F.c F.qual) ∧ H c1 = some (CellV c1 (.ref d)) ∧ H c2 = some (CellV c2 (.str (sgn c))) ∧ H c3 = some (CellV c3 (.ref o))
/-- why a word with the sign is refused -/
def whyOf (c : Nat) (z : Str) : Str := if (1 : Int) < Txt.count z (sgn c) then Str.ofString "" else (Str.ofString "no " ++ sgn c ++ Str.ofString " in ") ++ z
theorem count_mem {z : Str} {c : Nat} (h : (1 : Int) < Txt.count z (sgn c)) : c ∈ tl z := by
  by_cases hc : c ∈ tl z
  · exact hc
  · exfalso
    have e : Txt.count z (sgn c) = 0 := (count_is z c).trans (cnt_none c _ hc)
    rw [e] at h
    exact absurd h (by decide)
theorem put_none {kvs : List (Key × V)} {k : Key} {v : V} (h : valV kvs k = none) : putK kvs k v = kvs ++ [(k, v)] := by
  unfold putK
  rw [if_neg]
  intro z
  obtain ⟨kv, hk, hz⟩ := List.any_eq_true.mp z
  have hz' := of_decide_eq_true hz
  unfold valV at h
  have := List.find?_eq_none.mp (Option.map_eq_none_iff.mp h) kv hk
  simp [hz'] at this
section
variable {P : Program} {w : World} {K : PySem.W.Frag} {mg : Str → Option Value} {base : Heap}
def spIn (CU : Addr) (ws : List (Option V)) : Sp := fun vs H Q E => ∃ (d : Addr) (c : Nat) (o : Addr) (c2 : Nat) (ov : V) (z : Str) (kvs : List (Key × V)), ws = [some (.ref d), some (.str (sgn c)), some (.ref o)] ∧ vs = [.str z] ∧ z.length ≤ 200 ∧ H o = some (.tup [.str (sgn c2), ov]) ∧ H d = some (.dK kvs) ∧ kvs.length ≤ 5000 ∧
  (c ∉ tl z → c2 ∈ tl z → Q ov H) ∧ (c ∉ tl z → c2 ∉ tl z → ∀ v, valV kvs (Sum.inr z) = some v → ∀ H', Same H H' → Q v H') ∧
  (c ∉ tl z → c2 ∉ tl z → valV kvs (Sum.inr z) = none → ∀ H' L, H L = none → But d H H' → H' d = some (.dK (kvs ++ [(Sum.inr z, .ref L)])) → H' L = some (.lst [.str z]) → Q (.ref L) H') ∧
  (c ∈ tl z → ∀ H' x, Same H H' → H x = none → H' x = some (.xd [(("why" : Str), .str (whyOf c z))]) → E (.ref CU) (some x) H')
theorem ok_inner {CU fE : Addr} {fdE : FuncData} {k : Nat} (FE : ErrD K fE fdE) (TE : ErrT K mg "Unmade" CU fE fdE) :
    ∀ f F, FSi F → NOk P w K mg base (L2.CX P w) (k + 3) f F ["_law_word"] ["_law_kept", "_law_bad", "_law_odd_here"] (spIn CU) := by
  have GE : FnOk P w K mg base CX0 (k + 1) fE fdE ["self", "why"] (spErr CU) := ok_err FE TE
  obtain ⟨ds0, v0, b0⟩ := FE.binds1 (ps := ["self", "why"]) 1 0 (by simp) rfl (fun T kV doc pm an cdv ct us its h1 h2 => match us, its, h1, h2 with | [_], [_], _, _ => ⟨_, rfl, rfl⟩)
  intro f F hF
  obtain ⟨cl, cd, rfl⟩ := hF
  refine nok_of (N := ["_law_word", "_law_kept", "_law_bad", "_law_odd_here"]) sc_inner (fun doc pm ctv us hl => match us, hl with | [_], _ => rfl) (fun ws vs H Q E h => ?_) (fun A outer s H vs ws Q E hr hf hc hl h => ?_)
  · obtain ⟨d, c, o, c2, ov, z, kvs, rfl, rfl, _⟩ := h
    rfl
  · obtain ⟨d, c, o, c2, ov, z, kvs, rfl, rfl, hz, eo, ed, lk, q1, q2, q3, qx⟩ := h
    refine ⟨_, pss_cons (ps_if (pt_cmpR op_gt (pe_m1 PySem.F.slot_str_count PySem.F.type_str_count mt_count (pv 0) (pv 2)) pe_int (nomark _)) (pss_one (ps_raise rfl (takes_of rfl rfl rfl rfl) (pmk_oex0 TE.o TE.i TE.t GE hr b0 v0 pass0 (by rfl) TE.g))) pss_nil)
      (pss_cons (ps_if (pt_cmpR op_in_sign (pv 2) (pv 0) (by rfl)) (pss_one (ps_raise rfl (takes_of rfl rfl rfl rfl) (pmk_oex TE.o TE.i TE.t GE hr TE.b .nil pass0 (by rfl) TE.g (pa_cons (pe_op op_add_str (pe_op op_add_str (pe_op op_add_str pe_str (pv 2)) pe_str) (pv 0)) pa_nil)))) pss_nil)
      (pss_cons (ps_if (pt_cmpR op_in_sign (pe_ix ix_tup (pv 3) pe_int (fun _ _ => rfl)) (pv 0) (by rfl)) (pss_one (ps_ret (pe_ix ix_tup (pv 3) pe_int (fun _ _ => rfl)))) pss_nil)
      (pss_one (ps_ret (pe_dsetd (pv 1) (pv 0) (pe_lst (pa_cons (pv 0) pa_nil)) ⟨rfl, rfl, rfl, rfl⟩))))), ?_⟩
    have sz : sizeLine = 16777216 := sizeLine_eq
    have l1 : (Str.ofString "no ").length = 3 := by decide +kernel
    have l2 : (Str.ofString " in ").length = 4 := by decide +kernel
    have l3 : (sgn c).length = 1 := rfl
    refine ⟨.str z, rfl, ⟨_, rfl⟩, .str (sgn c), rfl, z, sgn c, rfl, rfl, _, 1, rfl, rfl, _, rfl, ite2 (fun e => ?_) (fun e => ?_)⟩
    · have hcnt : (1 : Int) < Txt.count z (sgn c) := of_decide_eq_true e
      have hc := count_mem hcnt
      have qx' := qx hc
      unfold whyOf at qx'
      rw [if_pos hcnt] at qx'
      exact ⟨by decide, fun x nx => err_out (fun H' d sm nd ed => qx' H' d sm nd ed) x nx⟩
    · have hcnt : ¬ (1 : Int) < Txt.count z (sgn c) := fun h => e (decide_eq_true h)
      refine ⟨.str (sgn c), rfl, .str z, rfl, c, z, rfl, rfl, _, rfl, ite2 (fun e => ?_) (fun e => ?_)⟩
      · have hc : c ∈ tl z := of_decide_eq_true e
        have qx' := qx hc
        unfold whyOf at qx'
        rw [if_neg hcnt] at qx'
        refine ⟨.str (sgn c), rfl, _, _, rfl, rfl, ?_, _, _, rfl, rfl, ?_, .str z, rfl, _, _, rfl, rfl, ?_, by show 1 ≤ 1000; decide, fun x nx => err_out (fun H' d sm nd ed => qx' H' d sm nd ed) x nx⟩
        · rw [l1, l3]
          omega
        · rw [Str.length_append, l1, l2, l3]
          omega
        · rw [Str.length_append, Str.length_append, l1, l2, l3]
          omega
      · have hc : c ∉ tl z := fun h => e (decide_eq_true h)
        refine ⟨.ref o, rfl, o, _, 0, .str (sgn c2), rfl, rfl, SqT.of eo, rfl, .str z, rfl, c2, z, rfl, rfl, _, rfl, ite2 (fun e => ?_) (fun e => ?_)⟩
        · exact ⟨.ref o, rfl, o, _, 1, ov, rfl, rfl, SqT.of eo, rfl, q1 hc (of_decide_eq_true e)⟩
        · have hc2 : c2 ∉ tl z := fun h => e (decide_eq_true h)
          refine ⟨.ref d, rfl, d, rfl, .inl ⟨kvs, .inl ed⟩, .str z, rfl, .str z, rfl, by show 1 ≤ sizeLine; decide, fun l nl => ?_⟩
          have ndl : d ≠ l := ne_of_none ed nl
          refine ⟨kvs, Sum.inr z, by rw [upd_ne ndl]; exact ed, rfl, by omega, fun v hv => q2 hc hc2 v hv _ (same_upd nl), fun hn => ?_⟩
          refine q3 hc hc2 hn _ l nl (fun b o nb e => ?_) ?_ ?_
          · rw [upd_ne nb, upd_ne (ne_of_none e nl)]
            exact e
          · rw [upd_same, put_none hn]
          · rw [upd_ne ndl.symm, upd_same]
/-- the names of the code objects that _law_own's table tells -/
def nmT : Nat → Nat → Str := fun _ _ => qIn
def spOwn (T : Addr) : Sp := fun vs H Q _ => ∃ (d : Addr) (c : Nat) (o : Addr), vs = [.ref d, .str (sgn c), .ref o] ∧ TabN H T nmT ∧ ∀ H' g, LamX.ExtN H H' → TabN H' T nmT → H g = none → MkA H' g d c o → Q (.ref g) H'
theorem ok_own {f c T : Addr} {oc kV doc pm ct : Value} {an od : Option Addr} {osl : Array (Option Value)} {k : Nat}
    (lk : K.lookup f = some ⟨oc, od, .func (PySem.W.fnOf "_law_own" "_law_own" (defArgs st_own) (defBody st_own) (defScope st_own) .none kV doc pm an (.ref c) ct), osl⟩) (hcd : PySem.W.codeIn K (.ref c) "_law_own" = true) (TB : TabB base mg c T) :
    FnOk P w K mg base CX0 (k + 1) f (PySem.W.fnOf "_law_own" "_law_own" (defArgs st_own) (defBody st_own) (defScope st_own) .none kV doc pm an (.ref c) ct) ["_law_kept", "_law_bad", "_law_odd_here"] (spOwn T) := by
  refine fn_ofC3 (y1 := "_law_kept") (y2 := "_law_bad") (y3 := "_law_odd_here") (z := "_law_inner") (i := 3) (j1 := 0) (j2 := 1) (j3 := 2) lk hcd sc_own (fun vs H Q E h => ?_) rfl rfl (.inl rfl) rfl rfl rfl rfl rfl rfl (by decide) (by decide) (fun A outer s H vs Q E hr h => ?_)
  · obtain ⟨d, c, o, rfl, _⟩ := h
    rfl
  · obtain ⟨d, c, o, rfl, tab, q⟩ := h
    refine ⟨_, NdefX.ps_ndefMS (st := st_inner) (T := [(T, nmT)]) (nm := nmT) (i := 3) rfl TB rfl (List.mem_singleton.mpr rfl) rfl (fun p hp _ => by rw [List.mem_singleton.mp hp]) (NdefX.ndef_free free_inner) rfl rfl rfl sc_own.nd rfl (Or.inl rfl) (Or.inr rfl), ?_⟩
    refine ⟨fun p hp => by rw [List.mem_singleton.mp hp]; exact tab, fun g cd H1 ext _ tabs ng eg ec => ?_⟩
    refine ⟨g, .ref d, .str (sgn c), .ref o, rfl, rfl, rfl, rfl, fun c1 c2 c3 hc1 hc2 hc3 n1 n2 n3 => ?_⟩
    obtain ⟨h1, h2, h3⟩ := own_cells (s.heap.objs.size + 1)
    have hc1' : (PySem.cellsFrom (s.heap.objs.size + 1) (defScope st_own).names []).lookup ("_law_kept" : Str) = some c1 := hc1
    have hc2' : (PySem.cellsFrom (s.heap.objs.size + 1) (defScope st_own).names []).lookup ("_law_bad" : Str) = some c2 := hc2
    have hc3' : (PySem.cellsFrom (s.heap.objs.size + 1) (defScope st_own).names []).lookup ("_law_odd_here" : Str) = some c3 := hc3
    rw [h1] at hc1'
    rw [h2] at hc2'
    rw [h3] at hc3'
    have e1 := Option.some.inj hc1'
    have e2 := Option.some.inj hc2'
    have e3 := Option.some.inj hc3'
    have n12 : c1 ≠ c2 := by rw [← e1, ← e2]; exact Nat.ne_of_lt (Nat.lt_succ_self _)
    have n13 : c1 ≠ c3 := by rw [← e1, ← e3]; exact Nat.ne_of_lt (Nat.lt_succ_of_lt (Nat.lt_succ_self _))
    have n23 : c2 ≠ c3 := by rw [← e2, ← e3]; exact Nat.ne_of_lt (Nat.lt_succ_self _)
    refine ⟨⟨n12, n13, n23⟩, ?_⟩
    have sm : Same H1 (on3 H1 c1 c2 c3 (.ref d) (.str (sgn c)) (.ref o)) := fun b u e => by
      rw [on3_ne (ne_of_none e n1) (ne_of_none e n2) (ne_of_none e n3)]
      exact e
    have all3 : ∀ x ∈ (C8.fnScope st_inner).names, x.2 = .free → ∃ c, (envOfC "_law_own" (defScope st_own) s.heap.objs.size f (.ref _)).cells.lookup x.1 = some c := fun x hx e => by
      rcases only_three x hx e with z | z | z
      · exact ⟨c1, by rw [z]; exact hc1⟩
      · exact ⟨c2, by rw [z]; exact hc2⟩
      · exact ⟨c3, by rw [z]; exact hc3⟩
    refine q _ g (fun b u e n => sm _ _ (ext b u e n)) ((tabs _ (List.mem_singleton.mpr rfl)).ext sm) ng ?_
    refine ⟨_, c1, c2, c3, ⟨_, cd, rfl⟩, ⟨?_, ?_, ?_, ?_, n12, n13, n23⟩, sm _ _ eg, sm _ _ ec, on3_1 n12 n13, on3_2 n23, on3_3⟩
    · exact NdefX.clo_has all3 kept_in hc1
    · exact NdefX.clo_has all3 bad_in hc2
    · exact NdefX.clo_has all3 odd_in hc3
    · intro x d' e
      rcases cloFrom_mem (PySem.mem_of_lookup e) with z | ⟨z, _⟩
      · cases z
      · exact only_three _ z rfl
end
end WB

set_option Elab.async false
set_option linter.all false
set_option maxRecDepth 100000
set_option maxHeartbeats 4000000
namespace WB
open PySem PySem.Spec PyProof.Rows L2 WG
open NdefX (NF FnO)
open LamX (CodeO)
open TL (tl)
abbrev st_is_text_within : Stmt := topS 4
theorem sc_is_text_within : FnScope ["value", "most"] ["value", "most"] (defScope st_is_text_within) := ⟨rfl, rfl, rfl, by decide +kernel, rfl, by decide +kernel, by decide +kernel⟩
abbrev st_is_name : Stmt := topS 5
theorem sc_is_name : FnScope ["value", "sign"] ["value"] (defScope st_is_name) := ⟨rfl, rfl, rfl, by decide +kernel, rfl, by decide +kernel, by decide +kernel⟩
abbrev st_kind_of : Stmt := topS 20
theorem sc_kind_of : FnScope ["word"] ["word"] (defScope st_kind_of) := ⟨rfl, rfl, rfl, by decide +kernel, rfl, by decide +kernel, by decide +kernel⟩
abbrev st_makes_of : Stmt := topS 22
theorem sc_makes_of : FnScope ["maker", "word"] ["maker", "word"] (defScope st_makes_of) := ⟨rfl, rfl, rfl, by decide +kernel, rfl, by decide +kernel, by decide +kernel⟩
abbrev st_is_sample : Stmt := topS 23
theorem sc_is_sample : FnScope ["value", "maker"] ["value", "maker"] (defScope st_is_sample) := ⟨rfl, rfl, rfl, by decide +kernel, rfl, by decide +kernel, by decide +kernel⟩
def nameSet : Str := Str.ofString "abcdefghijklmnopqrstuvwxyz0123456789-"
def nm (cs : List Nat) : Bool := decide (cs ≠ []) && decide (cs.length ≤ 10) && !decide (cs.take 1 = [45]) && !decide (cs.getLast? = some 45) && !decide (cs.take 3 = [110, 111, 45]) && cs.all fun c => decide (c ∈ tl nameSet)
theorem starts (x y : Str) : Txt.startswith x y = ((tl x).take (tl y).length == tl y) := by
  unfold Txt.startswith
  rw [StrLaws.subAt_eq, List.drop_zero, TL.len_tl y]
  by_cases h : (tl y).length ≤ (tl x).length
  · have e : decide (0 + (tl y).length ≤ x.length) = true := decide_eq_true (by rw [TL.len_tl x]; omega)
    rw [e, Bool.true_and]
  · have e : decide (0 + (tl y).length ≤ x.length) = false := decide_eq_false (by rw [TL.len_tl x]; omega)
    rw [e, Bool.false_and]
    cases q : ((tl x).take (tl y).length == tl y) with
    | false => rfl
    | true =>
      have z := congrArg List.length (eq_of_beq q)
      rw [List.length_take] at z
      omega
theorem starts_lit (x : Str) (s : String) {l : List Nat} (hl : tl (Str.ofString s) = l) : Txt.startswith x (Str.ofString s) = decide ((tl x).take l.length = l) := by
  rw [starts, hl]
  cases q : ((tl x).take l.length == l) with
  | true => exact (decide_eq_true (eq_of_beq q)).symm
  | false => exact (decide_eq_false (fun e => by rw [e] at q; simp at q)).symm
theorem drop_last {l : List Nat} (h : l ≠ []) : l.drop (l.length - 1) = [l.getLast h] := by
  have e := List.dropLast_concat_getLast h
  have hl : l.length - 1 = l.dropLast.length := by rw [List.length_dropLast]
  rw [hl]
  conv => lhs; rw [← e]
  rw [List.dropLast_concat, List.drop_left]
theorem ends_dash (x : Str) : Txt.endswith x (Str.ofString "-") = decide ((tl x).getLast? = some 45) := by
  unfold Txt.endswith
  have e1 : (Str.ofString "-").length = 1 := by decide +kernel
  have e2 : (Str.ofString "-").cps.toList = [45] := by decide +kernel
  rw [StrLaws.subAt_eq, e1, e2, TL.len_tl x]
  cases hx : tl x with
  | nil => rfl
  | cons c r =>
    have hx' : x.cps.toList = c :: r := hx
    rw [hx']
    have e3 : decide (0 + 1 ≤ (c :: r).length) = true := decide_eq_true (by rw [List.length_cons]; omega)
    rw [e3, Bool.true_and]
    have e4 : ((c :: r).drop ((c :: r).length - 1)).take 1 = [(c :: r).getLast (List.cons_ne_nil c r)] := by
      rw [drop_last (List.cons_ne_nil c r)]
      rfl
    rw [e4, List.getLast?_eq_getLast (List.cons_ne_nil c r)]
    cases q : ([(c :: r).getLast (List.cons_ne_nil c r)] == [45]) with
    | true =>
      have := eq_of_beq q
      injection this with a b
      rw [a]
      rfl
    | false =>
      refine (decide_eq_false fun e => ?_).symm
      rw [Option.some.inj e] at q
      cases q
theorem eq_lit (x : Str) (s : String) : (V.str x = V.str (Str.ofString s)) ↔ tl x = tl (Str.ofString s) := by
  constructor
  · intro h
    rw [V.str.inj h]
  · intro h
    rw [TL.ext_tl h]
theorem dec_lit (x : Str) (s : String) {l : List Nat} (hl : tl (Str.ofString s) = l) : decide (V.str x = V.str (Str.ofString s)) = decide (tl x = l) := by
  rw [← hl]
  exact decide_eq_decide.mpr (eq_lit x s)
def isNm : V → Bool
  | .str z => nm (tl z)
  | _ => false
section
variable {P : Program} {w : World} {K : PySem.W.Frag} {mg : Str → Option Value} {base : Heap}
def within (v : V) (m : Int) : Bool := match v with
  | .str z => decide ((z.length : Int) ≤ m)
  | _ => false
def spWithin : Sp := fun vs H Q _ => ∃ (z : Str) (m : Int), vs = [.str z, .int m] ∧ z.length ≤ 1000 ∧ Q (.bl (within (.str z) m)) H
theorem ok_within {f : Addr} {fd : FuncData} {k : Nat} (F : Fun K "is_text_within" "is_text_within" st_is_text_within f fd) (m_len : mg "len" = none) (m_str : mg "str" = none) (m_isinstance : mg "isinstance" = none) :
    FnOk P w K mg base CX0 (k + 1) f fd ["value", "most"] spWithin := by
  refine F.ok sc_is_text_within (fun vs H Q E h => ?_) (fun cdv A outer s H vs Q E hr h => ?_)
  · obtain ⟨v, m, rfl, _⟩ := h
    rfl
  · obtain ⟨z, m, rfl, hz, q⟩ := h
    refine ⟨_, pss_one (ps_ret (pe_and (pe_callB call_isi (by rfl) m_isinstance (by decide +kernel) (pa_cons (pv 0) (pa_cons (pe_bltn (v := .ty "str") (by rfl) m_str (by decide +kernel) rfl) pa_nil))) (pe_one (pe_cmpR op_le (pe_callB call_len_str (by rfl) m_len PySem.boot_len (pa_cons (pv 0) pa_nil)) (pv 1) (nomark _))))), ?_⟩
    exact ⟨.str z, rfl, .str z, _, _, _, true, rfl, ClsV.ty "str", TyX.base (TyOf.str _), kit_ty (by decide +kernel), _, rfl, _, rfl, z, rfl, Nat.le_of_lt (small1000 hz), _, rfl, _, _, rfl, rfl, q⟩
def spName : Sp := fun vs H Q _ => ∃ z : Str, vs = [.str z] ∧ z.length ≤ 1000 ∧ ∀ H', Same H H' → Q (.bl (isNm (.str z))) H'
theorem ok_isName {f fW : Addr} {fd fdW : FuncData} {k : Nat} {u1 u2 : Tok} (F : Fun K "is_name" "is_name" st_is_name f fd) (D_is_text_within : Df K mg "is_text_within" st_is_text_within ["value", "most"] fW fdW)
    (m_len : mg "len" = none) (m_str : mg "str" = none) (m_isinstance : mg "isinstance" = none) (m_all : mg "all" = none) (c_MOST_NAME_SIGNS : mg "MOST_NAME_SIGNS" = some (.int 10 u1)) (c_NAME_SIGNS : mg "NAME_SIGNS" = some (.str nameSet u2)) :
    FnOk P w K mg base CX0 (k + 2) f fd ["value"] spName := by
  have G_is_text_within : FnOk P w K mg base CX0 (k + 1) fW fdW ["value", "most"] spWithin := ok_within D_is_text_within.F m_len m_str m_isinstance
  refine F.ok sc_is_name (fun vs H Q E h => ?_) (fun cdv A outer s H vs Q E hr h => ?_)
  · obtain ⟨v, rfl, _⟩ := h
    rfl
  · obtain ⟨z, rfl, hz, q⟩ := h
    refine ⟨_, pss_cons (ps_if (PW.pt (pw_or (pt_not (pt_val (pe_call G_is_text_within hr (by rfl) D_is_text_within.g D_is_text_within.F.kp D_is_text_within.b .nil pass0 (pa_cons (pv 0) (pa_cons (pe_glob (v := .int 10) rfl c_MOST_NAME_SIGNS ⟨_, rfl⟩) pa_nil))))) (pw_or1 (pt_cmpR op_eq (pv 0) pe_str (nomark _))))) (pss_one (ps_ret pe_bl)) pss_nil)
      (pss_cons (ps_if (PW.pt (pw_or (pt_val (pe_m1 PySem.F.slot_str_startswith PySem.F.type_str_startswith mt_startswith (pv 0) pe_str)) (pw_or (pt_val (pe_m1 PySem.F.slot_str_endswith PySem.F.type_str_endswith mt_endswith (pv 0) pe_str)) (pw_or1 (pt_val (pe_m1 PySem.F.slot_str_startswith PySem.F.type_str_startswith mt_startswith (pv 0) pe_str)))))) (pss_one (ps_ret pe_bl)) pss_nil)
      (pss_one (ps_ret (pe_callB (cr_all rfl) (by rfl) m_all (by decide +kernel) (pa_cons (pe_lc (own := [("sign", 1)]) (g := gName 1) (tt := tYes) rfl sc_is_name.nd (pi_str (pv 0)) (blkOk_by (N := ["value", "sign"]) (sc := defScope st_is_name) (by decide +kernel)) (fun _ _ _ _ _ => (pg_name (i := 1) sc_is_name.nd rfl (Or.inl rfl))) (fun _ _ _ _ _ => pts_nil) (fun _ _ _ _ _ => (pe_cmpR op_in_sign (pv 1) (pe_glob (v := .str nameSet) rfl c_NAME_SIGNS ⟨_, rfl⟩) (by rfl)))) pa_nil))))), ?_⟩
    refine ⟨.str z, rfl, z, 10, rfl, hz, _, rfl, ite2 (fun e => ?_) (fun e => ?_)⟩
    · have e1 : ¬ ((z.length : Int) ≤ 10) := fun c => by
        have : within (.str z) 10 = true := decide_eq_true c
        rw [this] at e
        cases e
      have e2 : isNm (.str z) = false := by
        show nm (tl z) = false
        unfold nm
        rw [decide_eq_false (p := (tl z).length ≤ 10) (by rw [← TL.len_tl]; omega)]
        simp
      rw [e2] at q
      exact q _ (Same.refl _)
    · have e1 : (z.length : Int) ≤ 10 := by
        have : within (.str z) 10 = true := by
          cases c : within (.str z) 10 with
          | true => rfl
          | false => rw [c] at e; exact absurd rfl e
        exact of_decide_eq_true this
      refine ⟨.str z, rfl, rfl, _, rfl, ite2 (fun e => ?_) (fun e => ?_)⟩
      · have e2 : tl z = [] := (eq_lit z "").mp (of_decide_eq_true e)
        have e3 : isNm (.str z) = false := by
          show nm (tl z) = false
          rw [e2]
          rfl
        rw [e3] at q
        exact q _ (Same.refl _)
      · have e2 : tl z ≠ [] := fun c => e (decide_eq_true ((eq_lit z "").mpr c))
        have hlen : (tl z).length ≤ 10 := by rw [← TL.len_tl]; omega
        have neg : ∀ b : Bool, b = true → (b = true → nm (tl z) = false) → nm (tl z) = false := fun b h k => k h
        refine ⟨.str z, rfl, ⟨_, rfl⟩, _, _, rfl, rfl, _, rfl, ite2 (fun e => ?_) (fun e => ?_)⟩
        · rw [starts_lit z "-" (l := [45]) (by decide +kernel)] at e
          have e3 : isNm (.str z) = false := by
            show nm (tl z) = false
            unfold nm
            rw [show decide ((tl z).take 1 = [45]) = true from e]
            simp
          rw [e3] at q
          exact q _ (Same.refl _)
        · rw [starts_lit z "-" (l := [45]) (by decide +kernel)] at e
          have n1 : decide ((tl z).take 1 = [45]) = false := Bool.eq_false_iff.mpr e
          refine ⟨.str z, rfl, ⟨_, rfl⟩, _, _, rfl, rfl, _, rfl, ite2 (fun e => ?_) (fun e => ?_)⟩
          · rw [ends_dash z] at e
            have e3 : isNm (.str z) = false := by
              show nm (tl z) = false
              unfold nm
              rw [e]
              simp
            rw [e3] at q
            exact q _ (Same.refl _)
          · rw [ends_dash z] at e
            have n2 : decide ((tl z).getLast? = some 45) = false := Bool.eq_false_iff.mpr e
            refine ⟨.str z, rfl, ⟨_, rfl⟩, _, _, rfl, rfl, _, rfl, ite2 (fun e => ?_) (fun e => ?_)⟩
            · rw [starts_lit z "no-" (l := [110, 111, 45]) (by decide +kernel)] at e
              have e3 : isNm (.str z) = false := by
                show nm (tl z) = false
                unfold nm
                rw [show decide ((tl z).take 3 = [110, 111, 45]) = true from e]
                simp
              rw [e3] at q
              exact q _ (Same.refl _)
            · rw [starts_lit z "no-" (l := [110, 111, 45]) (by decide +kernel)] at e
              have n3 : decide ((tl z).take 3 = [110, 111, 45]) = false := Bool.eq_false_iff.mpr e
              have e3 : isNm (.str z) = (tl z).all fun c => decide (c ∈ tl nameSet) := by
                show nm (tl z) = _
                unfold nm
                rw [n1, n2, n3, decide_eq_true e2, decide_eq_true hlen]
                simp
              refine ⟨.str z, rfl, z, rfl, fun D nD => ?_⟩
              refine lc_it walk_str (fun i Hc => Same H Hc ∧ Hc D = some (.lst ((((tl z).take i).map fun c => decide (c ∈ tl nameSet)).map V.bl))) ⟨same_upd nD, upd_same⟩ (fun _ _ _ _ => True.intro) (fun i x Hc H' hi ⟨sc, eD⟩ ⟨eH, c, ec, ex⟩ => ?_) (fun Hc ⟨sc, eD⟩ => ?_)
              · subst eH ex
                have ec' : (tl z)[i]? = some c := by
                  rw [Array.getElem?_toList]
                  exact ec
                refine ⟨rfl, ?_⟩
                refine ⟨_, rfl, c, nameSet, rfl, rfl, _, eD, ?_, ?_, ?_⟩
                · rw [List.length_map, List.length_map, List.length_take]
                  exact small1000 (by omega)
                · intro b o e
                  rw [upd_ne (ne_of_none e nD)]
                  exact sc b o e
                · rw [upd_same, List.take_add_one, ec', List.map_append, List.map_append]
                  rfl
              · refine ⟨D, _, rfl, SqL.of eD, ?_⟩
                have el : z.cps.size = (tl z).length := by simp
                rw [el, List.take_length, List.all_map]
                rw [e3] at q
                exact q _ sc
/-! ### kind_of -/
/-- a plain word -/
def plainW (t : List Nat) : Bool := !(decide (1 < t.length) && decide (t.take 1 = [45]))
def spKind : Sp := fun vs H Q _ => ∃ z : Str, vs = [.str z] ∧ z.length ≤ 100 ∧ ∀ y : Str, (plainW (tl z) = true → y = Str.ofString "plain") → (plainW (tl z) = false → y ≠ Str.ofString "plain") → Q (.str y) H
theorem ok_kind {f : Addr} {fd : FuncData} {k : Nat} (F : Fun K "kind_of" "kind_of" st_kind_of f fd) (m_len : mg "len" = none) {u : Tok} (mV : mg "DIVIDER" = some (.str (Str.ofString "--") u)) : FnOk P w K mg base CX0 (k + 1) f fd ["word"] spKind := by
  refine F.ok sc_kind_of (fun vs H Q E h => ?_) (fun cdv A outer s H vs Q E hr h => ?_)
  · obtain ⟨z, rfl, _⟩ := h
    rfl
  · obtain ⟨z, rfl, hz, q⟩ := h
    refine ⟨_, pss_cons (ps_if (pt_cmpR op_eq (pv 0) (pe_glob (v := .str (Str.ofString "--")) rfl mV ⟨_, rfl⟩) (nomark _)) (pss_one (ps_ret pe_str)) pss_nil)
      (pss_cons (ps_if (pt_val (pe_m1 PySem.F.slot_str_startswith PySem.F.type_str_startswith mt_startswith (pv 0) pe_str)) (pss_one (ps_ret pe_str)) pss_nil)
      (pss_cons (ps_if (PW.pt (pw_and (pt_val (pe_m1 PySem.F.slot_str_startswith PySem.F.type_str_startswith mt_startswith (pv 0) pe_str)) (pw_and1 (pt_cmpR op_gt (pe_callB call_len_str (by rfl) m_len PySem.boot_len (pa_cons (pv 0) pa_nil)) pe_int (nomark _))))) (pss_one (ps_ret pe_str)) pss_nil)
      (pss_one (ps_ret pe_str)))), ?_⟩
    have hzl : z.length ≤ sizeLine := Nat.le_of_lt (small1000 (by omega))
    have ez := TL.len_tl z
    have d1 : Str.ofString "divider" ≠ Str.ofString "plain" := by decide +kernel
    have d2 : Str.ofString "long" ≠ Str.ofString "plain" := by decide +kernel
    have d3 : Str.ofString "shorts" ≠ Str.ofString "plain" := by decide +kernel
    refine ⟨_, rfl, rfl, _, rfl, ite2 (fun e => ?_) (fun e => ?_)⟩
    · have e1 : tl z = [45, 45] := ((eq_lit z "--").mp (of_decide_eq_true e)).trans (by decide +kernel)
      exact q _ (fun h => by rw [e1] at h; exact absurd h (by decide)) (fun _ => d1)
    refine ⟨_, rfl, ⟨_, rfl⟩, _, _, rfl, rfl, _, rfl, ite2 (fun e => ?_) (fun e => ?_)⟩
    · rw [starts_lit z "--" (l := [45, 45]) (by decide +kernel)] at e
      have e1 : (tl z).take 2 = [45, 45] := of_decide_eq_true e
      refine q _ (fun h => ?_) (fun _ => d2)
      exfalso
      unfold plainW at h
      have h1 : (tl z).take 1 = [45] := by
        have : ((tl z).take 2).take 1 = [45] := by rw [e1]; rfl
        rw [List.take_take] at this
        exact this
      have h2 : 1 < (tl z).length := by
        have := congrArg List.length e1
        rw [List.length_take] at this
        have e3 : [45, 45].length = 2 := rfl
        omega
      rw [decide_eq_true h1, decide_eq_true h2] at h
      cases h
    dsimp only [tNext, tSeq, tIfS]
    refine tt_use (t := tAnd _ _) (b := !plainW (tl z)) (fun R c => ?_) ?_
    · refine ⟨_, rfl, ⟨_, rfl⟩, _, _, rfl, rfl, _, rfl, ?_⟩
      rw [starts_lit z "-" (l := [45]) (by decide +kernel)]
      refine ite2 (fun e1 => ?_) (fun e1 => ?_)
      · have e2 : (tl z).take 1 = [45] := of_decide_eq_true e1
        refine ⟨_, rfl, z, rfl, hzl, _, _, rfl, rfl, _, rfl, ?_⟩
        have : (!plainW (tl z)) = decide ((1 : Int) < (z.length : Int)) := by
          unfold plainW
          rw [decide_eq_true e2, Bool.and_true, Bool.not_not, ← ez]
          by_cases h : 1 < z.length
          · rw [decide_eq_true h, decide_eq_true (by omega)]
          · rw [decide_eq_false h, decide_eq_false (by omega)]
        rw [this] at c
        exact c
      · have e2 : ¬ (tl z).take 1 = [45] := fun h => e1 (decide_eq_true h)
        have : (!plainW (tl z)) = false := by
          unfold plainW
          rw [decide_eq_false e2, Bool.and_false]
          rfl
        rw [this] at c
        exact c
    cases hp : plainW (tl z) with
    | true =>
      rw [hp] at q
      exact q _ (fun _ => rfl) (fun h => by cases h)
    | false =>
      rw [hp] at q
      exact q _ (fun h => by cases h) (fun _ => d3)
end
/-! ### heaps in which the makers' own dicts and the lists in them grow -/
def isML (o : HO) : Prop := ∃ (x : Str) (xs : List Int), o = .lst (.str x :: xs.map V.int)
/-- a list that a maker keeps -/
def ML (H : Hp) (N : Nat) (L : Addr) : Prop := ∃ (x : Str) (xs : List Int), H L = some (.lst (.str x :: xs.map V.int)) ∧ xs.length ≤ N ∧ x.length ≤ 200 ∧ ∀ c ∈ tl x, c < 256
def Kp (H : Hp) (n N : Nat) (d : Addr) : Prop := ∃ kvs : List (Key × V), H d = some (.dK kvs) ∧ kvs.length ≤ n ∧ ∀ p ∈ kvs, ∃ (x : Str) (L : Addr), p = (Sum.inr x, .ref L) ∧ ML H N L
theorem ML.mono {H : Hp} {N M : Nat} {L : Addr} (h : ML H N L) (l : N ≤ M) : ML H M L := by
  obtain ⟨x, xs, e, h1, h2⟩ := h
  exact ⟨x, xs, e, by omega, h2⟩
theorem Kp.mono {H : Hp} {n N m M : Nat} {d : Addr} (h : Kp H n N d) (l1 : n ≤ m) (l2 : N ≤ M) : Kp H m M d := by
  obtain ⟨kvs, e, h1, h2⟩ := h
  exact ⟨kvs, e, by omega, fun p hp => by obtain ⟨x, L, e1, e2⟩ := h2 p hp; exact ⟨x, L, e1, e2.mono l2⟩⟩
structure Ev (S : List Addr) (m : Nat) (H H' : Hp) : Prop where
  keep : ∀ b o, H b = some o → (b ∉ S ∨ ∀ kvs, o ≠ .dK kvs) → ¬ isML o → H' b = some o
  ml : ∀ b N, ML H N b → ML H' (N + m) b
  kp : ∀ d ∈ S, ∀ n N, Kp H n N d → Kp H' (n + m) (N + m) d
theorem ML.same {H H' : Hp} {N : Nat} {L : Addr} (h : ML H N L) (s : Same H H') : ML H' N L := by
  obtain ⟨x, xs, e, h1⟩ := h
  exact ⟨x, xs, s _ _ e, h1⟩
theorem Kp.same {H H' : Hp} {n N : Nat} {d : Addr} (h : Kp H n N d) (s : Same H H') : Kp H' n N d := by
  obtain ⟨kvs, e, h1, h2⟩ := h
  exact ⟨kvs, s _ _ e, h1, fun p hp => by obtain ⟨x, L, e1, e2⟩ := h2 p hp; exact ⟨x, L, e1, e2.same s⟩⟩
theorem Ev.of_same {S : List Addr} {H H' : Hp} (s : Same H H') (m : Nat) : Ev S m H H' := ⟨fun b o e _ _ => s b o e, fun b N h => (h.same s).mono (by omega), fun d _ n N h => (h.same s).mono (by omega) (by omega)⟩
theorem Ev.mono {S : List Addr} {m m' : Nat} {H H' : Hp} (g : Ev S m H H') (hm : m ≤ m') : Ev S m' H H' := ⟨g.keep, fun b N h => (g.ml b N h).mono (by omega), fun d hd n N h => (g.kp d hd n N h).mono (by omega) (by omega)⟩
theorem Ev.trans {S : List Addr} {m n : Nat} {H H1 H2 : Hp} (a : Ev S m H H1) (b : Ev S n H1 H2) : Ev S (m + n) H H2 :=
  ⟨fun x o e z nl => b.keep x o (a.keep x o e z nl) z nl, fun x N h => (b.ml x _ (a.ml x N h)).mono (by omega), fun d hd i N h => (b.kp d hd _ _ (a.kp d hd i N h)).mono (by omega) (by omega)⟩
theorem ext_ml {φ : Heap → Prop} : ¬ isML (.ext φ) := fun ⟨x, xs, z⟩ => by cases z
theorem Ev.ext {S : List Addr} {m : Nat} {H H' : Hp} (g : Ev S m H H') {b : Addr} {φ : Heap → Prop} (e : H b = some (.ext φ)) : H' b = some (.ext φ) := g.keep b _ e (.inr fun _ z => by cases z) ext_ml
theorem Ev.tup {S : List Addr} {m : Nat} {H H' : Hp} (g : Ev S m H H') {b : Addr} {xs : List V} (e : H b = some (.tup xs)) : H' b = some (.tup xs) := g.keep b _ e (.inr fun _ z => by cases z) (fun ⟨x, xs, z⟩ => by cases z)
theorem MkA.ev {S : List Addr} {m : Nat} {H H' : Hp} {g d o : Addr} {c : Nat} (h : MkA H g d c o) (ev : Ev S m H H') : MkA H' g d c o := by
  obtain ⟨F, c1, c2, c3, h1, h2, e1, e2, e3, e4, e5⟩ := h
  exact ⟨F, c1, c2, c3, h1, h2, ev.ext e1, ev.ext e2, ev.ext e3, ev.ext e4, ev.ext e5⟩
/-- a word is kept for the first time -/
theorem ev_new {H H' : Hp} {d L : Addr} {kvs : List (Key × V)} {z : Str} (ed : H d = some (.dK kvs)) (nL : H L = none) (b : But d H H') (ed' : H' d = some (.dK (kvs ++ [(Sum.inr z, .ref L)]))) (eL : H' L = some (.lst [.str z])) (hz : z.length ≤ 200) (hc : ∀ c ∈ tl z, c < 256) : Ev [d] 1 H H' := by
  have keepL : ∀ {N : Nat} {x : Addr}, ML H N x → ML H' N x := fun {N x} h => by
    obtain ⟨y, xs, e, h1⟩ := h
    refine ⟨y, xs, b _ _ (fun q => ?_) e, h1⟩
    rw [q, ed] at e
    cases e
  refine ⟨fun x o e q _ => b x o (fun w => ?_) e, fun x N h => (keepL h).mono (by omega), fun x hx n N h => ?_⟩
  · rw [w, ed] at e
    cases e
    exact q.elim (fun f => f (by rw [w]; exact List.mem_singleton.mpr rfl)) (fun f => f _ rfl)
  · rw [List.mem_singleton.mp hx] at h ⊢
    obtain ⟨k2, e2, l2, h2⟩ := h
    rw [ed] at e2
    cases e2
    refine ⟨_, ed', by rw [List.length_append]; show _ + 1 ≤ _; omega, fun p hp => ?_⟩
    rcases List.mem_append.mp hp with q | q
    · obtain ⟨y, M, e3, e4⟩ := h2 p q
      exact ⟨y, M, e3, (keepL e4).mono (by omega)⟩
    · rw [List.mem_singleton.mp q]
      exact ⟨z, L, rfl, z, [], eL, Nat.zero_le _, hz, hc⟩
section
variable {H : Hp} {c1 c2 c3 : Addr} {v1 v2 v3 : V}
theorem on_off (n12 : c1 ≠ c2) (n13 : c1 ≠ c3) (n23 : c2 ≠ c3) (h1 : H c1 = some (CellV c1 v1)) (h2 : H c2 = some (CellV c2 v2)) (h3 : H c3 = some (CellV c3 v3)) : on3 (off3 H c1 c2 c3) c1 c2 c3 v1 v2 v3 = H := by
  funext b
  by_cases e3 : b = c3
  · subst e3
    rw [on3_3, h3]
  · by_cases e2 : b = c2
    · subst e2
      rw [on3_2 n23, h2]
    · by_cases e1 : b = c1
      · subst e1
        rw [on3_1 n12 n13, h1]
      · rw [on3_ne e1 e2 e3, off3_ne e1 e2 e3]
theorem on_same {H2 : Hp} (n12 : c1 ≠ c2) (n13 : c1 ≠ c3) (n23 : c2 ≠ c3) (h1 : H c1 = some (CellV c1 v1)) (h2 : H c2 = some (CellV c2 v2)) (h3 : H c3 = some (CellV c3 v3)) (s : Same (off3 H c1 c2 c3) H2) : Same H (on3 H2 c1 c2 c3 v1 v2 v3) := fun b o e => by
  by_cases e3 : b = c3
  · subst e3
    rw [on3_3, ← h3]
    exact e
  · by_cases e2 : b = c2
    · subst e2
      rw [on3_2 n23, ← h2]
      exact e
    · by_cases e1 : b = c1
      · subst e1
        rw [on3_1 n12 n13, ← h1]
        exact e
      · rw [on3_ne e1 e2 e3]
        exact s b o (by rw [off3_ne e1 e2 e3]; exact e)
end
/-- what a maker's call asks -/
structure MkS (CU : Addr) (H : Hp) (d : Addr) (c c2 : Nat) (ov : V) (z : Str) (Q : VK) (E : XK) : Prop where
  odd : c ∉ tl z → c2 ∈ tl z → Q ov H
  kept : c ∉ tl z → c2 ∉ tl z → ∀ H' L kvs, Ev [d] 1 H H' → H' d = some (.dK kvs) → valV kvs (Sum.inr z) = some (.ref L) → Q (.ref L) H'
  bad : c ∈ tl z → ∀ H' x, Same H H' → H x = none → H' x = some (.xd [(("why" : Str), .str (whyOf c z))]) → E (.ref CU) (some x) H'
theorem val_last {kvs : List (Key × V)} {k : Key} {v : V} (h : valV kvs k = none) : valV (kvs ++ [(k, v)]) k = some v := by
  unfold valV at h ⊢
  rw [List.find?_append, Option.map_eq_none_iff.mp h]
  simp
theorem call_mk {CU : Addr} {H : Hp} {g d o : Addr} {c c2 n N : Nat} {ov : V} {z : Str} {Q : VK} {E : XK} (mk : MkA H g d c o) (eo : H o = some (.tup [.str (sgn c2), ov])) (kp : Kp H n N d) (hn : n ≤ 5000) (hz : z.length ≤ 200) (hc : ∀ c ∈ tl z, c < 256) (q : MkS CU H d c c2 ov z Q E) :
    ∃ (F : NF) (x1 x2 x3 : Addr) (v1 v2 v3 : V), FSi F ∧ Cl3 F "_law_kept" "_law_bad" "_law_odd_here" x1 x2 x3 ∧ H g = some (FnO g F) ∧ H F.c = some (CodeO F.c F.qual) ∧ H x1 = some (CellV x1 v1) ∧ H x2 = some (CellV x2 v2) ∧ H x3 = some (CellV x3 v3) ∧
      spIn CU [some v1, some v2, some v3] [.str z] (off3 H x1 x2 x3) (fun r H2 => H2 x1 = none → H2 x2 = none → H2 x3 = none → Q r (on3 H2 x1 x2 x3 v1 v2 v3)) (fun cls d H2 => H2 x1 = none → H2 x2 = none → H2 x3 = none → E cls d (on3 H2 x1 x2 x3 v1 v2 v3)) := by
  obtain ⟨F, x1, x2, x3, h1, cl, e1, e2, e3, e4, e5⟩ := mk
  obtain ⟨kvs, ed, lk, hk⟩ := kp
  have ne : ∀ {b : Addr} {u : HO}, H b = some u → (∀ φ, u ≠ .ext φ) → b ≠ x1 ∧ b ≠ x2 ∧ b ≠ x3 := fun {b u} e n => ⟨fun w => by rw [w, e3] at e; exact n _ (Option.some.inj e).symm, fun w => by rw [w, e4] at e; exact n _ (Option.some.inj e).symm, fun w => by rw [w, e5] at e; exact n _ (Option.some.inj e).symm⟩
  have offs : ∀ {b : Addr} {u : HO}, H b = some u → (∀ φ, u ≠ .ext φ) → off3 H x1 x2 x3 b = some u := fun {b u} e n => by
    obtain ⟨a1, a2, a3⟩ := ne e n
    rw [off3_ne a1 a2 a3]
    exact e
  obtain ⟨nd1, nd2, nd3⟩ := ne ed (fun _ z => by cases z)
  refine ⟨F, x1, x2, x3, .ref d, .str (sgn c), .ref o, h1, cl, e1, e2, e3, e4, e5, d, c, o, c2, ov, z, kvs, rfl, rfl, hz, offs eo (fun _ z => by cases z), offs ed (fun _ z => by cases z), by omega, fun a1 a2 _ _ _ => ?_, fun a1 a2 v hv H' s' f1 f2 f3 => ?_, fun a1 a2 hv H' L nL b' ed' eL f1 f2 f3 => ?_, fun a1 H' x s' nx ex f1 f2 f3 => ?_⟩
  · rw [on_off cl.n12 cl.n13 cl.n23 e3 e4 e5]
    exact q.odd a1 a2
  · have S := on_same cl.n12 cl.n13 cl.n23 e3 e4 e5 s'
    unfold valV at hv
    obtain ⟨p, hp, rfl⟩ := Option.map_eq_some_iff.mp hv
    obtain ⟨x, L, rfl, _⟩ := hk p (List.mem_of_find?_eq_some hp)
    refine q.kept a1 a2 _ L kvs (Ev.of_same S 1) (S _ _ ed) ?_
    unfold valV
    rw [hp]
    rfl
  · have nL' : H L = none ∧ L ≠ x1 ∧ L ≠ x2 ∧ L ≠ x3 := by
      have w1 : L ≠ x1 := fun w => by rw [w, f1] at eL; cases eL
      have w2 : L ≠ x2 := fun w => by rw [w, f2] at eL; cases eL
      have w3 : L ≠ x3 := fun w => by rw [w, f3] at eL; cases eL
      rw [off3_ne w1 w2 w3] at nL
      exact ⟨nL, w1, w2, w3⟩
    obtain ⟨nL0, w1, w2, w3⟩ := nL'
    have edN : on3 H' x1 x2 x3 (.ref d) (.str (sgn c)) (.ref o) d = some (.dK (kvs ++ [(Sum.inr z, .ref L)])) := by
      rw [on3_ne nd1 nd2 nd3]
      exact ed'
    refine q.kept a1 a2 _ L _ (ev_new (L := L) (z := z) ed nL0 (fun b u nb e => ?_) edN ?_ hz hc) edN (val_last hv)
    · by_cases q3 : b = x3
      · subst q3
        rw [on3_3, ← e5]
        exact e
      · by_cases q2 : b = x2
        · subst q2
          rw [on3_2 cl.n23, ← e4]
          exact e
        · by_cases q1 : b = x1
          · subst q1
            rw [on3_1 cl.n12 cl.n13, ← e3]
            exact e
          · rw [on3_ne q1 q2 q3]
            exact b' b u nb (by rw [off3_ne q1 q2 q3]; exact e)
    · rw [on3_ne w1 w2 w3]
      exact eL
  · have S := on_same cl.n12 cl.n13 cl.n23 e3 e4 e5 s'
    have w1 : x ≠ x1 := fun w => by rw [w, f1] at ex; cases ex
    have w2 : x ≠ x2 := fun w => by rw [w, f2] at ex; cases ex
    have w3 : x ≠ x3 := fun w => by rw [w, f3] at ex; cases ex
    rw [off3_ne w1 w2 w3] at nx
    exact q.bad a1 _ x S nx (by rw [on3_ne w1 w2 w3]; exact ex)
section
variable {P : Program} {w : World} {K : PySem.W.Frag} {mg : Str → Option Value} {base : Heap}
/-! ### makes_of -/
def tbMakes (CU : Addr) (W : WX) : TS := tDrop (tCallC3 ("_law_kept" : Str) ("_law_bad" : Str) ("_law_odd_here" : Str) FSi 0 (spIn CU) (WE W) (tCons (tVar 1) tNil))
def spMakes : Sp := fun vs H Q _ => ∃ (g d o : Addr) (c c2 n N : Nat) (ov : V) (z : Str), vs = [.ref g, .str z] ∧ MkA H g d c o ∧ H o = some (.tup [.str (sgn c2), ov]) ∧ Kp H n N d ∧ n ≤ 5000 ∧ z.length ≤ 200 ∧ (∀ c ∈ tl z, c < 256) ∧ ∀ H', Ev [d] 1 H H' → Q (.bl (!decide (c ∈ tl z))) H'
theorem ok_makes {CU BE f fE : Addr} {fd fdE : FuncData} {k : Nat} (F : Fun K "makes_of" "makes_of" st_makes_of f fd) (G_in : ∀ f F, FSi F → NdefX.NOk P w K mg base (L2.CX P w) (k + 3) f F ["_law_word"] ["_law_kept", "_law_bad", "_law_odd_here"] (spIn CU)) (TE : ErrT K mg "Unmade" CU fE fdE) (CT : CaughtT K CU BE) :
    FnOk P w K mg base CX0 (k + 4) f fd ["maker", "word"] spMakes := by
  refine F.ok sc_makes_of (fun vs H Q E h => ?_) (fun cdv A outer s H vs Q E hr h => ?_)
  · obtain ⟨g, d, o, c, c2, n, N, ov, z, rfl, _⟩ := h
    rfl
  · obtain ⟨g, d, o, c, c2, n, N, ov, z, rfl, mk, eo, kp, hn, hz, hc, q⟩ := h
    refine ⟨_, PSs.nox (pss_cons (ps_try_only (tb := tbMakes CU) (ts := fun _ _ _ => tRet (tC (.bl false))) (Wout := fun _ _ _ _ => False) rfl rfl ⟨rfl, by decide, Or.inl TE.g⟩ takes0
        (fun W pn xe tk _ => pss_one (ps_expr (by exact (pe_callC3 (y1 := ("_law_kept" : Str)) (y2 := ("_law_bad" : Str)) (y3 := ("_law_odd_here" : Str)) (FS := FSi) G_in hr rfl (.inl rfl) (fun σ => passAt tk σ) (by exact (pa_cons (pv 1) pa_nil))))))
        (fun a oe cls d pn hz hf => pss_one (ps_ret pe_bl)))
      (pss_one (ps_ret pe_bl))), ?_⟩
    have fin : ∀ (b : Bool), (!decide (c ∈ tl z)) = b → ∀ H', Ev [d] 1 H H' → Q (.bl b) H' := fun b e H' ev => by
      rw [← e]
      exact q H' ev
    obtain ⟨F', x1, x2, x3, v1, v2, v3, h1, cl, e1, e2, e3, e4, e5, ask⟩ := call_mk (CU := CU) (Q := fun _ H' => Ev [d] 1 H H' ∧ c ∉ tl z) (E := fun cls x H' => cls = .ref CU ∧ (∃ d', x = some d') ∧ Ev [d] 1 H H' ∧ c ∈ tl z) mk eo kp hn hz hc
      ⟨fun a1 a2 => ⟨Ev.of_same (Same.refl _) 1, a1⟩, fun a1 a2 H' L kvs ev _ _ => ⟨ev, a1⟩, fun a1 H' x s' _ _ => ⟨rfl, ⟨x, rfl⟩, Ev.of_same s' 1, a1⟩⟩
    refine ⟨g, F', x1, x2, x3, v1, v2, v3, rfl, h1, cl, e1, .str z, rfl, e1, e2, e3, e4, e5, ?_⟩
    obtain ⟨d0, c0, o0, c20, ov0, z0, kvs0, ew, ev0, a1, a2, a3, a4, b1, b2, b3, b4⟩ := ask
    refine ⟨d0, c0, o0, c20, ov0, z0, kvs0, ew, ev0, a1, a2, a3, a4, fun y1 y2 f1 f2 f3 => ?_, fun y1 y2 v hv H' s' f1 f2 f3 => ?_, fun y1 y2 hv H' L nL bb ed' eL f1 f2 f3 => ?_, fun y1 H' x s' nx ex f1 f2 f3 => ?_⟩
    · obtain ⟨g1, g2⟩ := b1 y1 y2 f1 f2 f3
      exact fin true (by rw [decide_eq_false g2]; rfl) _ g1
    · obtain ⟨g1, g2⟩ := b2 y1 y2 v hv H' s' f1 f2 f3
      exact fin true (by rw [decide_eq_false g2]; rfl) _ g1
    · obtain ⟨g1, g2⟩ := b3 y1 y2 hv H' L nL bb ed' eL f1 f2 f3
      exact fin true (by rw [decide_eq_false g2]; rfl) _ g1
    · obtain ⟨g0, _, g1, g2⟩ := b4 y1 H' x s' nx ex f1 f2 f3
      refine ⟨true, CT.e, fun _ a na => ?_, fun r => Bool.noConfusion r⟩
      exact fin false (by rw [decide_eq_true g2]; rfl) _ g1
/-! ### is_sample -/
def spSample : Sp := fun vs H Q _ => ∃ (g d o : Addr) (c c2 n N : Nat) (ov : V) (z : Str), vs = [.str z, .ref g] ∧ MkA H g d c o ∧ H o = some (.tup [.str (sgn c2), ov]) ∧ Kp H n N d ∧ n ≤ 5000 ∧ z.length ≤ 100 ∧ (∀ c ∈ tl z, c < 256) ∧ ∀ H', Ev [d] 1 H H' → Q (.bl (plainW (tl z) && !decide (c ∈ tl z))) H'
theorem ok_sample {f fK fM : Addr} {fd fdK fdM : FuncData} {k : Nat} (F : Fun K "is_sample" "is_sample" st_is_sample f fd) (D_kind_of : Df K mg "kind_of" st_kind_of ["word"] fK fdK) (D_makes_of : Df K mg "makes_of" st_makes_of ["maker", "word"] fM fdM)
    (G_makes_of : FnOk P w K mg base CX0 (k + 4) fM fdM ["maker", "word"] spMakes) (m_len : mg "len" = none) {u : Tok} (mV : mg "DIVIDER" = some (.str (Str.ofString "--") u)) (m_isinstance : mg "isinstance" = none) (m_str : mg "str" = none) :
    FnOk P w K mg base CX0 (k + 5) f fd ["value", "maker"] spSample := by
  have G_kind_of : FnOk P w K mg base CX0 (k + 4) fK fdK ["word"] spKind := ok_kind D_kind_of.F m_len mV
  refine F.ok sc_is_sample (fun vs H Q E h => ?_) (fun cdv A outer s H vs Q E hr h => ?_)
  · obtain ⟨g, d, o, c, c2, n, N, ov, z, rfl, _⟩ := h
    rfl
  · obtain ⟨g, d, o, c, c2, n, N, ov, z, rfl, mk, eo, kp, hn, hz, hc, q⟩ := h
    refine ⟨_, pss_one (ps_ret (pe_and (pe_callB call_isi (by rfl) m_isinstance (by decide +kernel) (pa_cons (pv 0) (pa_cons (pe_bltn (v := .ty "str") (by rfl) m_str (by decide +kernel) rfl) pa_nil))) (pe_and (pe_cmpR op_eq (pe_call G_kind_of hr (by rfl) D_kind_of.g D_kind_of.F.kp D_kind_of.b .nil pass0 (pa_cons (pv 0) pa_nil)) pe_str (nomark _)) (pe_one (pe_call G_makes_of hr (by rfl) D_makes_of.g D_makes_of.F.kp D_makes_of.b .nil pass0 (pa_cons (pv 1) (pa_cons (pv 0) pa_nil))))))), ?_⟩
    refine ⟨.str z, rfl, .str z, _, _, _, true, rfl, ClsV.ty "str", TyX.base (TyOf.str _), kit_ty (by decide +kernel), _, rfl, ?_⟩
    refine ⟨.str z, rfl, z, rfl, hz, fun y y1 y2 => ?_⟩
    refine ⟨rfl, _, rfl, ?_⟩
    cases hp : plainW (tl z) with
    | true =>
      rw [y1 hp, decide_eq_true rfl]
      rw [hp] at q
      exact ⟨.ref g, rfl, .str z, rfl, g, d, o, c, c2, n, N, ov, z, rfl, mk, eo, kp, hn, by omega, hc, q⟩
    | false =>
      rw [decide_eq_false (fun h => y2 hp (V.str.inj h))]
      rw [hp] at q
      exact q _ (Ev.of_same (Same.refl _) 1)
end
end WB

set_option Elab.async false
set_option linter.all false
set_option maxRecDepth 100000
set_option maxHeartbeats 4000000
namespace WB
open PySem PySem.Spec PyProof.Rows L2 WG
open NdefX (NF FnO NOk)
open LamX (CodeO)
open TL (tl)
abbrev st_NoMaker_init : Stmt := inClass (topS 14) 0
theorem sc_NoMaker_init : FnScope ["self", "who"] ["self", "who"] (defScope st_NoMaker_init) := ⟨rfl, rfl, rfl, by decide +kernel, rfl, by decide +kernel, by decide +kernel⟩
abbrev st_NoName_init : Stmt := inClass (topS 13) 0
theorem sc_NoName_init : FnScope ["self", "who"] ["self", "who"] (defScope st_NoName_init) := ⟨rfl, rfl, rfl, by decide +kernel, rfl, by decide +kernel, by decide +kernel⟩
abbrev st_Makers_entry : Stmt := inClass (topS 24) 2
theorem sc_Makers_entry : FnScope ["self", "name"] ["self", "name"] (defScope st_Makers_entry) := ⟨rfl, rfl, rfl, by decide +kernel, rfl, by decide +kernel, by decide +kernel⟩
abbrev st_Makers_sample : Stmt := inClass (topS 24) 3
theorem sc_Makers_sample : FnScope ["self", "name"] ["self", "name"] (defScope st_Makers_sample) := ⟨rfl, rfl, rfl, by decide +kernel, rfl, by decide +kernel, by decide +kernel⟩
abbrev st_Makers_made : Stmt := inClass (topS 24) 4
theorem sc_Makers_made : FnScope ["self", "name", "word", "maker"] ["self", "name", "word"] (defScope st_Makers_made) := ⟨rfl, rfl, rfl, by decide +kernel, rfl, by decide +kernel, by decide +kernel⟩
abbrev st_minit : Stmt := inClass (topS 24) 0
abbrev st_mnames : Stmt := inClass (topS 24) 1
theorem sc_minit : FnScope ["self", "table", "name", "maker", "sample"] ["self", "table"] (defScope st_minit) := ⟨rfl, rfl, rfl, by decide +kernel, rfl, by decide +kernel, by decide +kernel⟩
theorem sc_mnames : FnScope ["self"] ["self"] (defScope st_mnames) := ⟨rfl, rfl, rfl, by decide +kernel, rfl, by decide +kernel, by decide +kernel⟩
/-! ### NoMaker, NoName -/
structure ErrM (K : PySem.W.Frag) (mg : Str → Option Value) (x : Str) (C fI : Addr) (fd : FuncData) : Prop where
  o : OexC K C
  i : PySem.W.findIn K (.ref C) "__init__" = some (some (.ref fI))
  t : PySem.W.typeIn K (.ref fI) = some (.type "function")
  nf : PySem.W.findIn K (.ref C) "who" = some none
  g : mg x = some (.ref C)
  b : Binds K fd ["self", "who"] []
theorem who_look {v : V} : List.lookup ("who" : Str) [(("who" : Str), v)] = some v := by simp [List.lookup]
/-! ### a walk over items -/
theorem for_items {d : Addr} {o : Obj} {kvs : List (Key × V)} {g : TG} {tb : TS} {D : Ends} {σ : L2.St} {H : Hp} (Pv : Nat → L2.St → Hp → Prop) (h0 : Pv 0 σ H) (hl : ∀ i σ H, i ≤ kvs.length → Pv i σ H → H d = some (.frz o (.dK kvs)))
    (hs : ∀ (i : Nat) (k : Key) (v : V) (σ : L2.St) (H : Hp) (T : Addr), kvs[i]? = some (k, v) → H T = none → Pv i σ H → g (.ref T) σ (upd H T (.tup [kV k, v])) fun σ2 H2 => tb { D with nx := Pv (i + 1), ct := Pv (i + 1), bk := D.nx } σ2 H2) (hd : ∀ σ H, Pv kvs.length σ H → D.nx σ H) :
    ∃ W : Nat → Nat → L2.St → Hp → Prop, (∃ m, W 0 m σ H) ∧ ∀ i m σ H, W i m σ H →
      ((Iti d o kvs).stop i H ∧ D.nx σ H) ∨ ((Iti d o kvs).go i H ∧ ∃ N : L2.St → Hp → Prop, (∀ σ' H', N σ' H' → ∃ m', m' < m ∧ W (i + 1) m' σ' H') ∧ ∀ x H', (Iti d o kvs).yld i H x H' → g x σ H' fun σ2 H2 => tb { D with nx := N, ct := N, bk := D.nx } σ2 H2) := by
  refine ⟨fun i m σ H => m = kvs.length - i ∧ i ≤ kvs.length ∧ Pv i σ H, ⟨kvs.length, by simp, Nat.zero_le _, h0⟩, ?_⟩
  rintro i m σ H ⟨rfl, hi, p⟩
  have q := hl i σ H hi p
  by_cases hlt : i < kvs.length
  · refine .inr ⟨⟨q, hlt⟩, Pv (i + 1), fun σ' H' p' => ⟨kvs.length - (i + 1), by omega, rfl, hlt, p'⟩, fun x H' y => ?_⟩
    obtain ⟨T, k, v, e, rfl, nT, rfl⟩ := y
    exact hs i k v σ H T e nT p
  · have e : i = kvs.length := by omega
    subst e
    exact .inl ⟨⟨q, Nat.le_refl _⟩, hd σ H p⟩
/-! ### tables -/
structure Ent where
  nmE : Str
  bad : Nat
  smp : Str
  sg : Nat
  ov : V
  tp : Addr
  fn : Addr
  dc : Addr
  od : Addr
  hp : Addr
  oh : Addr
def kvsOf (es : List Ent) : List (Key × V) := es.map fun e => (Sum.inr e.nmE, V.ref e.tp)
structure EntOk (H : Hp) (n N : Nat) (e : Ent) : Prop where
  tp : H e.tp = some (.tup [.ref e.fn, .str e.smp])
  ma : MkA H e.fn e.dc e.bad e.od
  oe : H e.od = some (.tup [.str (sgn e.sg), e.ov])
  oh : H e.oh = some (.tup [.str (sgn e.sg), e.ov])
  kp : Kp H n N e.dc
  nl : e.nmE.length ≤ 100
  sl : e.smp.length ≤ 100
  sc : ∀ c ∈ tl e.smp, c < 256
theorem EntOk.ev {S : List Addr} {m n N : Nat} {H H' : Hp} {e : Ent} (h : EntOk H n N e) (g : Ev S m H H') (hd : e.dc ∈ S) : EntOk H' (n + m) (N + m) e := ⟨g.tup h.tp, h.ma.ev g, g.tup h.oe, g.tup h.oh, g.kp _ hd _ _ h.kp, h.nl, h.sl, h.sc⟩
theorem EntOk.same {n N : Nat} {H H' : Hp} {e : Ent} (h : EntOk H n N e) (s : Same H H') : EntOk H' n N e := ⟨s _ _ h.tp, h.ma.ev (Ev.of_same (S := []) s 0), s _ _ h.oe, s _ _ h.oh, h.kp.same s, h.nl, h.sl, h.sc⟩
def okE (e : Ent) : Bool := isNm (.str e.nmE) && (plainW (tl e.smp) && !decide (e.bad ∈ tl e.smp))
abbrev dcs (es : List Ent) : List Addr := es.map (·.dc)
/-- Makers, as the written part tells it -/
structure ClsT (K : PySem.W.Frag) (C : Addr) : Prop where
  cl : Cls K C
  nh : NoAttr K C "table"
section
variable {P : Program} {w : World} {K : PySem.W.Frag} {mg : Str → Option Value} {base : Heap}
def spErrM (C : Addr) : Sp := fun vs H Q _ => ∃ (a : Addr) (y : V), vs = [.ref a, y] ∧ H a = some (exo a C none) ∧ ∀ dx, H dx = none → dx ≠ a → Q .non (upd (upd H dx (exd dx [(("who" : Str), y)])) a (exo a C (some dx)))
theorem ok_errN {C f : Addr} {fd : FuncData} {k : Nat} (F : Fun K "__init__" "NoName.__init__" st_NoName_init f fd) (T : ErrM K mg "NoName" C f fd) : FnOk P w K mg base CX0 (k + 1) f fd ["self", "who"] (spErrM C) := by
  refine F.ok sc_NoName_init (fun vs H Q E h => ?_) (fun cdv A outer s H vs Q E hr h => ?_)
  · obtain ⟨a, y, rfl, _⟩ := h
    rfl
  · obtain ⟨a, y, rfl, ea, q⟩ := h
    refine ⟨_, pss_one (ps_ost (pv 0) (pv 1)), ?_⟩
    exact ⟨y, rfl, .ref a, rfl, a, C, rfl, T.o, T.nf, .inl ⟨ea, fun dx n ne => q dx n ne⟩⟩
theorem ok_errM {C f : Addr} {fd : FuncData} {k : Nat} (F : Fun K "__init__" "NoMaker.__init__" st_NoMaker_init f fd) (T : ErrM K mg "NoMaker" C f fd) : FnOk P w K mg base CX0 (k + 1) f fd ["self", "who"] (spErrM C) := by
  refine F.ok sc_NoMaker_init (fun vs H Q E h => ?_) (fun cdv A outer s H vs Q E hr h => ?_)
  · obtain ⟨a, y, rfl, _⟩ := h
    rfl
  · obtain ⟨a, y, rfl, ea, q⟩ := h
    refine ⟨_, pss_one (ps_ost (pv 0) (pv 1)), ?_⟩
    exact ⟨y, rfl, .ref a, rfl, a, C, rfl, T.o, T.nf, .inl ⟨ea, fun dx n ne => q dx n ne⟩⟩
theorem err_outM {C : Addr} {y : V} {H : Hp} {E : XK} (h : ∀ H' d, Same H H' → H d = none → H' d = some (.xd [(("who" : Str), y)]) → E (.ref C) (some d) H') (a : Addr) (na : H a = none) :
    spErrM C [.ref a, y] (upd H a (exo a C none)) (fun v H2 => v = .non ∧ ∃ (d : Addr) (fs : List (Str × V)), H2 a = some (exo a C (some d)) ∧ H2 d = some (exd d fs) ∧ H d = none ∧ E (.ref C) (some d) (upd (del H2 a) d (.xd fs))) (fun _ _ _ => False) := by
  refine ⟨a, y, rfl, upd_same, fun dx ndx ne => ⟨rfl, dx, [(("who" : Str), y)], upd_same, ?_, ?_, ?_⟩⟩
  · rw [upd_ne ne, upd_same]
  · rw [upd_ne ne] at ndx
    exact ndx
  · rw [upd_ne ne] at ndx
    refine h _ dx (fun b o e => ?_) ndx upd_same
    have nb : b ≠ dx := ne_of_none e ndx
    have nba : b ≠ a := ne_of_none e na
    rw [upd_ne nb, del_ne nba, upd_ne nba, upd_ne nb, upd_ne nba]
    exact e
/-! ### Makers.__init__ -/
def spMInit (C : Addr) : Sp := fun vs H Q _ => ∃ (x dx t : Addr) (es : List Ent) (n N : Nat), vs = [.ref x, .ref t] ∧ H x = some (.ins C dx []) ∧ H t = some (.dK (kvsOf es)) ∧ (∀ e ∈ es, EntOk H n N e) ∧ es.length + n ≤ 4000 ∧ (∀ e ∈ es, okE e = true) ∧
  ∀ H' t2, Ev (dcs es) es.length (del H x) H' → H' x = some (.ins C dx [(("table" : Str), .ref t2)]) → H' t2 = some (.dK (kvsOf es)) → H t2 = none → t2 ∉ dcs es → Q .non H'
theorem ok_minit {C CN f fE fA fS fW : Addr} {fd fdE fdA fdS fdW : FuncData} {k : Nat} {u1 u2 : Tok} (F : Fun K "__init__" "Makers.__init__" st_minit f fd) (FE : Fun K "__init__" "NoMaker.__init__" st_NoMaker_init fE fdE) (TM : ErrM K mg "NoMaker" CN fE fdE) (T : ClsT K C)
    (D_is_text_within : Df K mg "is_text_within" st_is_text_within ["value", "most"] fW fdW) (D_is_name : Df K mg "is_name" st_is_name ["value"] fA fdA) (D_is_sample : Df K mg "is_sample" st_is_sample ["value", "maker"] fS fdS) (G_is_sample : FnOk P w K mg base CX0 (k + 5) fS fdS ["value", "maker"] spSample)
    (m_dict : mg "dict" = none) (m_len : mg "len" = none) (m_str : mg "str" = none) (m_isinstance : mg "isinstance" = none) (m_all : mg "all" = none) (c_MOST_NAME_SIGNS : mg "MOST_NAME_SIGNS" = some (.int 10 u1)) (c_NAME_SIGNS : mg "NAME_SIGNS" = some (.str nameSet u2)) :
    FnOk P w K mg base (L2.CX P w) (k + 6) f fd ["self", "table"] (spMInit C) := by
  have GE : FnOk P w K mg base CX0 (k + 4) fE fdE ["self", "who"] (spErrM CN) := ok_errM FE TM
  have G_is_name : FnOk P w K mg base CX0 (k + 5) fA fdA ["value"] spName := ok_isName D_is_name.F D_is_text_within m_len m_str m_isinstance m_all c_MOST_NAME_SIGNS c_NAME_SIGNS
  refine F.okX sc_minit (fun vs H Q E h => ?_) (fun cdv A outer s H vs Q E hr h => ?_)
  · obtain ⟨x, dx, t, es, n, N, rfl, _⟩ := h
    rfl
  · obtain ⟨x, dx, t, es, n, N, rfl, ex, et, he, hn, hall, qok⟩ := h
    refine ⟨_, (pss_cons (ps_fld (pv 0) (pe_callTy call_dictD (by rfl) m_dict (by decide +kernel) (pa_cons (pv 1) pa_nil)) rfl)
      (pss_one (ps_lock (ps_for (passes_of rfl) rfl (pi_items (pe_fld (pv 0) rfl)) (pg_tup rfl (pgs_cons (pg_name (i := 2) sc_minit.nd rfl (Or.inl rfl)) (pgs_cons (pg_tup rfl (pgs_cons (pg_name (i := 3) sc_minit.nd rfl (Or.inl rfl)) (pgs_cons (pg_name (i := 4) sc_minit.nd rfl (Or.inl rfl)) pgs_nil))) pgs_nil)))
        (pss_one (ps_if (PW.pt (pw_or (pt_not (pt_val (pe_call G_is_name hr (by rfl) D_is_name.g D_is_name.F.kp D_is_name.b .nil pass0 (pa_cons (pv 2) pa_nil)))) (pw_or1 (pt_not (pt_val (pe_call G_is_sample hr (by rfl) D_is_sample.g D_is_sample.F.kp D_is_sample.b .nil pass0 (pa_cons (pv 4) (pa_cons (pv 3) pa_nil))))))))
          (pss_one (ps_raise rfl (takes_of rfl rfl rfl rfl) (pmk_oex TM.o TM.i TM.t GE hr TM.b .nil pass0 (by rfl) TM.g (pa_cons (pv 2) pa_nil)))) pss_nil)))))), ?_⟩
    refine ⟨.ref t, rfl, t, _, rfl, .inl et, fun t2 n2 => ?_⟩
    have nx2 : x ≠ t2 := ne_of_none ex n2
    have t2S : t2 ∉ dcs es := fun h => by
      obtain ⟨e, hem, z⟩ := List.mem_map.mp h
      obtain ⟨kvs, ek, _⟩ := (he e hem).kp
      rw [z, n2] at ek
      cases ek
    refine ⟨.ref x, rfl, x, C, dx, _, rfl, by rw [upd_ne nx2]; exact ex, T.cl, T.nh, by decide, ?_⟩
    refine ⟨t2, .dK (kvsOf es), by rw [upd_ne nx2.symm]; exact upd_same, trivial, fun od => ?_⟩
    have a1 : (upd (upd (upd H t2 (.dK (kvsOf es))) x (.ins C dx (putF "table" (.ref t2) []))) t2 (.frz od (.dK (kvsOf es)))) t2 = some (.frz od (.dK (kvsOf es))) := upd_same
    have a2 : (upd (upd (upd H t2 (.dK (kvsOf es))) x (.ins C dx (putF "table" (.ref t2) []))) t2 (.frz od (.dK (kvsOf es)))) x = some (.ins C dx [(("table" : Str), .ref t2)]) := by
      rw [upd_ne nx2, upd_same]
      rfl
    have a3 : Same (del H x) (upd (upd (upd H t2 (.dK (kvsOf es))) x (.ins C dx (putF "table" (.ref t2) []))) t2 (.frz od (.dK (kvsOf es)))) := fun b o e => by
      have nb : b ≠ x := fun z => by
        rw [z, del_same] at e
        cases e
      rw [del_ne nb] at e
      have nb2 : b ≠ t2 := ne_of_none e n2
      rw [upd_ne nb2, upd_ne nb, upd_ne nb2]
      exact e
    revert a1 a2 a3
    generalize (upd (upd (upd H t2 (.dK (kvsOf es))) x (.ins C dx (putF "table" (.ref t2) []))) t2 (.frz od (.dK (kvsOf es)))) = Hc
    intro a1 a2 a3
    have a3' : Ev (dcs es) 0 (del H x) Hc := Ev.of_same a3 0
    have he2 : ∀ e ∈ es, EntOk (del H x) n N e := fun e h => by
      have q := he e h
      have nd : ∀ {b : Addr} {o : HO}, H b = some o → (∀ c d fs, o ≠ .ins c d fs) → del H x b = some o := fun {b o} e1 n1 => by
        rw [del_ne (fun z => by rw [z, ex] at e1; exact n1 _ _ _ (Option.some.inj e1).symm)]
        exact e1
      obtain ⟨F', c1, c2, c3, h1, h2, e1, e2, e3, e4, e5⟩ := q.ma
      obtain ⟨kvs, ek, lk, hk⟩ := q.kp
      refine ⟨nd q.tp (fun _ _ _ z => by cases z), ⟨F', c1, c2, c3, h1, h2, nd e1 (fun _ _ _ z => by cases z), nd e2 (fun _ _ _ z => by cases z), nd e3 (fun _ _ _ z => by cases z), nd e4 (fun _ _ _ z => by cases z), nd e5 (fun _ _ _ z => by cases z)⟩, nd q.oe (fun _ _ _ z => by cases z), nd q.oh (fun _ _ _ z => by cases z), ⟨kvs, nd ek (fun _ _ _ z => by cases z), lk, fun p hp => ?_⟩, q.nl, q.sl, q.sc⟩
      obtain ⟨y, L, ep, ys, xs, eL, r⟩ := hk p hp
      exact ⟨y, L, ep, ys, xs, nd eL (fun _ _ _ z => by cases z), r⟩
    refine ⟨.ref x, rfl, x, C, dx, _, _, rfl, a2, T.cl, T.nh, rfl, t2, od, kvsOf es, rfl, a1, for_items (fun i σ H' => H' t2 = some (.frz od (.dK (kvsOf es))) ∧ H' x = some (.ins C dx [(("table" : Str), .ref t2)]) ∧ Ev (dcs es) i (del H x) H' ∧ ∃ y2 y3 y4, σ = [some (.ref x), some (.ref t), y2, y3, y4])
      ⟨a1, a2, a3', _, _, _, rfl⟩ (fun i σ H' _ h => h.1) ?_ ?_⟩
    · rintro i kk v σ H1 U hkv nU ⟨b1, b2, b3, y2, y3, y4, rfl⟩
      obtain ⟨e, ee, rfl, rfl⟩ : ∃ e, es[i]? = some e ∧ kk = Sum.inr e.nmE ∧ v = .ref e.tp := by
        unfold kvsOf at hkv
        rw [List.getElem?_map] at hkv
        obtain ⟨e, h1, h2⟩ := Option.map_eq_some_iff.mp hkv
        exact ⟨e, h1, (Prod.mk.inj h2).1.symm, (Prod.mk.inj h2).2.symm⟩
      have hil : i < es.length := (List.getElem?_eq_some_iff.mp ee).1
      have hem : e ∈ es := List.mem_of_getElem? ee
      have hdm : e.dc ∈ dcs es := List.mem_map_of_mem hem
      have oe := (he2 e hem).ev b3 hdm
      have sU : Same H1 (upd H1 U (.tup [kV (Sum.inr e.nmE), .ref e.tp])) := same_upd nU
      refine ⟨U, _, rfl, SqT.of upd_same, rfl, _, _, rfl, _, _, rfl, e.tp, _, rfl, SqT.of (sU _ _ oe.tp), rfl, _, _, rfl, _, _, rfl, rfl, rfl, ?_⟩
      revert sU
      generalize upd H1 U (.tup [kV (Sum.inr e.nmE), .ref e.tp]) = H2
      intro sU
      have ho := hall e hem
      unfold okE at ho
      obtain ⟨hnm, hs⟩ := Bool.and_eq_true_iff.mp ho
      refine ⟨.str e.nmE, rfl, e.nmE, rfl, by have := oe.nl; omega, fun H3 s3 => ?_⟩
      have s23 : Same H1 H3 := sU.trans s3
      have o3 := oe.same s23
      refine ⟨_, rfl, ?_⟩
      rw [hnm]
      refine ⟨.str e.smp, rfl, .ref e.fn, rfl, e.fn, e.dc, e.od, e.bad, e.sg, n + i, N + i, e.ov, e.smp, rfl, o3.ma, o3.oe, o3.kp, by omega, o3.sl, o3.sc, fun H4 g4 => ?_⟩
      have g4' : Ev (dcs es) 1 H3 H4 := by
        refine ⟨fun b o eb z nl => g4.keep b o eb ?_ nl, g4.ml, fun d hd n' N' hk => ?_⟩
        · rcases z with z | z
          · exact .inl fun hb => z (by rw [List.mem_singleton.mp hb]; exact hdm)
          · exact .inr z
        · by_cases q : d = e.dc
          · rw [q] at hk ⊢
            exact g4.kp _ (List.mem_singleton.mpr rfl) _ _ hk
          · obtain ⟨kvs, ek, lk, hk2⟩ := hk
            refine ⟨kvs, g4.keep d _ ek (.inl fun hb => q (List.mem_singleton.mp hb)) (fun ⟨_, _, z⟩ => by cases z), by omega, fun p hp => ?_⟩
            obtain ⟨y, L, ep, hL⟩ := hk2 p hp
            exact ⟨y, L, ep, g4.ml _ _ hL⟩
      refine ⟨_, rfl, ?_⟩
      rw [hs]
      have k4 : ∀ {b : Addr} {o : HO}, H1 b = some o → (∀ kvs, o ≠ .dK kvs) → ¬ isML o → H4 b = some o := fun {b o} e1 n1 n2 => g4.keep b o (s23 _ _ e1) (.inr n1) n2
      refine ⟨k4 b1 (fun _ z => by cases z) (fun ⟨_, _, z⟩ => by cases z), k4 b2 (fun _ z => by cases z) (fun ⟨_, _, z⟩ => by cases z), ?_, _, _, _, rfl⟩
      have tr := (b3.trans (Ev.of_same (S := dcs es) s23 0)).trans g4'
      exact tr.mono (by omega)
    · rintro σ H1 ⟨b1, b2, b3, y2, y3, y4, rfl⟩
      have el : (kvsOf es).length = es.length := List.length_map _
      rw [el] at b3
      refine ⟨b1, ?_⟩
      have nt : ∀ {b : Addr} {o : HO}, del H x b = some o → b ≠ t2 := fun {b o} e z => by
        rw [z, del_ne nx2.symm, n2] at e
        cases e
      have up : ∀ {b : Addr} {o : HO}, H1 b = some o → b ≠ t2 → (upd H1 t2 (.dK (kvsOf es))) b = some o := fun {b o} e z => by
        rw [upd_ne z]
        exact e
      have mlU : ∀ {b : Addr} {M : Nat}, ML H1 M b → ML (upd H1 t2 (.dK (kvsOf es))) M b := fun {b M} h => by
        obtain ⟨y, xs, e, r⟩ := h
        exact ⟨y, xs, up e (fun z => by rw [z, b1] at e; cases e), r⟩
      refine qok _ t2 ⟨fun b o e z nl => up (b3.keep b o e z nl) (nt e), fun b M h => mlU (b3.ml b M h), fun d hd n' N' hk => ?_⟩ (up b2 nx2) upd_same n2 t2S
      obtain ⟨kvs, ek, lk, hk2⟩ := b3.kp d hd n' N' hk
      refine ⟨kvs, up ek (fun z => t2S (z ▸ hd)), lk, fun p hp => ?_⟩
      obtain ⟨y, L, ep, hL⟩ := hk2 p hp
      exact ⟨y, L, ep, mlU hL⟩
/-! ### names -/
def spMNames (C : Addr) : Sp := fun vs H Q _ => ∃ (x dx t : Addr) (es : List Ent), vs = [.ref x] ∧ H x = some (.ins C dx [(("table" : Str), .ref t)]) ∧ H t = some (.dK (kvsOf es)) ∧ es.length < 64 ∧ ∀ H' p (ys : List Str), Same H H' → H p = none → H' p = some (.lst (ys.map V.str)) → ys.Perm (es.map (·.nmE)) → sortedS ys = true → Q (.ref p) H'
theorem ok_mnames {C f : Addr} {fd : FuncData} {k : Nat} (F : Fun K "names" "Makers.names" st_mnames f fd) (T : ClsT K C) (m_sorted : mg "sorted" = none) (m_list : mg "list" = none) : FnOk P w K mg base CX0 (k + 1) f fd ["self"] (spMNames C) := by
  refine F.ok sc_mnames (fun vs H Q E h => ?_) (fun cdv A outer s H vs Q E hr h => ?_)
  · obtain ⟨x, dx, t, es, rfl, _⟩ := h
    rfl
  · obtain ⟨x, dx, t, es, rfl, ex, et, l64, q⟩ := h
    refine ⟨_, pss_one (ps_ret (pe_callB cr_sortedS (by rfl) m_sorted (by decide +kernel) (pa_cons (pe_callTy (call_listD rfl) (by rfl) m_list (by decide +kernel) (pa_cons (pe_fld (pv 0) rfl) pa_nil)) pa_nil))), ?_⟩
    refine ⟨.ref x, rfl, x, C, dx, _, _, rfl, ex, T.cl, T.nh, rfl, t, _, rfl, .inl et, fun l nl => ?_⟩
    have el : (upd H l (.lst ((kvsOf es).map fun kv => kV kv.1))) l = some (.lst ((es.map (·.nmE)).map V.str)) := by
      rw [upd_same]
      unfold kvsOf
      rw [List.map_map, List.map_map]
      rfl
    refine ⟨l, es.map (·.nmE), rfl, SqL.of el, by rw [List.length_map]; exact l64, fun ys p hp hs np => ?_⟩
    exact q _ p ys ((same_upd nl).trans (same_upd np)) ((same_upd nl).free np) upd_same hp hs
/-! ### entry, sample, made -/
def spEntry (C CN : Addr) : Sp := fun vs H Q E => ∃ (x dx t : Addr) (es : List Ent) (y : Str), vs = [.ref x, .str y] ∧ H x = some (.ins C dx [(("table" : Str), .ref t)]) ∧ H t = some (.dK (kvsOf es)) ∧
  (∀ v, valV (kvsOf es) (Sum.inr y) = some v → Q v H) ∧ (valV (kvsOf es) (Sum.inr y) = none → ∀ H' d, Same H H' → H d = none → H' d = some (.xd [(("who" : Str), .str y)]) → E (.ref CN) (some d) H')
theorem ok_entry {C CN f fE : Addr} {fd fdE : FuncData} {k : Nat} (F : Fun K "entry" "Makers.entry" st_Makers_entry f fd) (FE : Fun K "__init__" "NoName.__init__" st_NoName_init fE fdE) (TN : ErrM K mg "NoName" CN fE fdE) (T : ClsT K C) : FnOk P w K mg base (L2.CX P w) (k + 3) f fd ["self", "name"] (spEntry C CN) := by
  have GE : FnOk P w K mg base CX0 (k + 1) fE fdE ["self", "who"] (spErrM CN) := ok_errN FE TN
  refine F.okX sc_Makers_entry (fun vs H Q E h => ?_) (fun cdv A outer s H vs Q E hr h => ?_)
  · obtain ⟨x, dx, t, es, y, rfl, _⟩ := h
    rfl
  · obtain ⟨x, dx, t, es, y, rfl, ex, et, qh, qn⟩ := h
    have hu := Nat.lt_of_le_of_lt (Nat.add_le_add_left (show 1 ≤ 64 by decide) _) hr.units
    refine ⟨_, (pss_cons (ps_if (pt_cmp (pc_dnotin hu (pv 1) (pe_fld (pv 0) rfl))) (pss_one (ps_raise rfl (takes_of rfl rfl rfl rfl) (pmk_oex TN.o TN.i TN.t GE hr TN.b .nil pass0 (by rfl) TN.g (pa_cons (pv 1) pa_nil)))) pss_nil)
      (pss_one (ps_ret (pe_dget hu (pe_fld (pv 0) rfl) (pv 1) (fun _ _ => rfl))))), ?_⟩
    refine ⟨.str y, rfl, .ref x, rfl, x, C, dx, _, _, rfl, ex, T.cl, T.nh, rfl, t, _, rfl, DGet.k (k := Sum.inr y) et, _, rfl, ?_⟩
    cases hv : valV (kvsOf es) (Sum.inr y) with
    | none => exact ⟨.str y, rfl, by show 1 ≤ 1000; decide, fun a na => err_outM (fun H' d sm nd ed => qn hv H' d sm nd ed) a na⟩
    | some v =>
      have g : DGet H t (.str y) (some v) := by
        have := DGet.k (k := Sum.inr y) et
        rw [hv] at this
        exact this
      exact ⟨.ref x, rfl, x, C, dx, _, _, rfl, ex, T.cl, T.nh, rfl, .str y, rfl, t, v, rfl, g, qh v hv⟩
def spMSample (C CN : Addr) : Sp := fun vs H Q E => ∃ (x dx t : Addr) (es : List Ent) (y : Str), vs = [.ref x, .str y] ∧ H x = some (.ins C dx [(("table" : Str), .ref t)]) ∧ H t = some (.dK (kvsOf es)) ∧
  (∀ v, valV (kvsOf es) (Sum.inr y) = some v → ∃ tp g sm, v = .ref tp ∧ H tp = some (.tup [.ref g, .str sm]) ∧ Q (.str sm) H) ∧ (valV (kvsOf es) (Sum.inr y) = none → ∀ H' d, Same H H' → H d = none → H' d = some (.xd [(("who" : Str), .str y)]) → E (.ref CN) (some d) H')
theorem ok_msample {C CN f fE : Addr} {fd fdE : FuncData} {k : Nat} (F : Fun K "sample" "Makers.sample" st_Makers_sample f fd) (T : ClsT K C) (mE : Meth K C "entry" fE) (GE : FnOk P w K mg base (L2.CX P w) (k + 3) fE fdE ["self", "name"] (spEntry C CN)) (bE : Binds K fdE ["self", "name"] []) : FnOk P w K mg base (L2.CX P w) (k + 4) f fd ["self", "name"] (spMSample C CN) := by
  refine F.okX sc_Makers_sample (fun vs H Q E h => ?_) (fun cdv A outer s H vs Q E hr h => ?_)
  · obtain ⟨x, dx, t, es, y, rfl, _⟩ := h
    rfl
  · obtain ⟨x, dx, t, es, y, rfl, ex, et, qh, qn⟩ := h
    refine ⟨_, (pss_one (ps_ret (pe_ix ix_tup (pe_meth (pv 0) T.cl mE GE hr bE .nil (passes_call (takes_of rfl rfl rfl rfl) (fun _ _ _ _ h => h)) (pa_cons (pv 1) pa_nil)) pe_int (fun _ _ => rfl)))), ?_⟩
    refine ⟨.ref x, rfl, x, dx, _, rfl, ex, rfl, .str y, rfl, x, dx, t, es, y, rfl, ex, et, fun v hv => ?_, qn⟩
    obtain ⟨tp, g, sm, rfl, etp, q⟩ := qh v hv
    exact ⟨tp, _, 1, .str sm, rfl, rfl, SqT.of etp, rfl, q⟩
def spMMade (C CN CU : Addr) : Sp := fun vs H Q E => ∃ (x dx t : Addr) (es : List Ent) (y z : Str), vs = [.ref x, .str y, .str z] ∧ H x = some (.ins C dx [(("table" : Str), .ref t)]) ∧ H t = some (.dK (kvsOf es)) ∧
  (∀ v, valV (kvsOf es) (Sum.inr y) = some v → ∃ (tp g d o : Addr) (sm : Str) (c c2 n N : Nat) (ov : V), v = .ref tp ∧ H tp = some (.tup [.ref g, .str sm]) ∧ MkA H g d c o ∧ H o = some (.tup [.str (sgn c2), ov]) ∧ Kp H n N d ∧ n ≤ 5000 ∧ z.length ≤ 200 ∧ (∀ c ∈ tl z, c < 256) ∧ MkS CU H d c c2 ov z Q E) ∧
  (valV (kvsOf es) (Sum.inr y) = none → ∀ H' d, Same H H' → H d = none → H' d = some (.xd [(("who" : Str), .str y)]) → E (.ref CN) (some d) H')
theorem ok_mmade {C CN CU f fE : Addr} {fd fdE : FuncData} {k : Nat} (F : Fun K "made" "Makers.made" st_Makers_made f fd) (T : ClsT K C) (mE : Meth K C "entry" fE) (GE : FnOk P w K mg base (L2.CX P w) (k + 3) fE fdE ["self", "name"] (spEntry C CN)) (bE : Binds K fdE ["self", "name"] [])
    (G_in : ∀ f F, FSi F → NdefX.NOk P w K mg base (L2.CX P w) (k + 3) f F ["_law_word"] ["_law_kept", "_law_bad", "_law_odd_here"] (spIn CU)) : FnOk P w K mg base (L2.CX P w) (k + 4) f fd ["self", "name", "word"] (spMMade C CN CU) := by
  refine F.okX sc_Makers_made (fun vs H Q E h => ?_) (fun cdv A outer s H vs Q E hr h => ?_)
  · obtain ⟨x, dx, t, es, y, z, rfl, _⟩ := h
    rfl
  · obtain ⟨x, dx, t, es, y, z, rfl, ex, et, qh, qn⟩ := h
    refine ⟨_, (pss_cons (ps_set (i := 3) sc_Makers_made.nd rfl (.inl rfl) (pe_ix ix_tup (pe_meth (pv 0) T.cl mE GE hr bE .nil (passes_call (takes_of rfl rfl rfl rfl) (fun _ _ _ _ h => h)) (pa_cons (pv 1) pa_nil)) pe_int (fun _ _ => rfl)))
      (pss_one (ps_ret (pe_callC3 (i := 3) (y1 := ("_law_kept" : Str)) (y2 := ("_law_bad" : Str)) (y3 := ("_law_odd_here" : Str)) (FS := FSi) G_in hr rfl (.inl rfl) (fun σ => passAt (takes_of rfl rfl rfl rfl) σ) (pa_cons (pv 2) pa_nil))))), ?_⟩
    refine ⟨.ref x, rfl, x, dx, _, rfl, ex, rfl, .str y, rfl, x, dx, t, es, y, rfl, ex, et, fun v hv => ?_, qn⟩
    obtain ⟨tp, g, d, o, sm, c, c2, n, N, ov, rfl, etp, mk, eo, kp, hn, hz, hc, q⟩ := qh v hv
    refine ⟨tp, _, 0, .ref g, rfl, rfl, SqT.of etp, rfl, ?_⟩
    obtain ⟨F', x1, x2, x3, v1, v2, v3, h1, cl, e1, e2, e3, e4, e5, ask⟩ := call_mk (CU := CU) mk eo kp hn hz hc q
    exact ⟨g, F', x1, x2, x3, v1, v2, v3, rfl, h1, cl, e1, .str z, rfl, e1, e2, e3, e4, e5, ask⟩
end
end WB

set_option Elab.async false
set_option linter.all false
set_option maxRecDepth 100000
set_option maxHeartbeats 4000000
namespace WG
open PySem PySem.Spec PyProof.Rows L2 L2H
/-! ### a def that is called within an except suite and gets the caught error -/
/-- the promise: Z tells of the error's object, sp of the error's address -/
structure FnP (P : Program) (w : World) (K : PySem.W.Frag) (mg : Str → Option Value) (base : Heap) (k : Nat) (f : Addr) (fd : FuncData) (ps : List Str) (Z : Obj → Prop) (sp : Addr → Sp) : Prop where
  len : ∀ a vs H Q E, sp a vs H Q E → vs.length = ps.length
  run : ∀ (A : Around) (outer : List Env) (s : Shared) (H : Hp) (args : Args) (us : List Value) (vs : List V) (Q : VK) (E : XK) (p : Addr × Obj), RoomH k A → Z p.2 → PinOk outer H s p → Env0 P w K mg base A outer s H →
    BindsTo s fd args (ps.zip us) → Vals vs us → sp p.1 vs H Q E → codeAny (model P w) A (.call (.ref f) args) (CR CX0 outer P w H s Q E) s
theorem fnP_of {P : Program} {w : World} {K : PySem.W.Frag} {mg : Str → Option Value} {base : Heap} {k : Nat} {f : Addr} {fd : FuncData} {x qual : Str} {st : Stmt} {N ps : List Str} {Z : Obj → Prop} {sp : Addr → Sp}
    (F : Fun K x qual st f fd) (S : FnScope N ps (defScope st)) (len : ∀ a vs H Q E, sp a vs H Q E → vs.length = ps.length)
    (body : ∀ (cdv : Value) (A : Around) (outer : List Env) (s : Shared) (H : Hp) (vs : List V) (Q : VK) (E : XK) (p : Addr × Obj), Z p.2 → RoomH k (A.deeper (envOfC qual (defScope st) s.heap.objs.size f cdv)) → sp p.1 vs H Q E →
      ∃ t, PSs (cxH CX0 P w K mg base N qual (defScope st) f cdv A outer s H E p) (defBody st) t ∧ t { nx := fun _ H' => Q .non H', rt := Q } (L2.start N vs) H) :
    FnP P w K mg base (k + 1) f fd ps Z sp := by
  obtain ⟨oc, od, kV, doc, pm, an, cdv, ct, osl, rfl, look, code⟩ := F.ex
  refine ⟨len, fun A outer s H args us vs Q E p room hz pin env bnd rels want => ?_⟩
  have hlen := len _ _ _ _ _ want
  have kin : K.In s.heap := env.mod.kin.keeps fun b o q => (env.bs b o q).1
  have nolim : s.heap.NoLimit := env.mod.nolimit.keeps fun b o q => (env.bs b o q).1
  have kinds : ∀ y ∈ ps.zip us, (defScope st).names.lookup y.1 = some .local ∨ ((defScope st).names.lookup y.1 = some .cell ∧ ((cellsFrom (s.heap.objs.size + 1) (defScope st).names []).lookup y.1).isSome = true) := by
    intro y hy
    obtain ⟨n, v⟩ := y
    cases S.par n (List.of_mem_zip hy).1 with
    | inl z => exact .inl z
    | inr z => exact .inr ⟨z, PySem.W.cellsFrom_some _ _ _ (.inl z)⟩
  refine codeAny_call_function room.depth (kin _ _ look) rfl S.co S.gen rfl (PySem.W.codeRec_of kin code) (bnd _ _ _ _ ?_)
  refine wpAny_newFunctionEnv_cells S.kind kinds fun e2 he2 s1 hx => ?_
  subst he2
  refine ⟨nolim.keeps hx.toInCall.keep, codeAny_func ?_⟩
  obtain ⟨t, tb, tq⟩ := body cdv A outer s H vs Q E p hz (room.deeper _) want
  have I : Inv (cxH CX0 P w K mg base N qual (defScope st) f cdv A outer s H E p) [] (L2.start N vs) H s1 := inv_startH S pin env hlen rels hx
  refine wpAny_mono (tb.run [] s1 (L2.start N vs) H _ I tq) (fun fl s' hs => ?_) fun e s' hs => hs
  cases fl with
  | ret u =>
    obtain ⟨v, _, H', J, rv, q⟩ := hs
    exact ⟨v, H', J.os, J.bare, J.base, J.hok, rv, q⟩
  | next =>
    obtain ⟨_, H', J, q⟩ := hs
    exact ⟨V.non, H', J.os, J.bare, J.base, J.hok, rfl, q⟩
  | brk =>
    obtain ⟨_, _, _, q⟩ := hs
    exact False.elim q
  | cont =>
    obtain ⟨_, _, _, q⟩ := hs
    exact False.elim q
def tCallP (a : Addr) (sp : Addr → Sp) (t : TA) : TE := fun σ H Q => t σ H fun vs H1 => sp a vs H1 Q (fun _ _ _ => False)
theorem pe_callP {X : Cx} {a : Addr} {oe : Obj} {pn : List (Addr × Obj)} {k : Nat} {f : Addr} {fd : FuncData} {ps : List Str} {Z : Obj → Prop} {sp : Addr → Sp} {x : Str} {q pos : Pos} {e : Expr} {es : List Expr} {t : TA}
    (F : FnP (X.suite a ((a, oe) :: pn)).prog (X.suite a ((a, oe) :: pn)).w (X.suite a ((a, oe) :: pn)).K (X.suite a ((a, oe) :: pn)).mg (X.suite a ((a, oe) :: pn)).base k f fd ps Z sp) (room : RoomH k (X.suite a ((a, oe) :: pn)).A) (hz : Z oe) (glob : Gl (X.suite a ((a, oe) :: pn)) x) (hm : (X.suite a ((a, oe) :: pn)).mg x = some (.ref f))
    (kp : PySem.W.keepIn (X.suite a ((a, oe) :: pn)).K (.ref f) = true) (bnd : Binds (X.suite a ((a, oe) :: pn)).K fd ps []) (args : PA (X.suite a ((a, oe) :: pn)) (e :: es) t) (n1 : (x == ("__debug__" : Str)) = false := by decide)
    (s1 : starEach (e :: es) (X.suite a ((a, oe) :: pn)).env = (false, eval e (X.suite a ((a, oe) :: pn)).env) :: starEach es (X.suite a ((a, oe) :: pn)).env := by rfl) (s2 : (backTo pos (starEach es (X.suite a ((a, oe) :: pn)).env)).any (·.1) = false := by rfl) :
    PE (X.suite a ((a, oe) :: pn)) (.Call (.Name x q) (e :: es) [] pos) (tCallP a sp t) := by
  constructor
  intro pins s σ H want I ask
  refine wpAny_Call_Name_kw (ld_glob I glob hm ?_ n1)
  refine PySem.W.callWith_K (h₀ := (X.suite a ((a, oe) :: pn)).base) I.ok.mod.kin kp (thn (args.run pos pins s σ H _ I ask) fun us st ⟨vs, H1, I1, rels, q1⟩ => ⟨I1.kIn, ?_⟩) s1 s2
  have hl : us.length = ps.length := by
    rw [← rels.length]
    exact F.len _ _ _ _ _ q1
  have b := bnd st us I1.kIn (by rw [List.append_nil]; exact hl)
  rw [List.append_nil] at b
  have P1 := I1.pin (a, oe) (List.mem_append.mpr (.inl List.mem_cons_self))
  have pin : PinOk (X.suite a ((a, oe) :: pn)).stack H1 st (a, oe) := ⟨P1.1, P1.2.1, fun m => (List.mem_cons.mp (I1.stkSub a m)).elim P1.2.2.1 P1.2.2.2.1, P1.2.2.2.2⟩
  refine wpAny_call (codeAny_mono (F.run (X.suite a ((a, oe) :: pn)).A (X.suite a ((a, oe) :: pn)).stack st H1 ⟨us, []⟩ us vs want (fun _ _ _ => False) (a, oe) room hz pin I1.env0 b rels q1) fun rr s' hq => ?_)
  cases rr with
  | error er => exact hq.elim
  | ok fl =>
    cases fl with
    | ret u => exact I1.after hq
    | next => exact hq.elim
    | brk => exact hq.elim
    | cont => exact hq.elim
/-! ### isinstance(e, (C1, ..)) in such a def -/
/-- the error's object: its class D, its own dict at d -/
def ZIs (D : Addr) (d : Option Addr) : Obj → Prop := fun o => Zc (.ref D) d o ∧ ∃ vs, o.data = .fields vs
def rIsP (K : PySem.W.Frag) (D : Addr) (d : Option Addr) (a : Addr) : List V → Hp → VK → Prop := fun xs H Q => ∃ (tp : Addr) (cs : List V) (ws : List Value) (b : Bool), xs = [.ref a, .ref tp] ∧ H tp = some (.tup cs) ∧ Paired ClsV cs ws ∧ ExcC K D ∧
  (match d with | some dd => ∃ fs, H dd = some (.xd fs) | none => True) ∧ PySem.W.kitAny K (.ref D) ws = some b ∧ Q (.bl b) H
theorem call_isP {CX : CXT} {P : Program} {w : World} {K : PySem.W.Frag} {mg : Str → Option Value} {base : Heap} {N : List Str} {qual : Str} {scope : Scope} {f : Addr} {cd : Value} {A : Around} {outer : List Env} {s0 : Shared} {H0 : Hp} {E : XK} {p : Addr × Obj} {D : Addr} {d : Option Addr} (hz : ZIs D d p.2) :
    CallR (cxH CX P w K mg base N qual scope f cd A outer s0 H0 E p) (.builtin "isinstance") (rIsP K D d p.1) := by
  intro pins s σ H xs us Q I rels ask
  obtain ⟨tp, cs, ws, b, rfl, ht, k, c, hd, e, q⟩ := ask
  obtain ⟨u1, u2, rfl, r1, r2⟩ := vals2 rels
  cases (show u1 = Value.ref p.1 from r1)
  cases (show u2 = Value.ref tp from r2)
  obtain ⟨⟨hc, hdd⟩, vs, hv⟩ := hz
  have P1 := I.pin p (List.mem_append.mpr (.inl (List.mem_cons_self)))
  obtain ⟨_, its, rv, o, h1, h2, n, h3⟩ := (show ObjOk _ _ H s.heap tp (.tup cs) from I.hok tp _ ht)
  have e3 := ClsV.all k rv
  subst e3
  obtain ⟨oc, od, dt, sl⟩ := o
  simp only at h2 h3
  subst h2 h3
  have J : ∃ od', PySem.W.InstAt s.heap p.1 p.2 D od' := by
    cases d with
    | none => exact ⟨none, P1.1, hc, by unfold PySem.W.notCls; rw [hv] <;> rfl, by rw [hdd]; trivial⟩
    | some dd =>
      obtain ⟨fs, hx⟩ := hd
      obtain ⟨mA, hns, _⟩ := I.hok dd _ hx
      obtain ⟨od, ho, _⟩ := lookIn_ns hns
      exact ⟨some od, P1.1, hc, by unfold PySem.W.notCls; rw [hv] <;> rfl, by rw [hdd]; exact ho⟩
  obtain ⟨od', J⟩ := J
  exact PySem.W.kia_tup (kit_exc c) I.kIn J h1 e (fun z => nomatch z) fun tk => ⟨.bl b, H, I.kept (t' := tk) fun _ _ z => z, rfl, q⟩
theorem kitAny_no {K : PySem.W.Frag} {t : Value} : ∀ {cs : List Value}, (∀ c ∈ cs, PySem.W.kitOne K t c = some false) → PySem.W.kitAny K t cs = some false
  | [], _ => rfl
  | c :: r, h => by
    unfold PySem.W.kitAny
    rw [h c List.mem_cons_self]
    exact kitAny_no fun d hd => h d (List.mem_cons_of_mem _ hd)
end WG

set_option Elab.async false
set_option linter.all false
set_option maxRecDepth 100000
set_option maxHeartbeats 4000000
namespace WB
open PySem PySem.Spec PyProof.Rows L2 WG L2H
open TL (tl)
abbrev st_is_other : Stmt := topS 36
theorem sc_is_other : FnScope ["_law_e"] ["_law_e"] (defScope st_is_other) := ⟨rfl, rfl, rfl, by decide +kernel, rfl, by decide +kernel, by decide +kernel⟩
abbrev st_ask : Stmt := topS 37
theorem sc_ask : FnScope ["_law_makers", "_law_way", "_law_name_here"] ["_law_makers", "_law_way", "_law_name_here"] (defScope st_ask) := ⟨rfl, rfl, rfl, by decide +kernel, rfl, by decide +kernel, by decide +kernel⟩
abbrev st_kinds : Stmt := topS 38
theorem sc_kinds : FnScope ["_law_makers", "_law_way", "_law_name_here", "_law_kinds_here", "_law_e"] ["_law_makers", "_law_way", "_law_name_here"] (defScope st_kinds) := ⟨rfl, rfl, rfl, by decide +kernel, rfl, by decide +kernel, by decide +kernel⟩
abbrev st_who : Stmt := topS 39
theorem sc_who : FnScope ["_law_makers", "_law_way", "_law_name_here", "_law_who_here", "_law_e"] ["_law_makers", "_law_way", "_law_name_here"] (defScope st_who) := ⟨rfl, rfl, rfl, by decide +kernel, rfl, by decide +kernel, by decide +kernel⟩
abbrev st_refused : Stmt := topS 40
theorem sc_refused : FnScope ["_law_makers", "_law_way", "_law_name_here"] ["_law_makers", "_law_way", "_law_name_here"] (defScope st_refused) := ⟨rfl, rfl, rfl, by decide +kernel, rfl, by decide +kernel, by decide +kernel⟩
/-! ### the caught error looked at -/
structure Others (K : PySem.W.Frag) (mg : Str → Option Value) (D : Addr) (C1 C2 C3 C4 C5 C6 C7 C8 C9 : Addr) : Prop where
  g1 : mg "BadDefault" = some (.ref C1)
  g2 : mg "Clash" = some (.ref C2)
  g3 : mg "Fault" = some (.ref C3)
  g4 : mg "NoCommand" = some (.ref C4)
  g5 : mg "NoMaker" = some (.ref C5)
  g6 : mg "NoOption" = some (.ref C6)
  g7 : mg "NoPlace" = some (.ref C7)
  g8 : mg "NoRow" = some (.ref C8)
  g9 : mg "Unmade" = some (.ref C9)
  no : ∀ c ∈ [Value.ref C1, .ref C2, .ref C3, .ref C4, .ref C5, .ref C6, .ref C7, .ref C8, .ref C9], PySem.W.kitOne K (.ref D) c = some false
/-- what may be asked of a caught NoMaker -/
structure CaughtM (K : PySem.W.Frag) (CN BE : Addr) : Prop where
  x : XfC K CN
  c : ExcC K CN
  e : PySem.W.exmOne K (.ref CN) (.ref CN) = some true
  eb : PySem.W.exmOne K (.ref CN) (.ref BE) = some true
  v : PySem.W.kitOne K (.ref CN) (.type "ValueError") = some true
  n : PySem.W.kitOne K (.ref CN) (.ref CN) = some true
section
variable {P : Program} {w : World} {K : PySem.W.Frag} {mg : Str → Option Value} {base : Heap}
def ZC (cls : Value) (d : Option Addr) : Obj → Prop := fun o => Zc cls d o ∧ ∃ vs, o.data = .fields vs
def spOther (D : Addr) (cls : Value) (d : Option Addr) : Addr → Sp := fun a vs H Q _ => ∃ (dd : Addr) (fs : List (Str × V)), vs = [.ref a] ∧ cls = .ref D ∧ d = some dd ∧ H dd = some (.xd fs) ∧ ∀ H', Same H H' → Q (.bl false) H'
theorem ok_other {D f : Addr} {fd : FuncData} {k : Nat} {C1 C2 C3 C4 C5 C6 C7 C8 C9 : Addr} (F : Fun K "_law_is_other" "_law_is_other" st_is_other f fd) (O : Others K mg D C1 C2 C3 C4 C5 C6 C7 C8 C9) (TC : ExcC K D) (m_isinstance : mg "isinstance" = none) (cls : Value) (d : Option Addr) :
    FnP P w K mg base (k + 1) f fd ["_law_e"] (ZC cls d) (spOther D cls d) := by
  refine fnP_of F sc_is_other (fun a vs H Q E h => ?_) (fun cdv A outer s H vs Q E p hz hr h => ?_)
  · obtain ⟨dd, fs, rfl, _⟩ := h
    rfl
  · obtain ⟨dd, fs, rfl, rfl, rfl, hd, q⟩ := h
    have hz2 : ZIs D (some dd) p.2 := hz
    refine ⟨_, pss_one (ps_ret (pe_callB (call_isP hz2) (by rfl) m_isinstance (by decide +kernel) (pa_cons (pv 0) (pa_cons (pe_tup (pa_cons (pe_glob (v := .ref C1) rfl O.g1 rfl) (pa_cons (pe_glob (v := .ref C2) rfl O.g2 rfl) (pa_cons (pe_glob (v := .ref C3) rfl O.g3 rfl) (pa_cons (pe_glob (v := .ref C4) rfl O.g4 rfl) (pa_cons (pe_glob (v := .ref C5) rfl O.g5 rfl) (pa_cons (pe_glob (v := .ref C6) rfl O.g6 rfl) (pa_cons (pe_glob (v := .ref C7) rfl O.g7 rfl) (pa_cons (pe_glob (v := .ref C8) rfl O.g8 rfl) (pa_cons (pe_glob (v := .ref C9) rfl O.g9 rfl) pa_nil)))))))))) pa_nil)))), ?_⟩
    refine ⟨_, rfl, by show 9 ≤ sizeLine; decide, fun tp nt => ?_⟩
    have hd2 : (upd H tp (.tup [.ref C1, .ref C2, .ref C3, .ref C4, .ref C5, .ref C6, .ref C7, .ref C8, .ref C9])) dd = some (.xd fs) := by
      rw [upd_ne (ne_of_none hd nt)]
      exact hd
    exact ⟨tp, _, _, false, rfl, upd_same, .cons (.own _) (.cons (.own _) (.cons (.own _) (.cons (.own _) (.cons (.own _) (.cons (.own _) (.cons (.own _) (.cons (.own _) (.cons (.own _) .nil)))))))), TC, ⟨fs, hd2⟩, kitAny_no O.no, q _ (same_upd nt)⟩
/-! ### a name that is none -/
def spAsk (C CN : Addr) : Sp := fun vs H _ E => ∃ (x dx t : Addr) (es : List Ent) (y : Str) (way : Int), vs = [.ref x, .int way, .str y] ∧ H x = some (.ins C dx [(("table" : Str), .ref t)]) ∧ H t = some (.dK (kvsOf es)) ∧ valV (kvsOf es) (Sum.inr y) = none ∧
  ∀ H' d, Same H H' → H d = none → H' d = some (.xd [(("who" : Str), .str y)]) → E (.ref CN) (some d) H'
theorem ok_ask {C CN CU f fS fM : Addr} {fd fdS fdM : FuncData} {k : Nat} (F : Fun K "_law_ask" "_law_ask" st_ask f fd) (T : ClsT K C) (mS : Meth K C "sample" fS) (GS : FnOk P w K mg base (L2.CX P w) (k + 4) fS fdS ["self", "name"] (spMSample C CN)) (bS : Binds K fdS ["self", "name"] [])
    (mM : Meth K C "made" fM) (GM : FnOk P w K mg base (L2.CX P w) (k + 4) fM fdM ["self", "name", "word"] (spMMade C CN CU)) (bM : Binds K fdM ["self", "name", "word"] []) : FnOk P w K mg base (L2.CX P w) (k + 5) f fd ["_law_makers", "_law_way", "_law_name_here"] (spAsk C CN) := by
  refine F.okX sc_ask (fun vs H Q E h => ?_) (fun cdv A outer s H vs Q E hr h => ?_)
  · obtain ⟨x, dx, t, es, y, way, rfl, _⟩ := h
    rfl
  · obtain ⟨x, dx, t, es, y, way, rfl, ex, et, hv, q⟩ := h
    refine ⟨_, (pss_cons (ps_if (pt_cmpR op_eq (pv 1) pe_int (nomark _)) (pss_one (ps_ret (pe_meth (pv 0) T.cl mS GS hr bS .nil (passes_call (takes_of rfl rfl rfl rfl) (fun _ _ _ _ h => h)) (pa_cons (pv 2) pa_nil)))) pss_nil)
      (pss_one (ps_ret (pe_meth (pv 0) T.cl mM GM hr bM .nil (passes_call (takes_of rfl rfl rfl rfl) (fun _ _ _ _ h => h)) (pa_cons (pv 2) (pa_cons pe_str pa_nil)))))), ?_⟩
    refine ⟨.int way, rfl, rfl, _, rfl, ite2 (fun _ => ?_) (fun _ => ?_)⟩
    · exact ⟨.ref x, rfl, x, dx, _, rfl, ex, rfl, .str y, rfl, x, dx, t, es, y, rfl, ex, et, (fun v h => by rw [hv] at h; cases h), fun _ => q⟩
    · exact ⟨.ref x, rfl, x, dx, _, rfl, ex, rfl, .str y, rfl, x, dx, t, es, y, _, rfl, ex, et, (fun v h => by rw [hv] at h; cases h), fun _ => q⟩
def tbKinds (C CN : Addr) (W : WX) : TS := tDrop (tCallS (spAsk C CN) (WE W) (tCons (tVar 0) (tCons (tVar 1) (tCons (tVar 2) tNil))))
def tsKinds (K : PySem.W.Frag) (CN : Addr) : Addr → Value → Option Addr → TS := fun a cls d =>
  tAsg (tLst (tCons (tCB (rIsD K a cls d) (tCons (tVar 4) (tCons (tC (.ref CN)) tNil))) (tCons (tCB (rIsD K a cls d) (tCons (tVar 4) (tCons (tC (.ty "ValueError")) tNil))) (tCons (tCallP a (spOther CN cls d) (tCons (tVar 4) tNil)) tNil)))) (gName 3)
abbrev kindsL : List V := [.bl true, .bl true, .bl false]
def spKinds (C : Addr) : Sp := fun vs H Q _ => ∃ (x dx t : Addr) (es : List Ent) (y : Str) (way : Int), vs = [.ref x, .int way, .str y] ∧ H x = some (.ins C dx [(("table" : Str), .ref t)]) ∧ H t = some (.dK (kvsOf es)) ∧ valV (kvsOf es) (Sum.inr y) = none ∧ ∀ H' p, Same H H' → H' p = some (.lst kindsL) → Q (.ref p) H'
theorem ok_kinds {C CN BE f fA fO fE : Addr} {fd fdA fdO fdE : FuncData} {k : Nat} (F : Fun K "_law_kinds" "_law_kinds" st_kinds f fd) (D_ask : Df K mg "_law_ask" st_ask ["_law_makers", "_law_way", "_law_name_here"] fA fdA) (G_ask : FnOk P w K mg base (L2.CX P w) (k + 5) fA fdA ["_law_makers", "_law_way", "_law_name_here"] (spAsk C CN))
    (D_other : Df K mg "_law_is_other" st_is_other ["_law_e"] fO fdO) (G_other : ∀ cls d, FnP P w K mg base (k + 5) fO fdO ["_law_e"] (ZC cls d) (spOther CN cls d)) (TN : ErrM K mg "NoName" CN fE fdE) (CM : CaughtM K CN BE) (gB : mg "BenchError" = some (.ref BE)) (m_isinstance : mg "isinstance" = none) (m_ValueError : mg "ValueError" = none) :
    FnOk P w K mg base CX0 (k + 6) f fd ["_law_makers", "_law_way", "_law_name_here"] (spKinds C) := by
  refine F.ok sc_kinds (fun vs H Q E h => ?_) (fun cdv A outer s H vs Q E hr h => ?_)
  · obtain ⟨x, dx, t, es, y, way, rfl, _⟩ := h
    rfl
  · obtain ⟨x, dx, t, es, y, way, rfl, ex, et, hv, q⟩ := h
    refine ⟨_, PSs.nox (pss_cons (ps_set (i := 3) sc_kinds.nd rfl (.inl rfl) (pe_lst pa_nil))
      (pss_cons (ps_try_as (i := 4) (tb := tbKinds C CN) (ts := tsKinds K CN) (Wout := fun _ _ _ _ => False) rfl rfl sc_kinds.nd rfl rfl ⟨rfl, by decide, Or.inl gB⟩ takes0
          (fun W pn xe tk _ => pss_one (ps_expr (by exact (pe_callS G_ask hr (by rfl) D_ask.g D_ask.F.kp D_ask.b (fun σ => passAt tk σ) (by exact (pa_cons (pv 0) (pa_cons (pv 1) (pa_cons (pv 2) pa_nil))))))))
          (fun a oe cls d pn hz hf => pss_one (ps_set (i := 3) sc_kinds.nd rfl (Or.inl rfl) (by exact (pe_lst (pa_cons (pe_callB (call_isD hz hf) (by rfl) m_isinstance (by decide +kernel) (pa_cons (pv 4) (pa_cons (pe_glob (v := .ref CN) rfl TN.g rfl) pa_nil))) (pa_cons (pe_callB (call_isD hz hf) (by rfl) m_isinstance (by decide +kernel) (pa_cons (pv 4) (pa_cons (pe_bltn (v := .ty "ValueError") (by rfl) m_ValueError (by decide +kernel) rfl) pa_nil))) (pa_cons (pe_callP (G_other cls d) ⟨(roomH_of hr).dp, (roomH_of hr).un⟩ ⟨hz, hf⟩ (by rfl) D_other.g D_other.F.kp D_other.b (pa_cons (pv 4) pa_nil)) pa_nil))))))))
      (pss_one (ps_ret (pv 3))))), ?_⟩
    refine ⟨Nat.zero_le _, fun l0 n0 => ?_⟩
    first | refine go n0 fun H1 s1 e1 => ?_ | refine goT n0 fun H1 s1 e1 => ?_
    refine ⟨.ref x, rfl, .int way, rfl, .str y, rfl, x, dx, t, es, y, way, rfl, s1 _ _ ex, s1 _ _ et, hv, fun H2 d s2 nd ed => ?_⟩
    refine ⟨true, CM.eb, fun _ a0 na0 => ?_, fun r => Bool.noConfusion r⟩
    refine ⟨.ref a0, rfl, CN, d, _, .ref CN, .ref CN, true, rfl, rfl, ed, CM.c, rfl, fun u hu => hu, CM.n, ?_⟩
    refine ⟨.ref a0, rfl, CN, d, _, .ty "ValueError", .type "ValueError", true, rfl, rfl, ed, CM.c, rfl, fun u hu => hu, CM.v, ?_⟩
    refine ⟨.ref a0, rfl, d, _, rfl, rfl, rfl, ed, fun H4 s4 => ?_⟩
    refine ⟨by show 3 ≤ sizeLine; decide, fun p np => ?_⟩
    exact ⟨_, rfl, q _ p (((s1.trans s2).trans s4).trans (same_upd np)) upd_same⟩
def tsWho (CN : Addr) : Addr → Value → Option Addr → TS := fun a cls d => tAsg (tXf a cls d CN "who" (tVar 4)) (gName 3)
def spWho (C : Addr) : Sp := fun vs H Q _ => ∃ (x dx t : Addr) (es : List Ent) (y : Str) (way : Int), vs = [.ref x, .int way, .str y] ∧ H x = some (.ins C dx [(("table" : Str), .ref t)]) ∧ H t = some (.dK (kvsOf es)) ∧ valV (kvsOf es) (Sum.inr y) = none ∧ ∀ H', Same H H' → Q (.str y) H'
theorem ok_who {C CN BE f fA fE : Addr} {fd fdA fdE : FuncData} {k : Nat} (F : Fun K "_law_who" "_law_who" st_who f fd) (D_ask : Df K mg "_law_ask" st_ask ["_law_makers", "_law_way", "_law_name_here"] fA fdA) (G_ask : FnOk P w K mg base (L2.CX P w) (k + 5) fA fdA ["_law_makers", "_law_way", "_law_name_here"] (spAsk C CN))
    (TN : ErrM K mg "NoName" CN fE fdE) (CM : CaughtM K CN BE) : FnOk P w K mg base CX0 (k + 6) f fd ["_law_makers", "_law_way", "_law_name_here"] (spWho C) := by
  refine F.ok sc_who (fun vs H Q E h => ?_) (fun cdv A outer s H vs Q E hr h => ?_)
  · obtain ⟨x, dx, t, es, y, way, rfl, _⟩ := h
    rfl
  · obtain ⟨x, dx, t, es, y, way, rfl, ex, et, hv, q⟩ := h
    refine ⟨_, PSs.nox (pss_cons (ps_set (i := 3) sc_who.nd rfl (.inl rfl) pe_non)
      (pss_cons (ps_try_as (i := 4) (tb := tbKinds C CN) (ts := tsWho CN) (Wout := fun _ _ _ _ => False) rfl rfl sc_who.nd rfl rfl ⟨rfl, by decide, Or.inl TN.g⟩ takes0
          (fun W pn xe tk _ => pss_one (ps_expr (by exact (pe_callS G_ask hr (by rfl) D_ask.g D_ask.F.kp D_ask.b (fun σ => passAt tk σ) (by exact (pa_cons (pv 0) (pa_cons (pv 1) (pa_cons (pv 2) pa_nil))))))))
          (fun a oe cls d pn hz hf => pss_one (ps_set (i := 3) sc_who.nd rfl (Or.inl rfl) (by exact (pe_xf CM.x TN.nf hz hf (pv 4))))))
      (pss_one (ps_ret (pv 3))))), ?_⟩
    refine ⟨.ref x, rfl, .int way, rfl, .str y, rfl, x, dx, t, es, y, way, rfl, ex, et, hv, fun H2 d s2 nd ed => ?_⟩
    refine ⟨true, CM.e, fun _ a0 na0 => ?_, fun r => Bool.noConfusion r⟩
    exact ⟨.ref a0, rfl, rfl, rfl, d, _, .str y, rfl, ed, who_look, _, rfl, q _ s2⟩
def spRefused (C : Addr) : Sp := fun vs H Q _ => ∃ (x dx t : Addr) (es : List Ent) (y : Str) (way : Int), vs = [.ref x, .int way, .str y] ∧ H x = some (.ins C dx [(("table" : Str), .ref t)]) ∧ H t = some (.dK (kvsOf es)) ∧ valV (kvsOf es) (Sum.inr y) = none ∧ ∀ H', Same H H' → Q (.bl true) H'
theorem ok_refused {C f fK fW : Addr} {fd fdK fdW : FuncData} {k : Nat} (F : Fun K "_law_refused" "_law_refused" st_refused f fd) (D_kinds : Df K mg "_law_kinds" st_kinds ["_law_makers", "_law_way", "_law_name_here"] fK fdK) (G_kinds : FnOk P w K mg base CX0 (k + 6) fK fdK ["_law_makers", "_law_way", "_law_name_here"] (spKinds C))
    (D_who : Df K mg "_law_who" st_who ["_law_makers", "_law_way", "_law_name_here"] fW fdW) (G_who : FnOk P w K mg base CX0 (k + 6) fW fdW ["_law_makers", "_law_way", "_law_name_here"] (spWho C)) : FnOk P w K mg base CX0 (k + 7) f fd ["_law_makers", "_law_way", "_law_name_here"] (spRefused C) := by
  refine F.ok sc_refused (fun vs H Q E h => ?_) (fun cdv A outer s H vs Q E hr h => ?_)
  · obtain ⟨x, dx, t, es, y, way, rfl, _⟩ := h
    rfl
  · obtain ⟨x, dx, t, es, y, way, rfl, ex, et, hv, q⟩ := h
    refine ⟨_, pss_one (ps_ret (pe_and (pe_cmpR (op_eqD hr.units) (pe_call G_kinds hr (by rfl) D_kinds.g D_kinds.F.kp D_kinds.b .nil pass0 (pa_cons (pv 0) (pa_cons (pv 1) (pa_cons (pv 2) pa_nil)))) (pe_lst (pa_cons pe_bl (pa_cons pe_bl (pa_cons pe_bl pa_nil)))) (nomark _)) (pe_one (pe_cmpR op_eq (pe_call G_who hr (by rfl) D_who.g D_who.F.kp D_who.b .nil pass0 (pa_cons (pv 0) (pa_cons (pv 1) (pa_cons (pv 2) pa_nil)))) (pv 2) (nomark _))))), ?_⟩
    refine ⟨.ref x, rfl, .int way, rfl, .str y, rfl, x, dx, t, es, y, way, rfl, ex, et, hv, fun H1 p s1 ep => ?_⟩
    refine ⟨by show 3 ≤ sizeLine; decide, fun p2 n2 => ?_⟩
    have s2 : Same H1 (upd H1 p2 (.lst kindsL)) := same_upd n2
    have ev : PyData.eqv (.list [.bool true, .bool true, .bool false]) (.list [.bool true, .bool true, .bool false]) = true := by decide +kernel
    have shp : SeqAt.shaped (.list [.bool true, .bool true, .bool false]) = true := by decide +kernel
    refine ⟨_, _, .lst (SqL.of (s2 _ _ ep)) (.cons (.bl _) (.cons (.bl _) (.cons (.bl _) .nil))), .lst (SqL.of upd_same) (.cons (.bl _) (.cons (.bl _) (.cons (.bl _) .nil))), shp, shp, _, rfl, ?_⟩
    rw [ev]
    have S := s1.trans s2
    refine ⟨.ref x, rfl, .int way, rfl, .str y, rfl, x, dx, t, es, y, way, rfl, S _ _ ex, S _ _ et, hv, fun H3 s3 => ⟨.str y, rfl, rfl, ?_⟩⟩
    rw [decide_eq_true rfl]
    exact q _ (S.trans s3)
end
end WB

set_option Elab.async false
set_option linter.all false
set_option maxRecDepth 100000
set_option maxHeartbeats 4000000
namespace WB
open PySem PySem.Spec PyProof.Rows L2 WG L2H
open TL (tl)
abbrev st_made : Stmt := topS 41
theorem sc_made : FnScope ["_law_makers", "_law_name_here", "_law_word", "_law_told", "_law_e"] ["_law_makers", "_law_name_here", "_law_word"] (defScope st_made) := ⟨rfl, rfl, rfl, by decide +kernel, rfl, by decide +kernel, by decide +kernel⟩
/-- a method called within a try -/
theorem pe_methS {X : Cx} {CX : CXT} {cC fM : Addr} {nmM : Str} {lev : Nat} {fdM : FuncData} {pars : List Str} {spM : Sp} {EM : L2.St → XK} {ob arg : Expr} {more : List Expr} {tOb : TE} {tArg : TA} {pA pB : Pos} {plain : Sem Bool}
    (obj : PE X ob tOb) (cls : Cls X.K cC) (meth : Meth X.K cC nmM fM) (good : FnOk X.prog X.w X.K X.mg X.base CX lev fM fdM pars spM) (room : Room lev X.A) (bnd : Binds X.K fdM pars []) (out : ∀ σ, PassesAt CX X σ (EM σ)) (args : PA X (arg :: more) tArg)
    (s1 : starEach (arg :: more) X.env = (false, eval arg X.env) :: starEach more X.env := by rfl) (s2 : (backTo pB (starEach more X.env)).any (·.1) = false := by rfl)
    (s3 : eval (.Call (.Attribute ob nmM pA) (arg :: more) [] pB) X.env = (do
      let ov ← eval ob X.env
      standAt pA.atName
      let (g, first) ← holding [ov] (getMethod ov nmM plain)
      callWith pB g first (backTo pB (starEach (arg :: more) X.env)) (backToKw pB (keywordEach [] X.env))) := by rfl) :
    PE X (.Call (.Attribute ob nmM pA) (arg :: more) [] pB) (tMethH cC nmM spM EM tOb tArg) := by
  constructor
  intro pins st σ H want inv ask
  refine PySem.W.methodCall_KW (pl := plain) (thn (obj.run pins st σ H _ inv ask) fun u st1 ⟨x, H1, inv1, rx, a, dx, fs, ex, ea, nl, q⟩ => ?_) s3
  subst ex
  cases (show u = Value.ref a from rx)
  refine getmeth_ok inv1 ea cls meth nl (PySem.W.callWith_K (first := [.ref a]) (h₀ := X.base) inv.ok.mod.kin meth.kp (thn (args.run pB pins st1 σ H1 _ inv1 q) fun us st2 ⟨vs, H2, inv2, rels, q2⟩ => ⟨inv2.kIn, ?_⟩) s1 s2)
  exact run_fnS (us := .ref a :: us) (vs := .ref a :: vs) good room bnd (out σ) inv2 (.cons rfl rels) q2
section
variable {P : Program} {w : World} {K : PySem.W.Frag} {mg : Str → Option Value} {base : Heap}
def tbMade (C CN CU : Addr) (W : WX) : TS := tAsg (tTup (tCons (tC (.str (Str.ofString "value"))) (tCons (tMethH C "made" (spMMade C CN CU) (WE W) (tVar 0) (tCons (tVar 1) (tCons (tVar 2) tNil))) tNil))) (gName 3)
def tsMade (CU : Addr) : Addr → Value → Option Addr → TS := fun a cls d => tAsg (tTup (tCons (tC (.str (Str.ofString "unmade"))) (tCons (tXf a cls d CU "why" (tVar 4)) tNil))) (gName 3)
structure LMade (H : Hp) (e : Ent) (z : Str) (Q : VK) : Prop where
  bad : e.bad ∈ tl z → ∀ H' p, Same H H' → H' p = some (.tup [.str (Str.ofString "unmade"), .str (whyOf e.bad z)]) → Q (.ref p) H'
  odd : e.bad ∉ tl z → e.sg ∈ tl z → ∀ H' p, Same H H' → H' p = some (.tup [.str (Str.ofString "value"), e.ov]) → Q (.ref p) H'
  kept : e.bad ∉ tl z → e.sg ∉ tl z → ∀ H' p L kvs, Ev [e.dc] 1 H H' → H' e.dc = some (.dK kvs) → valV kvs (Sum.inr z) = some (.ref L) → H' p = some (.tup [.str (Str.ofString "value"), .ref L]) → Q (.ref p) H'
def spLMade (C : Addr) : Sp := fun vs H Q _ => ∃ (x dx t : Addr) (es : List Ent) (e : Ent) (n N : Nat) (z : Str), vs = [.ref x, .str e.nmE, .str z] ∧ H x = some (.ins C dx [(("table" : Str), .ref t)]) ∧ H t = some (.dK (kvsOf es)) ∧ valV (kvsOf es) (Sum.inr e.nmE) = some (.ref e.tp) ∧ EntOk H n N e ∧ n ≤ 5000 ∧ z.length ≤ 200 ∧ (∀ c ∈ tl z, c < 256) ∧ LMade H e z Q
theorem ok_lmade {C CN CU BE f fM fE : Addr} {fd fdM fdE : FuncData} {k : Nat} (F : Fun K "_law_made" "_law_made" st_made f fd) (T : ClsT K C) (mM : Meth K C "made" fM) (GM : FnOk P w K mg base (L2.CX P w) (k + 4) fM fdM ["self", "name", "word"] (spMMade C CN CU)) (bM : Binds K fdM ["self", "name", "word"] [])
    (TE : ErrT K mg "Unmade" CU fE fdE) (CT : CaughtT K CU BE) : FnOk P w K mg base CX0 (k + 5) f fd ["_law_makers", "_law_name_here", "_law_word"] (spLMade C) := by
  refine F.ok sc_made (fun vs H Q E h => ?_) (fun cdv A outer s H vs Q E hr h => ?_)
  · obtain ⟨x, dx, t, es, e, n, N, z, rfl, _⟩ := h
    rfl
  · obtain ⟨x, dx, t, es, e, n, N, z, rfl, ex, et, hv, oe, hn, hz, hc, q⟩ := h
    refine ⟨_, PSs.nox (pss_cons (ps_set (i := 3) sc_made.nd rfl (.inl rfl) (pe_tup (pa_cons pe_str pa_nil)))
      (pss_cons (ps_try_as (i := 4) (tb := tbMade C CN CU) (ts := tsMade CU) (Wout := fun _ _ _ _ => False) rfl rfl sc_made.nd rfl rfl ⟨rfl, by decide, Or.inl TE.g⟩ takes0
          (fun W pn xe tk _ => pss_one (ps_set (i := 3) sc_made.nd rfl (Or.inl rfl) (by exact (pe_tup (pa_cons pe_str (pa_cons (pe_methS (pv 0) T.cl mM GM hr bM (fun σ => passAt tk σ) (by exact (pa_cons (pv 1) (pa_cons (pv 2) pa_nil)))) pa_nil))))))
          (fun a oe cls d pn hz hf => pss_one (ps_set (i := 3) sc_made.nd rfl (Or.inl rfl) (by exact (pe_tup (pa_cons pe_str (pa_cons (pe_xf CT.x TE.nf hz hf (pv 4)) pa_nil)))))))
      (pss_one (ps_ret (pv 3))))), ?_⟩
    refine ⟨by show 1 ≤ sizeLine; decide, fun t0 n0 => ?_⟩
    first | refine go n0 fun H1 s1 e1 => ?_ | refine goT n0 fun H1 s1 e1 => ?_
    have o1 := oe.same s1
    refine ⟨.ref x, rfl, x, dx, _, rfl, s1 _ _ ex, rfl, .str e.nmE, rfl, .str z, rfl, x, dx, t, es, e.nmE, z, rfl, s1 _ _ ex, s1 _ _ et, fun v hv' => ?_, fun hv' => by rw [hv] at hv'; cases hv'⟩
    rw [hv] at hv'
    cases hv'
    refine ⟨e.tp, e.fn, e.dc, e.od, e.smp, e.bad, e.sg, n, N, e.ov, rfl, o1.tp, o1.ma, o1.oe, o1.kp, hn, hz, hc, ⟨fun a1 a2 => ?_, fun a1 a2 H' L kvs ev ed hL => ?_, fun a1 H' d s' nd ed => ?_⟩⟩
    · refine ⟨by show 2 ≤ sizeLine; decide, fun p np => ⟨_, rfl, q.odd a1 a2 _ p (s1.trans (same_upd np)) upd_same⟩⟩
    · refine ⟨by show 2 ≤ sizeLine; decide, fun p np => ?_⟩
      have sp := same_upd (o := .tup [.str (Str.ofString "value"), .ref L]) np
      have ev' : Ev [e.dc] 1 H (upd H' p (.tup [.str (Str.ofString "value"), .ref L])) := (((Ev.of_same (S := [e.dc]) s1 0).trans ev).trans (Ev.of_same sp 0)).mono (by omega)
      exact ⟨_, rfl, q.kept a1 a2 _ p L kvs ev' (sp _ _ ed) hL upd_same⟩
    · refine ⟨true, CT.e, fun _ a0 na0 => ?_, fun r => Bool.noConfusion r⟩
      refine ⟨.ref a0, rfl, rfl, rfl, d, _, .str (whyOf e.bad z), rfl, ed, why_look, by show 2 ≤ sizeLine; decide, fun p np => ?_⟩
      exact ⟨_, rfl, q.bad a1 _ p ((s1.trans s').trans (same_upd np)) upd_same⟩
end
end WB

set_option Elab.async false
set_option linter.all false
set_option maxRecDepth 100000
set_option maxHeartbeats 4000000
namespace WB
open PySem PySem.Spec PyProof.Rows L2 WG L2H
open TL (tl)
abbrev st_made_right : Stmt := topS 42
theorem sc_made_right : FnScope ["_law_makers", "_law_held", "_law_name_here", "_law_word", "_law_kept", "_law_bad", "_law_odd_here", "_law_told"] ["_law_makers", "_law_held", "_law_name_here", "_law_word"] (defScope st_made_right) := ⟨rfl, rfl, rfl, by decide +kernel, rfl, by decide +kernel, by decide +kernel⟩
abbrev P8 : Nat → Prop := fun c => c < 256
/-! ### the odd things, and their texts -/
inductive OvOk (H : Hp) : V → Str → Prop
  | non : OvOk H .non (Str.ofString "None")
  | bl : OvOk H (.bl false) (Str.ofString "False")
  | int : OvOk H (.int 0) (Str.ofString (toString (0 : Int)))
  | str : OvOk H (.str (Str.ofString "")) (reprText (Str.ofString ""))
  | tup {a : Addr} (e : H a = some (.tup [])) : OvOk H (.ref a) (PyData.shown (.tuple []))
  | lst {a : Addr} (e : H a = some (.lst [])) : OvOk H (.ref a) (PyData.shown (.list []))
  | dct {a : Addr} (e : H a = some (.dK [])) : OvOk H (.ref a) (PyData.shown (.dict []))
theorem OvOk.same {H H' : Hp} {v : V} {r : Str} (h : OvOk H v r) (s : Same H H') : OvOk H' v r := by
  cases h with
  | non => exact .non
  | bl => exact .bl
  | int => exact .int
  | str => exact .str
  | tup e => exact .tup (s _ _ e)
  | lst e => exact .lst (s _ _ e)
  | dct e => exact .dct (s _ _ e)
theorem nil_ml : ¬ isML (.lst []) := fun ⟨x, xs, z⟩ => by cases z
theorem OvOk.ev {S : List Addr} {m : Nat} {H H' : Hp} {v : V} {r : Str} (h : OvOk H v r) (g : Ev S m H H') (n : ∀ a, v = .ref a → a ∉ S) : OvOk H' v r := by
  cases h with
  | non => exact .non
  | bl => exact .bl
  | int => exact .int
  | str => exact .str
  | tup e => exact .tup (g.tup e)
  | lst e => exact .lst (g.keep _ _ e (.inr fun _ z => by cases z) nil_ml)
  | dct e => exact .dct (g.keep _ _ e (.inl (n _ rfl)) (fun ⟨x, xs, z⟩ => by cases z))
def rReprO : List V → Hp → VK → Prop := fun xs H Q => ∃ (v : V) (r : Str), xs = [v] ∧ OvOk H v r ∧ Q (.str r) H
theorem call_reprO {X : Cx} (hg : X.A.guards = some []) (hu : X.A.units + 16 < cLine) : CallR X (.builtin "repr") rReprO := by
  intro pins s σ H xs us Q I rels ask
  obtain ⟨v, r, rfl, ov, q⟩ := ask
  obtain ⟨u, rfl, rel⟩ := vals1 rels
  cases ov with
  | non =>
    cases (show u = Value.none from rel)
    exact PySem.P.repr_of_none ⟨.str _, H, I.tok _, ⟨_, rfl⟩, q⟩
  | bl =>
    cases (show u = Value.bool false from rel)
    exact PySem.P.repr_of_bool ⟨.str _, H, I.tok _, ⟨_, rfl⟩, q⟩
  | int =>
    obtain ⟨t, rfl⟩ := rel
    exact PySem.P.repr_of_int (by decide) ⟨.str _, H, I.tok _, ⟨_, rfl⟩, q⟩
  | str =>
    obtain ⟨t, rfl⟩ := rel
    exact PySem.P.repr_of_str ⟨.str _, H, I.tok _, ⟨_, rfl⟩, q⟩ (by decide +kernel)
  | tup e =>
    cases rel
    obtain ⟨as, rd⟩ := Dp.reads I (.tuple []) (.ref _) (.ref _) (.tup (SqT.of e) .nil) rfl
    exact repr_of_reads' (h₀ := s.heap) rd (by decide +kernel) (PyData.noDict_hsm (by decide +kernel)) hg (by simp only [PyData.depth, PyData.depthAll]; omega) (fun _ _ e => e) (fun h' u tk kept => ⟨.str _, H, I.kept (t' := tk) kept, ⟨u, rfl⟩, q⟩) (by decide +kernel)
  | lst e =>
    cases rel
    obtain ⟨as, rd⟩ := Dp.reads I (.list []) (.ref _) (.ref _) (.lst (SqL.of e) .nil) rfl
    exact repr_of_reads' (h₀ := s.heap) rd (by decide +kernel) (PyData.noDict_hsm (by decide +kernel)) hg (by simp only [PyData.depth, PyData.depthAll]; omega) (fun _ _ e => e) (fun h' u tk kept => ⟨.str _, H, I.kept (t' := tk) kept, ⟨u, rfl⟩, q⟩) (by decide +kernel)
  | dct e =>
    cases rel
    obtain ⟨as, rd, hs⟩ := (Itm.d0 (K := X.K) e).reads I rfl
    exact repr_of_reads' (h₀ := s.heap) rd (by decide +kernel) hs hg (by simp only [PyData.depth, PyData.depthKv]; omega) (fun _ _ e => e) (fun h' u tk kept => ⟨.str _, H, I.kept (t' := tk) kept, ⟨u, rfl⟩, q⟩) (by decide +kernel)
/-! ### the kept lists as data -/
def datL (x : Str) (xs : List Int) : PyData := .list (.str x :: xs.map PyData.int)
theorem dp_ints {K : PySem.W.Frag} {H : Hp} : ∀ xs : List Int, DpAll K H (xs.map V.int) (xs.map PyData.int)
  | [] => .nil
  | i :: r => .cons (.int i) (dp_ints r)
theorem lay_ints : ∀ xs : List Int, PyData.canLayAll0 (xs.map PyData.int) = true ∧ PyData.depthAll (xs.map PyData.int) = 0 ∧ PyData.eqvAll (xs.map PyData.int) (xs.map PyData.int) = true
  | [] => ⟨by simp [PyData.canLayAll0], by simp [PyData.depthAll], by simp [PyData.eqvAll]⟩
  | i :: r => by
    obtain ⟨h1, h2, h3⟩ := lay_ints r
    rw [List.map_cons]
    exact ⟨by simp [PyData.canLayAll0, PyData.canLay0, h1], by simp [PyData.depthAll, PyData.depth, h2], by simp [PyData.eqvAll, PyData.eqv, h3]⟩
theorem datL_ok (x : Str) (xs : List Int) (hx : PyData.strOk x = true) : SeqAt.shaped (datL x xs) = true ∧ PyData.eqv (datL x xs) (datL x xs) = true := by
  obtain ⟨h1, h2, h3⟩ := lay_ints xs
  unfold datL SeqAt.shaped
  exact ⟨by simp [PyData.canLay0, PyData.canLayAll0, PyData.depth, PyData.depthAll, h1, h2, hx], by simp [PyData.eqv, PyData.eqvAll, h3]⟩
theorem ev_app {S : List Addr} {H : Hp} {L : Addr} {x : Str} {xs : List Int} {i : Int} (e : H L = some (.lst (.str x :: xs.map V.int))) : Ev S 1 H (upd H L (.lst (.str x :: (xs ++ [i]).map V.int))) := by
  have ml : ∀ b N, ML H N b → ML (upd H L (.lst (.str x :: (xs ++ [i]).map V.int))) (N + 1) b := fun b N h => by
    obtain ⟨y, ys, e1, h1, h2⟩ := h
    by_cases q : b = L
    · subst q
      rw [e] at e1
      have z := HO.lst.inj (Option.some.inj e1)
      have zx : x = y := V.str.inj (List.cons.inj z).1
      have zy : xs = ys := by
        have w := (List.cons.inj z).2
        exact (List.map_inj_right (fun a b h => V.int.inj h)).mp w
      subst zx zy
      exact ⟨x, xs ++ [i], upd_same, by rw [List.length_append]; show _ + 1 ≤ _; omega, h2⟩
    · exact ⟨y, ys, by rw [upd_ne q]; exact e1, by omega, h2⟩
  refine ⟨fun b o e1 _ nl => ?_, ml, fun d _ n N h => ?_⟩
  · have nb : b ≠ L := fun q => by
      rw [q, e] at e1
      exact nl ⟨x, xs, (Option.some.inj e1).symm⟩
    rw [upd_ne nb]
    exact e1
  · obtain ⟨kvs, ed, lk, hk⟩ := h
    have nd : d ≠ L := fun q => by
      rw [q, e] at ed
      cases ed
    refine ⟨kvs, by rw [upd_ne nd]; exact ed, by omega, fun p hp => ?_⟩
    obtain ⟨y, M, e1, e2⟩ := hk p hp
    exact ⟨y, M, e1, ml _ _ e2⟩
theorem val_mem {kvs : List (Key × V)} {k : Key} {v : V} (h : valV kvs k = some v) : (k, v) ∈ kvs := by
  unfold valV at h
  obtain ⟨p, hp, rfl⟩ := Option.map_eq_some_iff.mp h
  have h1 := List.mem_of_find?_eq_some hp
  have h2 := List.find?_some hp
  have h3 : p.1 = k := by simpa using h2
  rw [← h3]
  exact h1
theorem why_tq {c : Nat} {z : Str} (hc : c < 256) (hz : ∀ d ∈ tl z, d < 256) : PyData.strOk (whyOf c z) = true := by
  have l1 : ∀ d ∈ tl (Str.ofString "no "), d < 256 := by decide +kernel
  have l2 : ∀ d ∈ tl (Str.ofString " in "), d < 256 := by decide +kernel
  have l3 : ∀ d ∈ tl (Str.ofString ""), d < 256 := by decide +kernel
  refine strOk_of fun d hd => ?_
  unfold whyOf at hd
  split at hd
  · exact l3 d hd
  · rw [TL.tl_append, TL.tl_append, TL.tl_append] at hd
    rcases List.mem_append.mp hd with h | h
    · rcases List.mem_append.mp h with h | h
      · rcases List.mem_append.mp h with h | h
        · exact l1 d h
        · have h' : d ∈ [c] := h
          rw [List.mem_singleton.mp h']
          exact hc
      · exact l2 d h
    · exact hz d h
section
variable {P : Program} {w : World} {K : PySem.W.Frag} {mg : Str → Option Value} {base : Heap}
def spMR (C : Addr) : Sp := fun vs H Q _ => ∃ (x dx t hd : Addr) (es : List Ent) (e : Ent) (n N : Nat) (z : Str) (r : Str), vs = [.ref x, .ref hd, .str e.nmE, .str z] ∧ H x = some (.ins C dx [(("table" : Str), .ref t)]) ∧ H t = some (.dK (kvsOf es)) ∧ valV (kvsOf es) (Sum.inr e.nmE) = some (.ref e.tp) ∧ EntOk H n N e ∧ n ≤ 5000 ∧ N ≤ 100000 ∧ z.length ≤ 200 ∧ (∀ c ∈ tl z, c < 256) ∧ e.bad < 256 ∧
  DGet H hd (.str e.nmE) (some (.ref e.hp)) ∧ H e.hp = some (.tup [.ref e.dc, .str (sgn e.bad), .ref e.oh]) ∧ OvOk H e.ov r ∧ ∀ H', Ev [e.dc] 2 H H' → Q (.bl true) H'
theorem ok_mr {C f fM : Addr} {fd fdM : FuncData} {k : Nat} (F : Fun K "_law_made_right" "_law_made_right" st_made_right f fd) (D_made : Df K mg "_law_made" st_made ["_law_makers", "_law_name_here", "_law_word"] fM fdM) (G_made : FnOk P w K mg base CX0 (k + 5) fM fdM ["_law_makers", "_law_name_here", "_law_word"] (spLMade C))
    (m_len : mg "len" = none) (m_int : mg "int" = none) (m_list : mg "list" = none) (m_repr : mg "repr" = none) (m_isinstance : mg "isinstance" = none) : GOk P w K mg base CX0 (k + 6) f fd ["_law_makers", "_law_held", "_law_name_here", "_law_word"] (spMR C) := by
  refine gfun_ok F sc_made_right (fun vs H Q E h => ?_) (fun cdv A outer s H vs Q E hgd hr h => ?_)
  · obtain ⟨x, dx, t, hd, es, e, n, N, z, r, rfl, _⟩ := h
    rfl
  · obtain ⟨x, dx, t, hd, es, e, n, N, z, r, rfl, ex, et, hv, oe, hn, hN, hz, hc, hb, gh, ehp, ov, q⟩ := h
    have hu := Nat.lt_of_le_of_lt (Nat.add_le_add_left (show 1 ≤ 64 by decide) _) hr.units
    have hun : A.units + 3 + 16 < cLine := by
      have := hr.un
      have z : (A.deeper (envOfC "_law_made_right" (defScope st_made_right) s.heap.objs.size f cdv)).units = A.units + 3 := rfl
      omega
    refine ⟨_, PSs.nox (pss_cons (ps_asg (pe_dget hu (pv 1) (pv 2) (fun _ _ => rfl)) (pg_tup rfl (pgs_cons (pg_name (i := 4) sc_made_right.nd rfl (Or.inl rfl)) (pgs_cons (pg_name (i := 5) sc_made_right.nd rfl (Or.inl rfl)) (pgs_cons (pg_name (i := 6) sc_made_right.nd rfl (Or.inl rfl)) pgs_nil)))))
      (pss_cons (ps_set (i := 7) sc_made_right.nd rfl (.inl rfl) (pe_call G_made hr (by rfl) D_made.g D_made.F.kp D_made.b .nil pass0 (pa_cons (pv 0) (pa_cons (pv 2) (pa_cons (pv 3) pa_nil)))))
      (pss_cons (ps_if (pt_cmpR op_in_sign (pv 5) (pv 3) (by rfl)) (pss_one (ps_ret (pe_cmpR (op_eqD hr.units) (pv 7) (pe_tup (pa_cons pe_str (pa_cons (pe_ix ix_list (pe_lst (pa_cons (pe_op op_add_str (pe_op op_add_str (pe_op op_add_str pe_str (pv 5)) pe_str) (pv 3)) (pa_cons pe_str pa_nil))) (pe_callTy call_int1 (by rfl) m_int (by decide +kernel) (pa_cons (pe_cmpR op_gt (pe_m1 PySem.F.slot_str_count PySem.F.type_str_count mt_count (pv 3) (pv 5)) pe_int (nomark _)) pa_nil)) (fun _ _ => rfl)) pa_nil))) (nomark _)))) pss_nil)
      (pss_cons (ps_if (pt_cmpR op_in_sign (pe_ix ix_tup (pv 6) pe_int (fun _ _ => rfl)) (pv 3) (by rfl)) (pss_one (ps_ret (pe_and (pe_cmpR op_eq (pe_ix ix_tup (pv 7) pe_int (fun _ _ => rfl)) pe_str (nomark _)) (pe_one (pe_cmpR op_eq (pe_callB (call_reprO hgd hun) (by rfl) m_repr (by decide +kernel) (pa_cons (pe_ix ix_tup (pv 7) pe_int (fun _ _ => rfl)) pa_nil)) (pe_callB (call_reprO hgd hun) (by rfl) m_repr (by decide +kernel) (pa_cons (pe_ix ix_tup (pv 6) pe_int (fun _ _ => rfl)) pa_nil)) (nomark _)))))) pss_nil)
      (pss_cons (ps_if (PW.pt (pw_or (pt_cmpR op_ne (pe_ix ix_tup (pv 7) pe_int (fun _ _ => rfl)) pe_str (nomark _)) (pw_or (pt_not (pt_val (pe_callB call_isi (by rfl) m_isinstance (by decide +kernel) (pa_cons (pe_ix ix_tup (pv 7) pe_int (fun _ _ => rfl)) (pa_cons (pe_bltn (v := .ty "list") (by rfl) m_list (by decide +kernel) rfl) pa_nil))))) (pw_or (pt_cmp (pc_dnotin hu (pv 3) (pv 4))) (pw_or1 (pt_cmpR (op_neD hr.units) (pe_ix ix_tup (pv 7) pe_int (fun _ _ => rfl)) (pe_dget hu (pv 4) (pv 3) (fun _ _ => rfl)) (nomark _))))))) (pss_one (ps_ret pe_bl)) pss_nil)
      (pss_cons (ps_expr (pe_bm PySem.F.plainAttrs_list PySem.F.slot_list_append PySem.F.type_list_append mt_append (pe_ix ix_tup (pv 7) pe_int (fun _ _ => rfl)) (pa_cons (pe_callB call_len_seq (by rfl) m_len PySem.boot_len (pa_cons (pe_dget hu (pv 4) (pv 3) (fun _ _ => rfl)) pa_nil)) pa_nil)))
      (pss_one (ps_ret (pe_cmpR (op_eqD hr.units) (pe_ix ix_tup (pv 7) pe_int (fun _ _ => rfl)) (pe_dget hu (pv 4) (pv 3) (fun _ _ => rfl)) (nomark _)))))))))), ?_⟩
    have sl : sizeLine = 16777216 := sizeLine_eq
    refine ⟨.ref hd, rfl, .str e.nmE, rfl, hd, .ref e.hp, rfl, gh, e.hp, _, rfl, SqT.of ehp, rfl, _, _, rfl, _, _, rfl, _, _, rfl, rfl, ?_⟩
    refine ⟨.ref x, rfl, .str e.nmE, rfl, .str z, rfl, x, dx, t, es, e, n, N, z, rfl, ex, et, hv, oe, hn, hz, hc, ⟨fun hbz H1 p s1 ep => ?_, fun hbz hsz H1 p s1 ep => ?_, fun hbz hsz H1 p L kvs ev ed hL ep => ?_⟩⟩
    · refine ⟨.str (sgn e.bad), rfl, .str z, rfl, e.bad, z, rfl, rfl, _, rfl, ?_⟩
      rw [show decide (e.bad ∈ z.cps.toList) = true from decide_eq_true hbz]
      have l1 : (Str.ofString "no ").length = 3 := by decide +kernel
      have l2 : (Str.ofString " in ").length = 4 := by decide +kernel
      have l3 : (sgn e.bad).length = 1 := rfl
      refine ⟨.ref p, rfl, .str (sgn e.bad), rfl, _, _, rfl, rfl, ?_, _, _, rfl, rfl, ?_, .str z, rfl, _, _, rfl, rfl, ?_, by show 2 ≤ sizeLine; decide, fun l nl => ?_⟩
      · rw [l1, l3]
        omega
      · rw [Str.length_append, l1, l2, l3]
        omega
      · rw [Str.length_append, Str.length_append, l1, l2, l3]
        omega
      refine ⟨.str z, rfl, ⟨_, rfl⟩, .str (sgn e.bad), rfl, z, sgn e.bad, rfl, rfl, _, 1, rfl, rfl, .inr ⟨_, rfl, ?_⟩⟩
      have at_ : atI [V.str (Str.ofString "no " ++ sgn e.bad ++ Str.ofString " in " ++ z), V.str (Str.ofString "")] (if decide ((1 : Int) < Txt.count z (sgn e.bad)) = true then 1 else 0) = some (.str (whyOf e.bad z)) := by
        unfold whyOf
        by_cases h : (1 : Int) < Txt.count z (sgn e.bad)
        · rw [decide_eq_true h, if_pos h]
          rfl
        · rw [decide_eq_false h, if_neg h]
          rfl
      refine ⟨l, _, _, .str (whyOf e.bad z), rfl, rfl, SqL.of upd_same, at_, by show 2 ≤ sizeLine; decide, fun t2 nt2 => ?_⟩
      have S : Same H1 _ := (same_upd (o := .lst [V.str (Str.ofString "no " ++ sgn e.bad ++ Str.ofString " in " ++ z), V.str (Str.ofString "")]) nl).trans (same_upd (o := .tup [.str (Str.ofString "unmade"), .str (whyOf e.bad z)]) nt2)
      have so := why_tq (c := e.bad) (z := z) hb hc
      have su : PyData.strOk (Str.ofString "unmade") = true := by decide +kernel
      have shp : SeqAt.shaped (.tuple [.str (Str.ofString "unmade"), .str (whyOf e.bad z)]) = true := by
        unfold SeqAt.shaped
        simp [PyData.canLay0, PyData.canLayAll0, PyData.depth, PyData.depthAll, so, su]
      refine ⟨_, _, .tup (SqT.of (S _ _ ep)) (.cons (.str _) (.cons (.str _) .nil)), .tup (SqT.of upd_same) (.cons (.str _) (.cons (.str _) .nil)), shp, shp, ?_⟩
      rw [show PyData.eqv (.tuple [.str (Str.ofString "unmade"), .str (whyOf e.bad z)]) (.tuple [.str (Str.ofString "unmade"), .str (whyOf e.bad z)]) = true from by simp [PyData.eqv, PyData.eqvAll]]
      exact q _ (Ev.of_same (s1.trans S) 2)
    · refine ⟨.str (sgn e.bad), rfl, .str z, rfl, e.bad, z, rfl, rfl, _, rfl, ?_⟩
      rw [show decide (e.bad ∈ z.cps.toList) = false from decide_eq_false hbz]
      refine ⟨.ref e.oh, rfl, e.oh, _, 0, .str (sgn e.sg), rfl, rfl, SqT.of (s1 _ _ oe.oh), rfl, .str z, rfl, e.sg, z, rfl, rfl, _, rfl, ?_⟩
      rw [show decide (e.sg ∈ z.cps.toList) = true from decide_eq_true hsz]
      refine ⟨.ref p, rfl, p, _, 0, .str (Str.ofString "value"), rfl, rfl, SqT.of ep, rfl, rfl, _, rfl, ?_⟩
      rw [decide_eq_true rfl]
      refine ⟨.ref p, rfl, p, _, 1, e.ov, rfl, rfl, SqT.of ep, rfl, e.ov, r, rfl, ov.same s1, .ref e.oh, rfl, e.oh, _, 1, e.ov, rfl, rfl, SqT.of (s1 _ _ oe.oh), rfl, e.ov, r, rfl, ov.same s1, rfl, ?_⟩
      rw [decide_eq_true rfl]
      exact q _ (Ev.of_same s1 2)
    · have od1 := ev.tup oe.oh
      refine ⟨.str (sgn e.bad), rfl, .str z, rfl, e.bad, z, rfl, rfl, _, rfl, ?_⟩
      rw [show decide (e.bad ∈ z.cps.toList) = false from decide_eq_false hbz]
      refine ⟨.ref e.oh, rfl, e.oh, _, 0, .str (sgn e.sg), rfl, rfl, SqT.of od1, rfl, .str z, rfl, e.sg, z, rfl, rfl, _, rfl, ?_⟩
      rw [show decide (e.sg ∈ z.cps.toList) = false from decide_eq_false hsz]
      obtain ⟨kv2, ed2, lk2, hk2⟩ := ev.kp _ (List.mem_singleton.mpr rfl) _ _ oe.kp
      rw [ed] at ed2
      cases ed2
      obtain ⟨y, M, epm, xL, xs, eL, lL, xl, xc⟩ := hk2 _ (val_mem hL)
      have eM : L = M := V.ref.inj (Prod.mk.inj epm).2
      subst eM
      obtain ⟨shp, eqv⟩ := datL_ok xL xs (strOk_of xc)
      have gd : DGet H1 e.dc (.str z) (some (.ref L)) := by
        have := DGet.k (k := Sum.inr z) ed
        rw [hL] at this
        exact this
      refine ⟨.ref p, rfl, p, _, 0, .str (Str.ofString "value"), rfl, rfl, SqT.of ep, rfl, rfl, _, rfl, ?_⟩
      rw [decide_eq_true rfl]
      refine ⟨.ref p, rfl, p, _, 1, .ref L, rfl, rfl, SqT.of ep, rfl, .ref L, _, _, _, true, rfl, ClsV.ty "list", TyX.base (TyOf.lst eL), kit_ty (show kitB "list" "list" = some true from by decide +kernel), _, rfl, ?_⟩
      refine ⟨.str z, rfl, .ref e.dc, rfl, e.dc, some (.ref L), rfl, gd, _, rfl, ?_⟩
      refine ⟨.ref p, rfl, p, _, 1, .ref L, rfl, rfl, SqT.of ep, rfl, .ref e.dc, rfl, .str z, rfl, e.dc, .ref L, rfl, gd, _, _, .lst (SqL.of eL) (.cons (.str _) (dp_ints xs)), .lst (SqL.of eL) (.cons (.str _) (dp_ints xs)), shp, shp, _, rfl, ?_⟩
      rw [show PyData.eqv (.list (.str xL :: xs.map PyData.int)) (.list (.str xL :: xs.map PyData.int)) = true from eqv]
      refine ⟨.ref p, rfl, p, _, 1, .ref L, rfl, rfl, SqT.of ep, rfl, .inl ⟨rfl, _, SqL.of eL⟩, .ref e.dc, rfl, .str z, rfl, e.dc, .ref L, rfl, gd, L, _, rfl, .inl (SqL.of eL), L, _, _, rfl, rfl, eL, ?_, ?_⟩
      · rw [List.length_cons, List.length_map]
        omega
      have eH : ∀ i : Int, (V.str xL :: xs.map V.int) ++ [V.int i] = V.str xL :: (xs ++ [i]).map V.int := fun i => by
        rw [List.map_append]
        rfl
      rw [eH]
      have nd : e.dc ≠ L := fun w => by
        rw [w, eL] at ed
        cases ed
      have np : p ≠ L := fun w => by
        rw [w, eL] at ep
        cases ep
      have ap := ev_app (S := [e.dc]) (i := ((V.str xL :: xs.map V.int).length : Nat)) eL
      have eL2 : (upd H1 L (.lst (V.str xL :: (xs ++ [(((V.str xL :: xs.map V.int).length : Nat) : Int)]).map V.int))) L = some (.lst (V.str xL :: (xs ++ [(((V.str xL :: xs.map V.int).length : Nat) : Int)]).map V.int)) := upd_same
      have ep2 : (upd H1 L (.lst (V.str xL :: (xs ++ [(((V.str xL :: xs.map V.int).length : Nat) : Int)]).map V.int))) p = some (.tup [.str (Str.ofString "value"), .ref L]) := by
        rw [upd_ne np]
        exact ep
      have gd2 : DGet (upd H1 L (.lst (V.str xL :: (xs ++ [(((V.str xL :: xs.map V.int).length : Nat) : Int)]).map V.int))) e.dc (.str z) (some (.ref L)) := by
        have := DGet.k (k := Sum.inr z) (show (upd H1 L (.lst (V.str xL :: (xs ++ [(((V.str xL :: xs.map V.int).length : Nat) : Int)]).map V.int))) e.dc = some (.dK kvs) from by rw [upd_ne nd]; exact ed)
        rw [hL] at this
        exact this
      obtain ⟨shp2, eqv2⟩ := datL_ok xL (xs ++ [(((V.str xL :: xs.map V.int).length : Nat) : Int)]) (strOk_of xc)
      refine ⟨.ref p, rfl, p, _, 1, .ref L, rfl, rfl, SqT.of ep2, rfl, .ref e.dc, rfl, .str z, rfl, e.dc, .ref L, rfl, gd2, _, _, .lst (SqL.of eL2) (.cons (.str _) (dp_ints _)), .lst (SqL.of eL2) (.cons (.str _) (dp_ints _)), shp2, shp2, ?_⟩
      rw [show PyData.eqv (.list (.str xL :: (xs ++ [(((V.str xL :: xs.map V.int).length : Nat) : Int)]).map PyData.int)) (.list (.str xL :: (xs ++ [(((V.str xL :: xs.map V.int).length : Nat) : Int)]).map PyData.int)) = true from eqv2]
      exact q _ (ev.trans ap)
end
end WB

set_option Elab.async false
set_option linter.all false
set_option maxRecDepth 100000
set_option maxHeartbeats 4000000
namespace WB
open PySem PySem.Spec PyProof.Rows L2 WG
open TL (tl)
abbrev st_names_right : Stmt := topS 43
theorem sc_names_right : FnScope ["_law_makers", "_law_due", "_law_told"] ["_law_makers", "_law_due"] (defScope st_names_right) := ⟨rfl, rfl, rfl, by decide +kernel, rfl, by decide +kernel, by decide +kernel⟩
/-! ### one way to be sorted -/
def leS (a b : Str) : Prop := ¬ b.cps.toList < a.cps.toList
theorem leS_anti {a b : Str} (h : leS a b) (k : leS b a) : a = b := by
  have e : a.cps.toList = b.cps.toList := List.le_antisymm (List.not_lt.mp h) (List.not_lt.mp k)
  cases a; cases b
  exact congrArg Str.mk (Array.toList_inj.mp e)
theorem leS_trans {a b c : Str} (h : leS a b) (k : leS b c) : leS a c := List.not_lt.mpr (List.le_trans (List.not_lt.mp h) (List.not_lt.mp k))
theorem rising_all : ∀ (l : List Str) (p : Str), risingS p l = true → (∀ x ∈ l, leS p x) ∧ l.Pairwise leS
  | [], p, _ => ⟨fun x hx => (by cases hx), .nil⟩
  | y :: r, p, h => by
    have h' : (!ltCps y.cps.toList p.cps.toList && risingS y r) = true := h
    obtain ⟨h1, h2⟩ := Bool.and_eq_true_iff.mp h'
    have py : leS p y := by
      rw [ltCps_eq] at h1
      intro c
      rw [decide_eq_true c] at h1
      cases h1
    obtain ⟨k1, k2⟩ := rising_all r y h2
    refine ⟨fun x hx => ?_, .cons k1 k2⟩
    rcases List.mem_cons.mp hx with e | e
    · rw [e]
      exact py
    · exact leS_trans py (k1 x e)
theorem sorted_pw {l : List Str} (h : sortedS l = true) : l.Pairwise leS := by
  cases l with
  | nil => exact .nil
  | cons x r =>
    obtain ⟨k1, k2⟩ := rising_all r x h
    exact .cons k1 k2
theorem pw_eq : ∀ {l m : List Str}, l.Perm m → l.Pairwise leS → m.Pairwise leS → l = m
  | [], m, h, _, _ => by rw [List.nil_perm.mp h]
  | a :: r, [], h, _, _ => by cases List.perm_nil.mp h
  | a :: r, b :: t, h, k1, k2 => by
    obtain ⟨a1, a2⟩ := List.pairwise_cons.mp k1
    obtain ⟨b1, b2⟩ := List.pairwise_cons.mp k2
    have e : a = b := by
      rcases List.mem_cons.mp (h.mem_iff.mp List.mem_cons_self : a ∈ b :: t) with e | e
      · exact e
      · rcases List.mem_cons.mp (h.mem_iff.mpr List.mem_cons_self : b ∈ a :: r) with e2 | e2
        · exact e2.symm
        · exact leS_anti (a1 b e2) (b1 a e)
    subst e
    rw [pw_eq (List.perm_cons a |>.mp h) a2 b2]
theorem sorted_one {l m : List Str} (h : l.Perm m) (k1 : sortedS l = true) (k2 : sortedS m = true) : l = m := pw_eq h (sorted_pw k1) (sorted_pw k2)
section
variable {P : Program} {w : World} {K : PySem.W.Frag} {mg : Str → Option Value} {base : Heap}
def spNR (C : Addr) : Sp := fun vs H Q _ => ∃ (x dx t l : Addr) (es : List Ent) (ys : List Str), vs = [.ref x, .ref l] ∧ H x = some (.ins C dx [(("table" : Str), .ref t)]) ∧ H t = some (.dK (kvsOf es)) ∧ es.length ≤ 50 ∧ H l = some (.lst (ys.map V.str)) ∧ ys.Perm (es.map (·.nmE)) ∧ sortedS ys = true ∧ (∀ y ∈ ys, PyData.strOk y = true) ∧ ∀ H', Same H H' → Q (.bl true) H'
theorem ok_nr {C f fN : Addr} {fd fdN : FuncData} {k : Nat} (F : Fun K "_law_names_right" "_law_names_right" st_names_right f fd) (T : ClsT K C) (mN : Meth K C "names" fN) (FN : Fun K "names" "Makers.names" st_mnames fN fdN) (bN : Binds K fdN ["self"] [])
    (m_sorted : mg "sorted" = none) (m_list : mg "list" = none) (m_isinstance : mg "isinstance" = none) : FnOk P w K mg base CX0 (k + 2) f fd ["_law_makers", "_law_due"] (spNR C) := by
  have GN : FnOk P w K mg base CX0 (k + 1) fN fdN ["self"] (spMNames C) := ok_mnames FN T m_sorted m_list
  refine F.ok sc_names_right (fun vs H Q E h => ?_) (fun cdv A outer s H vs Q E hr h => ?_)
  · obtain ⟨x, dx, t, l, es, ys, rfl, _⟩ := h
    rfl
  · obtain ⟨x, dx, t, l, es, ys, rfl, ex, et, l50, el, hp, hs, hok, q⟩ := h
    refine ⟨_, pss_cons (ps_set (i := 2) sc_names_right.nd rfl (.inl rfl) (pe_meth0 (pv 0) T.cl mN GN hr bN .nil pass0))
      (pss_cons (ps_if (PW.pt (pw_or (pt_not (pt_val (pe_callB call_isi (by rfl) m_isinstance (by decide +kernel) (pa_cons (pv 2) (pa_cons (pe_bltn (v := .ty "list") (by rfl) m_list (by decide +kernel) rfl) pa_nil))))) (pw_or1 (pt_cmpR (op_neD hr.units) (pv 2) (pv 1) (nomark _))))) (pss_one (ps_ret pe_bl)) pss_nil)
      (pss_cons (ps_expr (pe_bm PySem.F.plainAttrs_list PySem.F.slot_list_append PySem.F.type_list_append mt_append (pv 2) (pa_cons pe_str pa_nil)))
      (pss_one (ps_ret (pe_and (pe_cmpR (op_eqD hr.units) (pe_meth0 (pv 0) T.cl mN GN hr bN .nil pass0) (pv 1) (nomark _)) (pe_one (pe_cmpR (op_eqD hr.units) (pv 2) (pe_op op_cat (pv 1) (pe_lst (pa_cons pe_str pa_nil))) (nomark _)))))))), ?_⟩
    have sl : sizeLine = 16777216 := sizeLine_eq
    have lys : ys.length ≤ 50 := by
      rw [hp.length_eq, List.length_map]
      exact l50
    have sh := shaped_strs ys hok
    refine ⟨.ref x, rfl, x, dx, _, rfl, ex, rfl, x, dx, t, es, rfl, ex, et, by omega, fun H1 p zs s1 np ep hp1 hs1 => ?_⟩
    have ez : zs = ys := sorted_one (hp1.trans hp.symm) hs1 hs
    subst ez
    refine ⟨.ref p, rfl, .ref p, _, _, _, true, rfl, ClsV.ty "list", TyX.base (TyOf.lst ep), kit_ty (show kitB "list" "list" = some true from by decide +kernel), _, rfl, ?_⟩
    refine ⟨.ref p, rfl, .ref l, rfl, _, _, .lst (SqL.of ep) (dp_strs _), .lst (SqL.of (s1 _ _ el)) (dp_strs _), sh, sh, _, rfl, ?_⟩
    rw [eqv_strs, decide_eq_true rfl]
    refine ⟨.ref p, rfl, .inl ⟨rfl, _, SqL.of ep⟩, p, _, _, rfl, rfl, ep, by rw [List.length_map]; omega, ?_⟩
    have s2 : Same H (upd H1 p (.lst (zs.map V.str ++ [V.str (Str.ofString "zz")]))) := fun b o e => by
      rw [upd_ne (ne_of_none e np)]
      exact s1 b o e
    have e2 : (upd H1 p (.lst (zs.map V.str ++ [V.str (Str.ofString "zz")]))) p = some (.lst ((zs ++ [Str.ofString "zz"]).map V.str)) := by
      rw [upd_same, List.map_append]
      rfl
    revert s2 e2
    generalize upd H1 p (.lst (zs.map V.str ++ [V.str (Str.ofString "zz")])) = H2
    intro s2 e2
    have hok2 : ∀ y ∈ zs ++ [Str.ofString "zz"], PyData.strOk y = true := fun y hy => by
      rcases List.mem_append.mp hy with h | h
      · exact hok y h
      · rw [List.mem_singleton.mp h]
        decide +kernel
    refine ⟨.ref x, rfl, x, dx, _, rfl, s2 _ _ ex, rfl, x, dx, t, es, rfl, s2 _ _ ex, s2 _ _ et, by omega, fun H3 p3 ws s3 np3 ep3 hp3 hs3 => ?_⟩
    have ew : ws = zs := sorted_one (hp3.trans hp.symm) hs3 hs
    subst ew
    refine ⟨.ref l, rfl, _, _, .lst (SqL.of ep3) (dp_strs _), .lst (SqL.of (s3 _ _ (s2 _ _ el))) (dp_strs _), sh, sh, _, rfl, ?_⟩
    rw [eqv_strs, decide_eq_true rfl]
    refine ⟨.ref p, rfl, .ref l, rfl, by show 1 ≤ sizeLine; decide, fun l4 n4 => ?_⟩
    have s4 : Same H3 (upd H3 l4 (.lst [V.str (Str.ofString "zz")])) := same_upd n4
    have e4 : (upd H3 l4 (.lst [V.str (Str.ofString "zz")])) l4 = some (.lst [V.str (Str.ofString "zz")]) := upd_same
    revert s4 e4
    generalize upd H3 l4 (.lst [V.str (Str.ofString "zz")]) = H4
    intro s4 e4
    refine ⟨l, l4, _, _, rfl, rfl, s4 _ _ (s3 _ _ (s2 _ _ el)), e4, by rw [List.length_map]; show _ + 1 ≤ _; omega, fun p5 n5 => ?_⟩
    have s5 : Same H4 (upd H4 p5 (.lst (ws.map V.str ++ [V.str (Str.ofString "zz")]))) := same_upd n5
    have e5 : (upd H4 p5 (.lst (ws.map V.str ++ [V.str (Str.ofString "zz")]))) p5 = some (.lst ((ws ++ [Str.ofString "zz"]).map V.str)) := by
      rw [upd_same, List.map_append]
      rfl
    revert s5 e5
    generalize upd H4 p5 (.lst (ws.map V.str ++ [V.str (Str.ofString "zz")])) = H5
    intro s5 e5
    have sh2 := shaped_strs _ hok2
    refine ⟨_, _, .lst (SqL.of (s5 _ _ (s4 _ _ (s3 _ _ e2)))) (dp_strs _), .lst (SqL.of e5) (dp_strs _), sh2, sh2, ?_⟩
    rw [eqv_strs, decide_eq_true rfl]
    exact q _ (((s2.trans s3).trans s4).trans s5)
end
end WB

set_option Elab.async false
set_option linter.all false
set_option maxRecDepth 100000
set_option maxHeartbeats 4000000
namespace WB
open PySem PySem.Spec PyProof.Rows L2
open TL (tl)
abbrev st_signs : Stmt := topS 29
theorem sc_signs : FnScope ["_law_letters"] [] (defScope st_signs) := ⟨rfl, rfl, rfl, by decide +kernel, rfl, by decide +kernel, by decide +kernel⟩
abbrev st_text : Stmt := topS 30
theorem sc_text : FnScope ["_law_pot_here", "_law_most", "_law_signs_here", "_law_k"] ["_law_pot_here", "_law_most", "_law_signs_here"] (defScope st_text) := ⟨rfl, rfl, rfl, by decide +kernel, rfl, by decide +kernel, by decide +kernel⟩
abbrev sSigns := st_signs
abbrev sText := st_text
abbrev scSigns := sc_signs
abbrev scText := sc_text
section
variable {P : Program} {w : World} {K : PySem.W.Frag} {mg : Str → Option Value} {base : Heap}
/-! ### _law_signs -/
def signs2 : Str := Str.ofString " !\"#$&'()*+,-./0123456789:;<=>?@" ++ Str.ofString "[\\]^_`{|}~abcdefghijklmnopqrstuvwxyzABCDEFGHIJKLMNOPQRSTUVWXYZ"
def spSigns : Sp := fun vs H Q _ => vs = [] ∧ Q (.str signs2) H
theorem ok_signs {f : Addr} {fd : FuncData} {k : Nat} (F : Fun K "_law_signs" "_law_signs" sSigns f fd) : FnOk P w K mg base CX0 (k + 1) f fd [] spSigns := by
  refine F.ok scSigns (fun vs H Q E h => ?_) (fun cdv A outer s H vs Q E hr h => ?_)
  · obtain ⟨rfl, _⟩ := h
    rfl
  · obtain ⟨rfl, q⟩ := h
    refine ⟨_, pss_cons (ps_set (i := 0) scSigns.nd rfl (.inl rfl) pe_str) (pss_one (ps_ret (pe_op op_add_str (pe_op op_add_str pe_str (pv 0)) (pe_upper (pv 0))))), ?_⟩
    refine ⟨_, rfl, _, _, rfl, rfl, ?_, _, rfl, ⟨_, rfl⟩, _, rfl, rfl, ?_, _, _, rfl, rfl, ?_, (congrArg (fun z => Q (.str z) H) (by decide +kernel)).mp q⟩ <;> decide +kernel
/-! ### _law_text -/
def spText : Sp := fun vs H Q _ => ∃ (p : Addr) (m : Int) (z : Str), vs = [.ref p, .int m, .str z] ∧ Pot H p ∧ 0 ≤ m ∧ m ≤ 100 ∧ 0 < z.length ∧ z.length ≤ 200 ∧
  ∀ H' (y : Str), But p H H' → Pot H' p → Tq (· ∈ tl z) m.toNat y → Q (.str y) H'
theorem ok_text {f fD : Addr} {fd fdD : FuncData} {k : Nat} (F : Fun K "_law_text" "_law_text" sText f fd) (D : Df K mg "_law_draw" sDraw ["_law_pot_here", "_law_many"] fD fdD) (mD : mg "divmod" = none) (mL : mg "len" = none) (mR : mg "range" = none) :
    FnOk P w K mg base CX0 (k + 2) f fd ["_law_pot_here", "_law_most", "_law_signs_here"] spText := by
  have GD : FnOk P w K mg base CX0 (k + 1) fD fdD ["_law_pot_here", "_law_many"] spDraw := ok_draw D.F mD
  refine F.ok scText (fun vs H Q E h => ?_) (fun cdv A outer s H vs Q E hr h => ?_)
  · obtain ⟨p, m, z, rfl, _⟩ := h
    rfl
  · obtain ⟨p, m, z, rfl, hp, hm0, hm1, hz0, hz1, q⟩ := h
    refine ⟨_, pss_one (ps_ret (pe_join pe_str (pe_lc (own := [("_law_k", 3)]) (g := gName 3) (tt := tYes) rfl scText.nd
      (pi_range1 rfl mR (pa_cons (pe_call GD hr (by rfl) D.g D.F.kp D.b .nil pass0 (pa_cons (pv 0) (pa_cons (pe_op op_add (pv 1) pe_int) pa_nil))) pa_nil))
      (blkOk_by (N := ["_law_pot_here", "_law_most", "_law_signs_here", "_law_k"]) (sc := defScope sText) (by decide +kernel))
      (fun _ _ _ _ _ => pg_name (i := 3) scText.nd rfl (Or.inl rfl)) (fun _ _ _ _ _ => pts_nil)
      (fun _ _ _ _ _ => pe_ix ix_str (pv 2) (pe_call GD hr (by rfl) D.g D.F.kp D.b .nil pass0 (pa_cons (pv 0) (pa_cons (pe_callB call_len_str (by rfl) mL PySem.boot_len (pa_cons (pv 2) pa_nil)) pa_nil))) (fun _ _ => rfl))))), ?_⟩
    refine ⟨⟨_, rfl⟩, .ref p, rfl, .int m, rfl, m, 1, rfl, rfl, p, m + 1, rfl, hp, by omega, by omega, fun H1 d b1 p1 d0 d1 => ?_⟩
    refine ⟨d, rfl, by omega, by omega, fun T nT => ?_⟩
    have npT : p ≠ T := p1.ne nT
    refine lc_range (lo := 0) (n := d.toNat) (fun i Hc => But p H1 Hc ∧ Pot Hc p ∧ ∃ ys : List Str, Hc T = some (.lst (ys.map V.str)) ∧ ys.length = i ∧ ∀ y ∈ ys, Tq (· ∈ tl z) 1 y)
      ⟨But.new nT, p1.new nT, [], upd_same, rfl, fun y hy => by cases hy⟩ (fun i Hc hi ⟨bc, pc, ys, eT, el, e1⟩ => ?_) (fun Hc ⟨bc, pc, ys, eT, el, e1⟩ => ?_)
    · refine ⟨rfl, ?_⟩
      have hzl : z.length ≤ sizeLine := Nat.le_trans hz1 (by decide)
      refine ⟨.str z, rfl, .ref p, rfl, .str z, rfl, z, rfl, hzl, p, z.length, rfl, pc, by omega, by omega, fun H4 j b4 p4 j0 j1 => ?_⟩
      obtain ⟨n, rfl⟩ := Int.eq_ofNat_of_zero_le j0
      have hn : n < z.cps.toList.length := by
        have e : z.cps.toList.length = z.length := by simp [Str.length]
        omega
      have eT4 : H4 T = some (.lst (ys.map V.str)) := b4 T _ npT.symm eT
      refine ⟨z, n, z.cps.toList[n], rfl, rfl, hzl, atI_nat (List.getElem?_eq_getElem hn), ys.map V.str, eT4, ?_, ?_, ?_, ys ++ [⟨#[z.cps.toList[n]]⟩], ?_, ?_, ?_⟩
      · rw [List.length_map, el]
        exact small1000 (by omega)
      · exact fun b o nb e => by
          rw [upd_ne (ne_of_none e nT)]
          exact b4 b o nb (bc b o nb e)
      · obtain ⟨x, y, e, h1, h2⟩ := p4
        refine ⟨x, y, ?_, h1, h2⟩
        rw [upd_ne npT]
        exact e
      · rw [upd_same, List.map_append]
        rfl
      · rw [List.length_append, el]
        rfl
      · intro y hy
        rcases List.mem_append.mp hy with hy | hy
        · exact e1 y hy
        · rw [List.mem_singleton.mp hy]
          exact Tq.sign (List.getElem_mem hn)
    · have e0 : (Str.ofString "").length = 0 := by decide +kernel
      have es := sum_most 1 ys e1
      refine ⟨_, T, ys, rfl, rfl, .inl (SqL.of eT), ?_, q _ _ (b1.trans bc) pc ?_⟩
      · rw [e0]
        omega
      · exact Tq.join ⟨by rw [e0]; exact Nat.le_refl 0, fun c hc => by cases hc⟩ e1 (by omega)
end
end WB

set_option Elab.async false
set_option linter.all false
set_option maxRecDepth 100000
set_option maxHeartbeats 4000000
namespace WB
open PySem PySem.Spec PyProof.Rows L2 WG
open TL (tl)
abbrev st_name : Stmt := topS 31
theorem sc_name : FnScope ["_law_pot_here", "_law_signs_here", "_law_name_here", "_law_k"] ["_law_pot_here"] (defScope st_name) := ⟨rfl, rfl, rfl, by decide +kernel, rfl, by decide +kernel, by decide +kernel⟩
abbrev st_odd : Stmt := topS 34
theorem sc_odd : FnScope ["_law_pot_here", "_law_bad", "_law_signs_here", "_law_sign"] ["_law_pot_here", "_law_bad"] (defScope st_odd) := ⟨rfl, rfl, rfl, by decide +kernel, rfl, by decide +kernel, by decide +kernel⟩
theorem at_sig (z : Str) (d : Int) (h0 : 0 ≤ d) (h1 : d < (z.length : Int)) : ∃ c ∈ tl z, atI z.cps.toList d = some c := by
  obtain ⟨n, rfl⟩ := Int.eq_ofNat_of_zero_le h0
  have hn : n < (tl z).length := by rw [← TL.len_tl]; omega
  exact ⟨(tl z)[n], List.getElem_mem hn, atI_nat (List.getElem?_eq_getElem hn)⟩
theorem at_last (z : Str) (h1 : 0 < z.length) : ∃ c ∈ tl z, (tl z).getLast? = some c ∧ atI z.cps.toList (-1) = some c := by
  have hn : 0 < (tl z).length := by rw [← TL.len_tl]; exact h1
  have ne : tl z ≠ [] := fun e => by rw [e] at hn; exact absurd hn (by decide)
  refine ⟨(tl z).getLast ne, List.getLast_mem ne, List.getLast?_eq_getLast ne, ?_⟩
  have e : atI ((tl z).dropLast ++ [(tl z).getLast ne]) (-1) = some ((tl z).getLast ne) := atI_last _ _
  rw [List.dropLast_concat_getLast ne] at e
  exact e
theorem lit8 : ∀ y ∈ [nameSet, Str.ofString "x", Str.ofString "ax-,: '0", Str.ofString "b"], ∀ c ∈ tl y, c < 256 := by decide +kernel
section
variable {P : Program} {w : World} {K : PySem.W.Frag} {mg : Str → Option Value} {base : Heap}
def spLName : Sp := fun vs H Q _ => ∃ p : Addr, vs = [.ref p] ∧ Pot H p ∧ ∀ H' (y : Str), But p H H' → Pot H' p → Tq P8 20 y → Q (.str y) H'
theorem ok_lname {f fD : Addr} {fd fdD : FuncData} {k : Nat} (F : Fun K "_law_name" "_law_name" st_name f fd) (D_draw : Df K mg "_law_draw" sDraw ["_law_pot_here", "_law_many"] fD fdD) (m_divmod : mg "divmod" = none) (m_range : mg "range" = none) :
    FnOk P w K mg base CX0 (k + 2) f fd ["_law_pot_here"] spLName := by
  have G_draw : FnOk P w K mg base CX0 (k + 1) fD fdD ["_law_pot_here", "_law_many"] spDraw := ok_draw D_draw.F m_divmod
  refine F.ok sc_name (fun vs H Q E h => ?_) (fun cdv A outer s H vs Q E hr h => ?_)
  · obtain ⟨p, rfl, _⟩ := h
    rfl
  · obtain ⟨p, rfl, hp, q⟩ := h
    refine ⟨_, pss_cons (ps_set (i := 1) sc_name.nd rfl (.inl rfl) pe_str)
      (pss_cons (ps_set (i := 2) sc_name.nd rfl (.inl rfl) (pe_ix ix_str (pv 1) (pe_call G_draw hr (by rfl) D_draw.g D_draw.F.kp D_draw.b .nil pass0 (pa_cons (pv 0) (pa_cons pe_int pa_nil))) (fun _ _ => rfl)))
      (pss_cons (ps_for PassesOwn.never rfl (pi_range1 rfl m_range (pa_cons (pe_call G_draw hr (by rfl) D_draw.g D_draw.F.kp D_draw.b .nil pass0 (pa_cons (pv 0) (pa_cons (pe_ix ix_list (pe_lst (pa_cons pe_int (pa_cons pe_int (pa_cons pe_int pa_nil)))) (pe_call G_draw hr (by rfl) D_draw.g D_draw.F.kp D_draw.b .nil pass0 (pa_cons (pv 0) (pa_cons pe_int pa_nil))) (fun _ _ => rfl)) pa_nil))) pa_nil)) (pg_name (i := 3) sc_name.nd rfl (Or.inl rfl)) (pss_one (ps_set (i := 2) sc_name.nd rfl (.inl rfl) (pe_op op_add_str (pv 2) (pe_ix ix_str (pv 1) (pe_call G_draw hr (by rfl) D_draw.g D_draw.F.kp D_draw.b .nil pass0 (pa_cons (pv 0) (pa_cons pe_int pa_nil))) (fun _ _ => rfl))))))
      (pss_cons (ps_if (pt_cmpR op_eq (pe_ix ix_str (pv 2) (pe_un un_neg pe_int) (fun _ _ => rfl)) pe_str (nomark _)) (pss_one (ps_set (i := 2) sc_name.nd rfl (.inl rfl) (pe_op op_add_str (pe_slice sl_str (pv 2) po_none (po_some (pe_un un_neg pe_int))) pe_str))) pss_nil)
      (pss_cons (ps_if (pt_cmpR op_eq (pe_slice sl_str (pv 2) po_none (po_some pe_int)) pe_str (nomark _)) (pss_one (ps_set (i := 2) sc_name.nd rfl (.inl rfl) (pe_op op_add_str pe_str (pe_slice sl_str (pv 2) (po_some pe_int) po_none)))) pss_nil)
      (pss_one (ps_ret (pv 2))))))), ?_⟩
    have sN : nameSet.length = 37 := by decide +kernel
    have sl : sizeLine = 16777216 := sizeLine_eq
    refine ⟨_, rfl, .ref p, rfl, p, 36, rfl, hp, by decide, by decide, fun H1 d1 b1 p1 d10 d11 => ?_⟩
    obtain ⟨c1, m1, e1⟩ := at_sig nameSet d1 d10 (by rw [sN]; omega)
    refine ⟨nameSet, d1, c1, rfl, rfl, by omega, e1, ?_⟩
    have t1 : Tq P8 1 ⟨#[c1]⟩ := Tq.sign (lit8 nameSet List.mem_cons_self c1 m1)
    refine ⟨.ref p, rfl, by decide +kernel, fun l3 n3 => ?_⟩
    have p2 := p1.new (o := .lst ([(1 : Int), 4, 10].map V.int)) n3
    have nl3 := p1.ne n3
    refine ⟨.ref p, rfl, p, 3, rfl, p2, by decide, by decide, fun H3 d3 b3 p3 d30 d31 => ?_⟩
    obtain ⟨mo, mom, moe⟩ := at_ints [(1 : Int), 4, 10] d3 d30 (by show d3 < 3; exact d31)
    have hmo : 1 ≤ mo ∧ mo ≤ 10 := (by decide : ∀ y ∈ [(1 : Int), 4, 10], 1 ≤ y ∧ y ≤ 10) mo mom
    refine ⟨l3, _, d3, .int mo, rfl, rfl, SqL.of (b3 _ _ nl3.symm upd_same), moe, p, mo, rfl, p3, by omega, by omega, fun H4 d4 b4 p4 d40 d41 => ?_⟩
    have B4 : But p H H4 := ((b1.trans (But.new n3)).trans b3).trans b4
    refine ⟨d4, rfl, by omega, by omega, for_range (lo := 0) (n := d4.toNat) (fun i σ H' => But p H H' ∧ Pot H' p ∧ ∃ (y : Str) (x3 : Option V), σ = [some (.ref p), some (.str nameSet), some (.str y), x3] ∧ 0 < y.length ∧ Tq P8 (1 + i) y)
      ⟨B4, p4, _, none, rfl, (by show 0 < 1; decide), t1⟩ ?_ ?_⟩
    · rintro i σ H5 hi ⟨b5, p5, y, x3, rfl, y0, ty⟩
      refine ⟨.str y, rfl, .str nameSet, rfl, .ref p, rfl, p, 37, rfl, p5, by decide, by decide, fun H6 d6 b6 p6 d60 d61 => ?_⟩
      obtain ⟨c6, m6, e6⟩ := at_sig nameSet d6 d60 (by rw [sN]; omega)
      refine ⟨nameSet, d6, c6, rfl, rfl, by omega, e6, y, _, rfl, rfl, ?_, ?_⟩
      · have := ty.le
        show y.length + 1 ≤ _
        omega
      · refine ⟨b5.trans b6, p6, _, _, rfl, ?_, ty.app (Tq.sign (lit8 nameSet List.mem_cons_self c6 m6))⟩
        rw [Str.length_append]
        omega
    · rintro σ H5 ⟨b5, p5, y, x3, rfl, y0, ty⟩
      have ly : y.length ≤ 10 := by
        have := ty.le
        omega
      have ty10 : Tq P8 10 y := ⟨ly, ty.pl⟩
      obtain ⟨c7, m7, g7, e7⟩ := at_last y y0
      dsimp only [tSeq]
      refine ts_gen (t := tIfS _ _ _) (fun σ' H' => H' = H5 ∧ ∃ z, Tq P8 11 z ∧ σ' = [some (.ref p), some (.str nameSet), some (.str z), x3]) (fun κ kc => ?_) ?_
      · refine ⟨.str y, rfl, 1, rfl, y, -1, c7, rfl, rfl, by omega, e7, rfl, _, rfl, ite2 (fun e => ?_) (fun e => kc _ _ ⟨rfl, y, ty10.mono (by decide) (fun _ h => h), rfl⟩)⟩
        refine ⟨.str y, rfl, 1, rfl, -1, rfl, y, rfl, by omega, _, _, rfl, rfl, ?_, kc _ _ ⟨rfl, _, (ty10.cut none (some (-1))).app (m := 1) ⟨by decide +kernel, lit8 _ (by simp)⟩, rfl⟩⟩
        have := cutS_length y none (some (-1))
        have e1 : (Str.ofString "x").length = 1 := by decide +kernel
        rw [e1]
        omega
      · rintro σ' H' ⟨rfl, z, tz, rfl⟩
        have lz := tz.le
        dsimp only [tSeq]
        refine ts_gen (t := tIfS _ _ _) (fun σ' H'' => H'' = H' ∧ ∃ z, Tq P8 20 z ∧ σ' = [some (.ref p), some (.str nameSet), some (.str z), x3]) (fun κ kc => ?_) ?_
        · refine ⟨.str z, rfl, 3, rfl, z, rfl, by omega, rfl, _, rfl, ite2 (fun e => ?_) (fun e => kc _ _ ⟨rfl, z, tz.mono (by decide) (fun _ h => h), rfl⟩)⟩
          have e1 : (Str.ofString "x").length = 1 := by decide +kernel
          refine ⟨.str z, rfl, 1, rfl, z, rfl, by omega, _, _, rfl, rfl, ?_, kc _ _ ⟨rfl, _, Tq.mono (Tq.app (n := 1) (m := 11) ⟨by rw [e1]; decide, lit8 _ (by simp)⟩ (tz.cut (some 1) none)) (by decide) (fun _ h => h), rfl⟩⟩
          have := cutS_length z (some 1) none
          rw [e1]
          omega
        · rintro σ' H'' ⟨rfl, z2, tz2, rfl⟩
          exact ⟨.str z2, rfl, q _ _ b5 p5 tz2⟩
/-! ### _law_odd -/
def oddS : Str := Str.ofString "b,:="
def spOdd : Sp := fun vs H Q _ => ∃ (p : Addr) (c : Nat), vs = [.ref p, .str (sgn c)] ∧ Pot H p ∧ ∀ H' o (c2 : Nat) (ov : V) (r : Str), But p H H' → Pot H' p → H o = none → H' o = some (.tup [.str (sgn c2), ov]) → c2 < 256 → OvOk H' ov r → (∀ a, ov = .ref a → H a = none ∧ a ≠ p) → o ≠ p → Q (.ref o) H'
theorem ok_odd {f fD : Addr} {fd fdD : FuncData} {k : Nat} (F : Fun K "_law_odd" "_law_odd" st_odd f fd) (D_draw : Df K mg "_law_draw" sDraw ["_law_pot_here", "_law_many"] fD fdD) (m_divmod : mg "divmod" = none) (m_len : mg "len" = none) : FnOk P w K mg base CX0 (k + 2) f fd ["_law_pot_here", "_law_bad"] spOdd := by
  have G_draw : FnOk P w K mg base CX0 (k + 1) fD fdD ["_law_pot_here", "_law_many"] spDraw := ok_draw D_draw.F m_divmod
  refine F.ok sc_odd (fun vs H Q E h => ?_) (fun cdv A outer s H vs Q E hr h => ?_)
  · obtain ⟨p, c, rfl, _⟩ := h
    rfl
  · obtain ⟨p, c, rfl, hp, q⟩ := h
    refine ⟨_, pss_cons (ps_setLc (i := 2) (own := [("_law_sign", 3)]) (g := gName 3)  rfl sc_odd.nd rfl rfl (sw_true rfl rfl rfl (by decide +kernel)) (pi_str pe_str) (blkOk_by (N := ["_law_pot_here", "_law_bad", "_law_signs_here", "_law_sign"]) (sc := defScope st_odd) (by decide +kernel)) (fun _ _ _ _ _ => (pg_name (i := 3) sc_odd.nd rfl (Or.inl rfl))) (fun _ _ _ _ _ => pts_one (pt_cmpR op_ne (pv 3) (pv 1) (nomark _))) (fun _ _ _ _ _ => (pv 3)))
      (pss_one (ps_ret (pe_tup (pa_cons (pe_ix ix_list (pv 2) (pe_call G_draw hr (by rfl) D_draw.g D_draw.F.kp D_draw.b .nil pass0 (pa_cons (pv 0) (pa_cons (pe_callB call_len_seq (by rfl) m_len PySem.boot_len (pa_cons (pv 2) pa_nil)) pa_nil))) (fun _ _ => rfl)) (pa_cons (pe_ix ix_list (pe_lst (pa_cons pe_non (pa_cons pe_bl (pa_cons pe_int (pa_cons pe_str (pa_cons (pe_tup pa_nil) (pa_cons (pe_lst pa_nil) (pa_cons pe_dnewK pa_nil)))))))) (pe_call G_draw hr (by rfl) D_draw.g D_draw.F.kp D_draw.b .nil pass0 (pa_cons (pv 0) (pa_cons pe_int pa_nil))) (fun _ _ => rfl)) pa_nil))))), ?_⟩
    have sl : sizeLine = 16777216 := sizeLine_eq
    have e4 : tl oddS = [98, 44, 58, 61] := by decide +kernel
    refine ⟨oddS, rfl, fun D nD => ?_⟩
    refine lc_it walk_str (fun i Hc => Same H Hc ∧ Hc D = some (.lst ((((tl oddS).take i).filter fun d => !decide (d = c)).map fun d => V.str (sgn d)))) ⟨same_upd nD, upd_same⟩ (fun _ _ _ _ => True.intro) (fun i x Hc H' hi ⟨sc, eD⟩ ⟨eH, d, ec, ex⟩ => ?_) (fun Hc ⟨sc, eD⟩ => ?_)
    · subst eH ex
      have ec' : (tl oddS)[i]? = some d := by
        rw [Array.getElem?_toList]
        exact ec
      refine ⟨rfl, ?_⟩
      refine ⟨_, rfl, _, rfl, rfl, _, rfl, ?_⟩
      have et : (tl oddS).take (i + 1) = (tl oddS).take i ++ [d] := by
        rw [List.take_add_one, ec']
        rfl
      have dd : decide (V.str (sgn d) = V.str (sgn c)) = decide (d = c) := decide_eq_decide.mpr ⟨fun h => by
        have h1 := V.str.inj h
        injection h1 with h2
        injection h2 with h3
        injection h3, fun h => by rw [h]⟩
      show if (!decide (V.str (sgn d) = V.str (sgn c))) = true then _ else _
      rw [dd]
      cases hc : decide (d = c) with
      | true =>
        refine ⟨sc, ?_⟩
        rw [et, List.filter_append, List.filter_cons_of_neg (by rw [hc]; decide), List.filter_nil, List.append_nil]
        exact eD
      | false =>
        refine ⟨_, rfl, _, eD, ?_, ?_, ?_⟩
        · rw [List.length_map]
          refine Nat.lt_of_le_of_lt (List.length_filter_le _ _) ?_
          rw [List.length_take, e4]
          exact small1000 (by show min i 4 ≤ 1000; omega)
        · intro b o e
          rw [upd_ne (ne_of_none e nD)]
          exact sc b o e
        · rw [upd_same, et, List.filter_append, List.filter_cons_of_pos (by rw [hc]; rfl), List.filter_nil, List.map_append]
          rfl
    have el : oddS.cps.size = (tl oddS).length := by simp
    rw [el, List.take_length] at eD
    have nDp : D ≠ p := (hp.ne nD).symm
    have pc : Pot Hc p := by
      obtain ⟨a, b, e, h⟩ := hp
      exact ⟨a, b, sc _ _ e, h⟩
    have big : 0 < ((tl oddS).filter fun d => !decide (d = c)).length ∧ ((tl oddS).filter fun d => !decide (d = c)).length ≤ 4 := by
      refine ⟨?_, Nat.le_trans (List.length_filter_le _ _) (by rw [e4]; decide)⟩
      refine List.length_pos_iff.mpr fun z => ?_
      rw [e4] at z
      have h1 := List.filter_eq_nil_iff.mp z 98 (by simp)
      have h2 := List.filter_eq_nil_iff.mp z 44 (by simp)
      simp at h1 h2
      omega
    refine ⟨.ref D, rfl, .ref p, rfl, .ref D, rfl, D, _, rfl, .inl (SqL.of eD), p, _, rfl, pc, by rw [List.length_map]; omega, by rw [List.length_map]; omega, fun H1 d1 b1 p1 d10 d11 => ?_⟩
    have eD1 := b1 _ _ nDp eD
    obtain ⟨y1, m1, e1⟩ := at_any _ d1 d10 d11
    obtain ⟨c2, mc2, rfl⟩ := List.mem_map.mp m1
    have hc2 : c2 < 256 := by
      have := (List.mem_filter.mp mc2).1
      rw [e4] at this
      exact (by decide : ∀ d ∈ [98, 44, 58, 61], d < 256) c2 this
    have B1 : But p H H1 := (But.of_same sc).trans b1
    refine ⟨D, _, d1, .str (sgn c2), rfl, rfl, SqL.of eD1, e1, Nat.zero_le _, fun t nt => ?_⟩
    have pt : Pot (upd H1 t (.tup [])) p := p1.new nt
    have st : Same H1 (upd H1 t (.tup [])) := same_upd nt
    have et : (upd H1 t (.tup [])) t = some (.tup []) := upd_same
    have ntp : t ≠ p := (p1.ne nt).symm
    revert pt st et
    generalize upd H1 t (.tup []) = H2
    intro p2 st et
    refine ⟨Nat.zero_le _, fun l nl => ?_⟩
    have p3 : Pot (upd H2 l (.lst [])) p := p2.new nl
    have s3 : Same H2 (upd H2 l (.lst [])) := same_upd nl
    have e3 : (upd H2 l (.lst [])) l = some (.lst []) := upd_same
    have nlp : l ≠ p := (p2.ne nl).symm
    revert p3 s3 e3
    generalize upd H2 l (.lst []) = H3
    intro p3 s3 e3 dd nd
    have p4 : Pot (upd H3 dd (.dK [])) p := p3.new nd
    have s4 : Same H3 (upd H3 dd (.dK [])) := same_upd nd
    have e5 : (upd H3 dd (.dK [])) dd = some (.dK []) := upd_same
    have ndp : dd ≠ p := (p3.ne nd).symm
    revert p4 s4 e5
    generalize upd H3 dd (.dK []) = H4
    intro p4 s4 e5
    refine ⟨by show 7 ≤ sizeLine; decide, fun L nL => ?_⟩
    have p5 : Pot (upd H4 L (.lst [.non, .bl false, .int 0, .str (Str.ofString ""), .ref t, .ref l, .ref dd])) p := p4.new nL
    have s5 : Same H4 (upd H4 L (.lst [.non, .bl false, .int 0, .str (Str.ofString ""), .ref t, .ref l, .ref dd])) := same_upd nL
    have e6 : (upd H4 L (.lst [.non, .bl false, .int 0, .str (Str.ofString ""), .ref t, .ref l, .ref dd])) L = some (.lst [.non, .bl false, .int 0, .str (Str.ofString ""), .ref t, .ref l, .ref dd]) := upd_same
    have nLp : L ≠ p := (p4.ne nL).symm
    revert p5 s5 e6
    generalize upd H4 L (.lst [.non, .bl false, .int 0, .str (Str.ofString ""), .ref t, .ref l, .ref dd]) = H5
    intro p5 s5 e6
    refine ⟨.ref p, rfl, p, 7, rfl, p5, by decide, by decide, fun H6 d6 b6 p6 d60 d61 => ?_⟩
    obtain ⟨ov, mo, eo⟩ := at_any [V.non, .bl false, .int 0, .str (Str.ofString ""), .ref t, .ref l, .ref dd] d6 d60 (by show d6 < 7; exact d61)
    refine ⟨L, _, d6, ov, rfl, rfl, SqL.of (b6 _ _ nLp e6), eo, by show 2 ≤ sizeLine; decide, fun o no => ?_⟩
    have S15 : Same H1 H5 := ((st.trans s3).trans s4).trans s5
    have B6 : But p H H6 := (B1.trans (But.of_same S15)).trans b6
    have so : Same H6 (upd H6 o (.tup [.str (sgn c2), ov])) := same_upd no
    have B7 := B6.trans (But.of_same (p := p) so)
    have fresh : ∀ {a : Addr} {Hx : Hp}, But p H Hx → a ≠ p → Hx a = none → H a = none := fun {a Hx} b na e => by
      cases h : H a with
      | none => rfl
      | some u =>
        rw [b a u na h] at e
        cases e
    have nop : o ≠ p := (p6.ne no).symm
    have ft : H t = none := fresh B1 ntp nt
    have fl : H l = none := fresh (B1.trans (But.of_same st)) nlp nl
    have fd' : H dd = none := fresh (B1.trans (But.of_same (st.trans s3))) ndp nd
    have ovr : ∃ r, OvOk (upd H6 o (.tup [.str (sgn c2), ov])) ov r ∧ ∀ a, ov = .ref a → H a = none ∧ a ≠ p := by
      simp only [List.mem_cons, List.not_mem_nil, or_false] at mo
      rcases mo with rfl | rfl | rfl | rfl | rfl | rfl | rfl
      · exact ⟨_, .non, fun a z => by cases z⟩
      · exact ⟨_, .bl, fun a z => by cases z⟩
      · exact ⟨_, .int, fun a z => by cases z⟩
      · exact ⟨_, .str, fun a z => by cases z⟩
      · exact ⟨_, .tup (so _ _ (b6 _ _ ntp (s5 _ _ (s4 _ _ (s3 _ _ et))))), fun a z => by cases z; exact ⟨ft, ntp⟩⟩
      · exact ⟨_, .lst (so _ _ (b6 _ _ nlp (s5 _ _ (s4 _ _ e3)))), fun a z => by cases z; exact ⟨fl, nlp⟩⟩
      · exact ⟨_, .dct (so _ _ (b6 _ _ ndp (s5 _ _ e5))), fun a z => by cases z; exact ⟨fd', ndp⟩⟩
    obtain ⟨r, o1, o2⟩ := ovr
    exact q _ o c2 ov r B7 (p6.new no) (fresh B6 nop no) upd_same hc2 o1 o2 nop
end
end WB

set_option Elab.async false
set_option linter.all false
set_option maxRecDepth 100000
set_option maxHeartbeats 4000000
namespace WB
open PySem PySem.Spec PyProof.Rows L2 WG
open TL (tl)
abbrev st_right : Stmt := topS 44
theorem sc_right : FnScope ["_law_pot_here", "_law_makers", "_law_held", "_law_samples", "_law_name_here", "_law_found", "_law_word", "_law_at", "_law_bad", "_law_some", "_law_one", "_law_none"] ["_law_pot_here", "_law_makers", "_law_held", "_law_samples"] (defScope st_right) := ⟨rfl, rfl, rfl, by decide +kernel, rfl, by decide +kernel, by decide +kernel⟩
/-! ### all grows but the pot, which changes -/
structure EvP (p : Addr) (S : List Addr) (m : Nat) (H H' : Hp) : Prop where
  keep : ∀ b o, b ≠ p → H b = some o → (b ∉ S ∨ ∀ kvs, o ≠ .dK kvs) → ¬ isML o → H' b = some o
  ml : ∀ b N, ML H N b → ML H' (N + m) b
  kp : ∀ d ∈ S, ∀ n N, Kp H n N d → Kp H' (n + m) (N + m) d
theorem pot_ne {H : Hp} {p b : Addr} {o : HO} (pt : Pot H p) (e : H b = some o) (n : ∀ i j, o ≠ .lst [.int i, .int j]) : b ≠ p := fun z => by
  obtain ⟨i, j, e2, _⟩ := pt
  rw [z, e2] at e
  exact n i j (Option.some.inj e).symm
theorem EvP.of_ev {p : Addr} {S : List Addr} {m : Nat} {H H' : Hp} (g : Ev S m H H') : EvP p S m H H' := ⟨fun b o _ e z nl => g.keep b o e z nl, g.ml, g.kp⟩
theorem EvP.of_but {p : Addr} {S : List Addr} {H H' : Hp} (pt : Pot H p) (g : But p H H') : EvP p S 0 H H' := by
  have ml : ∀ b N, ML H N b → ML H' N b := fun b N ⟨x, xs, e, r⟩ => ⟨x, xs, g _ _ (pot_ne pt e (fun i j z => by cases z)) e, r⟩
  refine ⟨fun b o nb e _ _ => g b o nb e, ml, fun d _ n N ⟨kvs, e, l, h⟩ => ⟨kvs, g _ _ (pot_ne pt e (fun i j z => by cases z)) e, l, fun q hq => ?_⟩⟩
  obtain ⟨x, L, e1, e2⟩ := h q hq
  exact ⟨x, L, e1, ml _ _ e2⟩
theorem EvP.trans {p : Addr} {S : List Addr} {m n : Nat} {H H1 H2 : Hp} (a : EvP p S m H H1) (b : EvP p S n H1 H2) : EvP p S (m + n) H H2 :=
  ⟨fun x o nx e z nl => b.keep x o nx (a.keep x o nx e z nl) z nl, fun x N h => (b.ml x _ (a.ml x N h)).mono (by omega), fun d hd i N h => (b.kp d hd _ _ (a.kp d hd i N h)).mono (by omega) (by omega)⟩
theorem EvP.mono {p : Addr} {S : List Addr} {m m' : Nat} {H H' : Hp} (g : EvP p S m H H') (hm : m ≤ m') : EvP p S m' H H' := ⟨g.keep, fun b N h => (g.ml b N h).mono (by omega), fun d hd n N h => (g.kp d hd n N h).mono (by omega) (by omega)⟩
theorem Ev.pot {S : List Addr} {m : Nat} {H H' : Hp} {p : Addr} (g : Ev S m H H') (pt : Pot H p) : Pot H' p := by
  obtain ⟨i, j, e, r⟩ := pt
  exact ⟨i, j, g.keep _ _ e (.inr fun _ z => by cases z) (fun ⟨x, xs, z⟩ => by cases z), r⟩
theorem Ev.wide {S S' : List Addr} {m : Nat} {H H' : Hp} (g : Ev S m H H') (h : ∀ b ∈ S, b ∈ S') : Ev S' m H H' := by
  refine ⟨fun b o e z nl => g.keep b o e (z.elim (fun f => .inl fun q => f (h b q)) .inr) nl, g.ml, fun d hd n N hk => ?_⟩
  by_cases q : d ∈ S
  · exact g.kp d q n N hk
  · obtain ⟨kvs, e, l, hv⟩ := hk
    refine ⟨kvs, g.keep d _ e (.inl q) (fun ⟨x, xs, z⟩ => by cases z), by omega, fun p hp => ?_⟩
    obtain ⟨x, L, e1, e2⟩ := hv p hp
    exact ⟨x, L, e1, g.ml _ _ e2⟩
structure RgtE (H : Hp) (S : List Addr) (n N : Nat) (e : Ent) : Prop where
  ok : EntOk H n N e
  hpE : H e.hp = some (.tup [.ref e.dc, .str (sgn e.bad), .ref e.oh])
  bd : e.bad < 256
  sd : e.sg < 256
  ov : ∃ r, OvOk H e.ov r
  ovS : ∀ a, e.ov = .ref a → a ∉ S
  dS : e.dc ∈ S
  nc : ∀ c ∈ tl e.nmE, c < 256
/-- whatever changes at q alone, and grows elsewhere -/
theorem RgtE.evq {q : Addr} {S : List Addr} {m n N : Nat} {H H' : Hp} {e : Ent} (h : RgtE H S n N e) (g : EvP q S m H H') (nt : ∀ b xs, H b = some (.tup xs) → b ≠ q) (nx : ∀ b φ, H b = some (.ext φ) → b ≠ q) (nv : ∀ b, e.ov = .ref b → b ≠ q) : RgtE H' S (n + m) (N + m) e := by
  have kt : ∀ {b : Addr} {xs : List V}, H b = some (.tup xs) → H' b = some (.tup xs) := fun {b xs} z => g.keep b _ (nt b xs z) z (.inr fun _ z => by cases z) (fun ⟨x, xs, z⟩ => by cases z)
  have kx : ∀ {b : Addr} {φ : Heap → Prop}, H b = some (.ext φ) → H' b = some (.ext φ) := fun {b φ} z => g.keep b _ (nx b φ z) z (.inr fun _ z => by cases z) ext_ml
  obtain ⟨F, c1, c2, c3, h1, h2, e1, e2, e3, e4, e5⟩ := h.ok.ma
  refine ⟨⟨kt h.ok.tp, ⟨F, c1, c2, c3, h1, h2, kx e1, kx e2, kx e3, kx e4, kx e5⟩, kt h.ok.oe, kt h.ok.oh, g.kp _ h.dS _ _ h.ok.kp, h.ok.nl, h.ok.sl, h.ok.sc⟩, kt h.hpE, h.bd, h.sd, ?_, h.ovS, h.dS, h.nc⟩
  obtain ⟨r, o⟩ := h.ov
  refine ⟨r, ?_⟩
  have S' := h.ovS
  generalize e.ov = v at o S' nv
  cases o with
  | non => exact .non
  | bl => exact .bl
  | int => exact .int
  | str => exact .str
  | tup z => exact .tup (kt z)
  | lst z => exact .lst (g.keep _ _ (nv _ rfl) z (.inr fun _ z => by cases z) nil_ml)
  | dct z => exact .dct (g.keep _ _ (nv _ rfl) z (.inl (S' _ rfl)) (fun ⟨x, xs, z⟩ => by cases z))
theorem RgtE.evp {p : Addr} {S : List Addr} {m n N : Nat} {H H' : Hp} {e : Ent} (h : RgtE H S n N e) (g : EvP p S m H H') (pt : Pot H p) : RgtE H' S (n + m) (N + m) e := by
  refine h.evq g (fun b xs z => pot_ne pt z (fun i j w => by cases w)) (fun b φ z => pot_ne pt z (fun i j w => by cases w)) (fun b ev w => ?_)
  obtain ⟨r, o⟩ := h.ov
  rw [ev, w] at o
  obtain ⟨i, j, ep, _⟩ := pt
  cases o with
  | tup z => rw [ep] at z; cases z
  | lst z => rw [ep] at z; cases z
  | dct z => rw [ep] at z; cases z
/-- a dict that is none of the makers' is locked, or let go -/
theorem ev_lock {q : Addr} {S : List Addr} {H : Hp} {o u : HO} (e : H q = some o) (nS : q ∉ S) (nl : ¬ isML o) : EvP q S 0 H (upd H q u) := by
  have ml : ∀ b N, ML H N b → ML (upd H q u) N b := fun b N ⟨x, xs, eb, r⟩ => ⟨x, xs, by
    rw [upd_ne (fun z => by rw [z, e] at eb; exact nl ⟨x, xs, Option.some.inj eb⟩)]
    exact eb, r⟩
  refine ⟨fun b w nb eb _ _ => by rw [upd_ne nb]; exact eb, ml, fun d hd n N ⟨kvs, ed, l, h⟩ => ⟨kvs, by rw [upd_ne (show d ≠ q from fun z => nS (by rw [← z]; exact hd))]; exact ed, l, fun k hk => ?_⟩⟩
  obtain ⟨x, L, e1, e2⟩ := h k hk
  exact ⟨x, L, e1, ml _ _ e2⟩
theorem RgtE.lock {q : Addr} {S : List Addr} {n N : Nat} {H : Hp} {e : Ent} {kvs : List (Key × V)} {u : HO} (h : RgtE H S n N e) (eq : H q = some (.dK kvs)) (nS : q ∉ S) (nv : e.ov ≠ .ref q) : RgtE (upd H q u) S n N e :=
  h.evq (ev_lock (u := u) eq nS (fun ⟨x, xs, z⟩ => by cases z)) (fun b xs z w => by rw [w, eq] at z; cases z) (fun b φ z w => by rw [w, eq] at z; cases z) (fun b ev w => nv (by rw [ev, w]))
/-! ### looking up -/
def mapOf (f : Ent → V) (es : List Ent) : List (Key × V) := es.map fun e => (Sum.inr e.nmE, f e)
theorem val_of (f : Ent → V) : ∀ {es : List Ent} {e : Ent}, (es.map (·.nmE)).Nodup → e ∈ es → valV (mapOf f es) (Sum.inr e.nmE) = some (f e)
  | [], e, _, h => by cases h
  | a :: r, e, nd, h => by
    rw [List.map_cons, List.nodup_cons] at nd
    by_cases q : a.nmE = e.nmE
    · have ea : a = e := by
        rcases List.mem_cons.mp h with z | z
        · exact z.symm
        · exact absurd (List.mem_map.mpr ⟨e, z, q.symm⟩) nd.1
      subst ea
      exact valV_pos rfl
    · have he : e ∈ r := by
        rcases List.mem_cons.mp h with z | z
        · exact absurd (by rw [z]) q
        · exact z
      have ih := val_of f nd.2 he
      unfold valV mapOf at ih ⊢
      rw [List.map_cons, List.find?_cons_of_neg]
      · exact ih
      · simp only [decide_eq_true_eq]
        exact fun z => q (Sum.inr.inj z)
theorem val_no (f : Ent → V) {es : List Ent} {y : Str} (h : y ∉ es.map (·.nmE)) : valV (mapOf f es) (Sum.inr y) = none := by
  unfold valV mapOf
  rw [Option.map_eq_none_iff]
  refine List.find?_eq_none.mpr fun q hq => ?_
  obtain ⟨e, he, rfl⟩ := List.mem_map.mp hq
  simp only [decide_eq_true_eq]
  exact fun z => h (List.mem_map.mpr ⟨e, he, Sum.inr.inj z⟩)
theorem for_keys {d : Addr} {o : Obj} {kvs : List (Key × V)} {g : TG} {tb : TS} {D : Ends} {σ : L2.St} {H : Hp} (Pv : Nat → L2.St → Hp → Prop) (h0 : Pv 0 σ H) (hl : ∀ i σ H, i ≤ kvs.length → Pv i σ H → H d = some (.frz o (.dK kvs)))
    (hs : ∀ (i : Nat) (k : Key) (v : V) (σ : L2.St) (H : Hp), kvs[i]? = some (k, v) → Pv i σ H → g (kV k) σ H fun σ2 H2 => tb { D with nx := Pv (i + 1), ct := Pv (i + 1), bk := D.nx } σ2 H2) (hd : ∀ σ H, Pv kvs.length σ H → D.nx σ H) :
    ∃ W : Nat → Nat → L2.St → Hp → Prop, (∃ m, W 0 m σ H) ∧ ∀ i m σ H, W i m σ H →
      ((Itk d o kvs).stop i H ∧ D.nx σ H) ∨ ((Itk d o kvs).go i H ∧ ∃ N : L2.St → Hp → Prop, (∀ σ' H', N σ' H' → ∃ m', m' < m ∧ W (i + 1) m' σ' H') ∧ ∀ x H', (Itk d o kvs).yld i H x H' → g x σ H' fun σ2 H2 => tb { D with nx := N, ct := N, bk := D.nx } σ2 H2) := by
  refine ⟨fun i m σ H => m = kvs.length - i ∧ i ≤ kvs.length ∧ Pv i σ H, ⟨kvs.length, by simp, Nat.zero_le _, h0⟩, ?_⟩
  rintro i m σ H ⟨rfl, hi, p⟩
  have q := hl i σ H hi p
  by_cases hlt : i < kvs.length
  · refine .inr ⟨⟨q, hlt⟩, Pv (i + 1), fun σ' H' p' => ⟨kvs.length - (i + 1), by omega, rfl, hlt, p'⟩, fun x H' y => ?_⟩
    obtain ⟨rfl, k, v, e, rfl⟩ := y
    exact hs i k v σ _ e p
  · have e : i = kvs.length := by omega
    subst e
    exact .inl ⟨⟨q, Nat.le_refl _⟩, hd σ H p⟩
end WB

set_option Elab.async false
set_option linter.all false
set_option maxRecDepth 100000
set_option maxHeartbeats 4000000
namespace WB
open PySem PySem.Spec PyProof.Rows L2 WG
open TL (tl)
theorem passF {X : Cx} : Passes (L2.CX X.prog X.w) X (fun _ _ _ => False) := by
  intro pins σ H s e s' inv got
  obtain ⟨_, _, _, _, _, _, _, _, _, _, _, _, no⟩ := got
  exact no.elim
theorem lc_keys {d : Addr} {o : Obj} {kvs : List (Key × V)} {g : TG} {tt : TT} {te : TE} {vs : List Nat} {σ : L2.St} {H1 : Hp} {D : Addr} {Qd : Hp → Prop} (Pv : Nat → Hp → Prop) (h0 : Pv 0 (upd H1 D (.lst []))) (hl : ∀ i H, i ≤ kvs.length → Pv i H → H d = some (.frz o (.dK kvs)))
    (hs : ∀ (i : Nat) (k : Key) (v : V) (H : Hp), kvs[i]? = some (k, v) → Pv i H → g (kV k) (wipe σ vs) H fun σ2 H2 => wipe σ2 vs = wipe σ vs ∧ tt σ2 H2 fun b H3 =>
      if b = true then te σ2 H3 fun y H4 => ∃ acc, H4 D = some (.lst acc) ∧ acc.length < sizeLine ∧ Pv (i + 1) (upd H4 D (.lst (acc ++ [y]))) else Pv (i + 1) H3) (hd : ∀ H, Pv kvs.length H → Qd H) :
    ∃ W : Nat → Nat → Hp → Prop, (∃ m, W 0 m (upd H1 D (.lst []))) ∧ ∀ i m H, W i m H →
      ((Itk d o kvs).stop i H ∧ Qd H) ∨ ((Itk d o kvs).go i H ∧ ∃ Nx : Hp → Prop, (∀ H', Nx H' → ∃ m', m' < m ∧ W (i + 1) m' H') ∧ ∀ x H', (Itk d o kvs).yld i H x H' → g x (wipe σ vs) H' fun σ2 H2 => wipe σ2 vs = wipe σ vs ∧ tt σ2 H2 fun b H3 =>
        if b = true then te σ2 H3 fun y H4 => ∃ acc, H4 D = some (.lst acc) ∧ acc.length < sizeLine ∧ Nx (upd H4 D (.lst (acc ++ [y]))) else Nx H3) := by
  refine ⟨fun i m H => m = kvs.length - i ∧ i ≤ kvs.length ∧ Pv i H, ⟨kvs.length, by simp, Nat.zero_le _, h0⟩, ?_⟩
  rintro i m H ⟨rfl, hi, pv⟩
  have fr := hl i H hi pv
  by_cases lt : i < kvs.length
  · refine .inr ⟨⟨fr, lt⟩, Pv (i + 1), fun H' p' => ⟨kvs.length - (i + 1), by omega, rfl, lt, p'⟩, fun x H' y => ?_⟩
    obtain ⟨rfl, k, v, e, rfl⟩ := y
    exact hs i k v _ e pv
  · have e : i = kvs.length := by omega
    subst e
    exact .inl ⟨⟨fr, Nat.le_refl _⟩, hd H pv⟩
theorem sgR_ok : ∀ y ∈ [signs2, Str.ofString "ax-,"], 0 < y.length ∧ y.length ≤ 200 ∧ ∀ c ∈ tl y, c < 256 := by decide +kernel
section
variable {P : Program} {w : World} {K : PySem.W.Frag} {mg : Str → Option Value} {base : Heap}
def spRight (C : Addr) : Sp := fun vs H Q _ => ∃ (p x dx t hd sm : Addr) (es : List Ent) (S : List Addr) (n N : Nat), vs = [.ref p, .ref x, .ref hd, .ref sm] ∧ Pot H p ∧ H x = some (.ins C dx [(("table" : Str), .ref t)]) ∧ H t = some (.dK (kvsOf es)) ∧ H hd = some (.dK (mapOf (fun e => .ref e.hp) es)) ∧ H sm = some (.dK (mapOf (fun e => .str e.smp) es)) ∧
  t ∉ S ∧ hd ∉ S ∧ sm ∉ S ∧ t ≠ hd ∧ sm ≠ hd ∧ (es.map (·.nmE)).Nodup ∧ es.length ≤ 12 ∧ (∀ e ∈ es, RgtE H S n N e) ∧ (∀ e ∈ es, e.ov ≠ .ref hd) ∧ n ≤ 4000 ∧ N ≤ 90000 ∧ ∀ H', EvP p S 130 H H' → Pot H' p → Q (.bl true) H'
theorem ok_right {C CN CU f fD fS' fT fN fR fM fS : Addr} {fd fdD fdS' fdT fdN fdR fdM fdS : FuncData} {k : Nat} (F : Fun K "_law_right" "_law_right" st_right f fd) (D_draw : Df K mg "_law_draw" sDraw ["_law_pot_here", "_law_many"] fD fdD) (D_signs : Df K mg "_law_signs" sSigns [] fS' fdS') (D_text : Df K mg "_law_text" sText ["_law_pot_here", "_law_most", "_law_signs_here"] fT fdT)
    (D_names_right : Df K mg "_law_names_right" st_names_right ["_law_makers", "_law_due"] fN fdN) (G_names_right : FnOk P w K mg base CX0 (k + 7) fN fdN ["_law_makers", "_law_due"] (spNR C)) (D_refused : Df K mg "_law_refused" st_refused ["_law_makers", "_law_way", "_law_name_here"] fR fdR) (G_refused : FnOk P w K mg base CX0 (k + 7) fR fdR ["_law_makers", "_law_way", "_law_name_here"] (spRefused C))
    (D_made_right : Df K mg "_law_made_right" st_made_right ["_law_makers", "_law_held", "_law_name_here", "_law_word"] fM fdM) (G_made_right : GOk P w K mg base CX0 (k + 7) fM fdM ["_law_makers", "_law_held", "_law_name_here", "_law_word"] (spMR C))
    (T : ClsT K C) (mS : Meth K C "sample" fS) (GS : FnOk P w K mg base (L2.CX P w) (k + 7) fS fdS ["self", "name"] (spMSample C CN)) (bS : Binds K fdS ["self", "name"] [])
    (m_divmod : mg "divmod" = none) (m_len : mg "len" = none) (m_range : mg "range" = none) (m_sorted : mg "sorted" = none) (m_isinstance : mg "isinstance" = none) (m_str : mg "str" = none) (m_all : mg "all" = none) :
    GOk P w K mg base CX0 (k + 8) f fd ["_law_pot_here", "_law_makers", "_law_held", "_law_samples"] (spRight C) := by
  have G_draw : FnOk P w K mg base CX0 (k + 7) fD fdD ["_law_pot_here", "_law_many"] spDraw := ok_draw D_draw.F m_divmod
  have G_signs : FnOk P w K mg base CX0 (k + 7) fS' fdS' [] spSigns := ok_signs D_signs.F
  have G_text : FnOk P w K mg base CX0 (k + 7) fT fdT ["_law_pot_here", "_law_most", "_law_signs_here"] spText := ok_text D_text.F D_draw m_divmod m_len m_range
  refine gfun_ok F sc_right (fun vs H Q E h => ?_) (fun cdv A outer s H vs Q E hgd hr h => ?_)
  · obtain ⟨p, x, dx, t, hd, sm, es, S, n, N, rfl, _⟩ := h
    rfl
  · obtain ⟨p, x, dx, t, hd, sm, es, S, n, N, rfl, hp, ex, et, ehd, esm, tS, hS, sS, nth, nsh, nod, les, re, nov, hn, hN, q⟩ := h
    have hu := Nat.lt_of_le_of_lt (Nat.add_le_add_left (show 1 ≤ 64 by decide) _) hr.units
    refine ⟨_, PSs.nox ((pss_cons (ps_if (pt_not (pt_val (pe_call G_names_right hr (by rfl) D_names_right.g D_names_right.F.kp D_names_right.b .nil pass0 (pa_cons (pv 1) (pa_cons (pe_callB (call_sortedD rfl) (by rfl) m_sorted (by decide +kernel) (pa_cons (pv 2) pa_nil)) pa_nil))))) (pss_one (ps_ret pe_bl)) pss_nil)
      (pss_cons (ps_lock (ps_for PassesOwn.never rfl (pi_keys (pv 2)) (pg_name (i := 4) sc_right.nd rfl (Or.inl rfl)) (pss_cons (ps_set (i := 5) sc_right.nd rfl (.inl rfl) (pe_meth (pv 1) T.cl mS GS hr bS .nil passF (pa_cons (pv 4) pa_nil)))
      (pss_cons (ps_if (PW.pt (pw_or (pt_not (pt_val (pe_callB call_isi (by rfl) m_isinstance (by decide +kernel) (pa_cons (pv 5) (pa_cons (pe_bltn (v := .ty "str") (by rfl) m_str (by decide +kernel) rfl) pa_nil))))) (pw_or1 (pt_cmpR op_ne (pv 5) (pe_dget hu (pv 3) (pv 4) (fun _ _ => rfl)) (nomark _))))) (pss_one (ps_ret pe_bl)) pss_nil)
      (pss_cons (ps_set (i := 6) sc_right.nd rfl (.inl rfl) (pe_call G_text hr (by rfl) D_text.g D_text.F.kp D_text.b .nil pass0 (pa_cons (pv 0) (pa_cons (pe_ix ix_list (pe_lst (pa_cons pe_int (pa_cons pe_int pa_nil))) (pe_call G_draw hr (by rfl) D_draw.g D_draw.F.kp D_draw.b .nil pass0 (pa_cons (pv 0) (pa_cons pe_int pa_nil))) (fun _ _ => rfl)) (pa_cons (pe_ix ix_list (pe_lst (pa_cons (pe_call0 G_signs hr (by rfl) D_signs.g D_signs.F.kp D_signs.b .nil pass0) (pa_cons pe_str pa_nil))) (pe_call G_draw hr (by rfl) D_draw.g D_draw.F.kp D_draw.b .nil pass0 (pa_cons (pv 0) (pa_cons pe_int pa_nil))) (fun _ _ => rfl)) pa_nil)))))
      (pss_cons (ps_set (i := 7) sc_right.nd rfl (.inl rfl) (pe_call G_draw hr (by rfl) D_draw.g D_draw.F.kp D_draw.b .nil pass0 (pa_cons (pv 0) (pa_cons (pe_op op_add (pe_callB call_len_str (by rfl) m_len PySem.boot_len (pa_cons (pv 6) pa_nil)) pe_int) pa_nil))))
      (pss_cons (ps_set (i := 8) sc_right.nd rfl (.inl rfl) (pe_ix ix_tup (pe_dget hu (pv 2) (pv 4) (fun _ _ => rfl)) pe_int (fun _ _ => rfl)))
      (pss_cons (ps_set (i := 9) sc_right.nd rfl (.inl rfl) (pe_lst (pa_cons (pv 6) (pa_cons (pe_op op_add_str (pe_op op_add_str (pe_slice sl_str (pv 6) po_none (po_some (pv 7))) (pv 8)) (pe_slice sl_str (pv 6) (po_some (pv 7)) po_none)) (pa_cons (pe_op op_add_str (pe_op op_add_str (pe_op op_add_str (pv 8) (pe_slice sl_str (pv 6) po_none (po_some (pv 7)))) (pv 8)) (pe_slice sl_str (pv 6) (po_some (pv 7)) po_none)) (pa_cons (pe_op op_add_str (pv 6) (pe_ix ix_tup (pe_ix ix_tup (pe_dget hu (pv 2) (pv 4) (fun _ _ => rfl)) pe_int (fun _ _ => rfl)) pe_int (fun _ _ => rfl))) pa_nil))))))
      (pss_one (ps_for PassesOwn.never rfl (pi_list (pe_op op_cat (pv 9) (pe_lst (pa_cons (pe_dget hu (pv 3) (pv 4) (fun _ _ => rfl)) pa_nil)))) (pg_name (i := 10) sc_right.nd rfl (Or.inl rfl)) (pss_one (ps_if (pt_not (pt_val (pe_callG G_made_right hgd hr (by rfl) D_made_right.g D_made_right.F.kp D_made_right.b pass0 (pa_cons (pv 1) (pa_cons (pv 2) (pa_cons (pv 4) (pa_cons (pv 10) pa_nil))))))) (pss_one (ps_ret pe_bl)) pss_nil))))))))))))
      (pss_cons (ps_lock (ps_setLc (i := 11) (own := [("_law_name_here", 4)]) (g := gName 4)  rfl sc_right.nd rfl rfl (sw_true rfl rfl rfl (by decide +kernel)) (pi_list (pe_op op_cat (pe_lst (pa_cons pe_str (pa_cons pe_str (pa_cons pe_str pa_nil)))) (pe_lc (own := [("_law_one", 10)]) (g := gName 10) (tt := tYes) rfl sc_right.nd (pi_keys (pv 2)) (blkOk_by (N := ["_law_pot_here", "_law_makers", "_law_held", "_law_samples", "_law_name_here", "_law_found", "_law_word", "_law_at", "_law_bad", "_law_some", "_law_one", "_law_none"]) (sc := defScope st_right) (by decide +kernel)) (fun _ _ _ _ _ => (pg_name (i := 10) sc_right.nd rfl (Or.inl rfl))) (fun _ _ _ _ _ => pts_nil) (fun _ _ _ _ _ => (pe_op op_add_str (pv 10) pe_str))))) (blkOk_by (N := ["_law_pot_here", "_law_makers", "_law_held", "_law_samples", "_law_name_here", "_law_found", "_law_word", "_law_at", "_law_bad", "_law_some", "_law_one", "_law_none"]) (sc := defScope st_right) (by decide +kernel)) (fun _ _ _ _ _ => (pg_name (i := 4) sc_right.nd rfl (Or.inl rfl))) (fun _ _ _ _ _ => pts_one (pt_cmp (pc_dnotin hu (pv 4) (pv 2)))) (fun _ _ _ _ _ => (pv 4))))
      (pss_one (ps_ret (pe_callB (cr_all rfl) (by rfl) m_all (by decide +kernel) (pa_cons (pe_lc (own := [("_law_name_here", 4)]) (g := gName 4) (tt := tYes) rfl sc_right.nd (pi_list (pv 11)) (blkOk_by (N := ["_law_pot_here", "_law_makers", "_law_held", "_law_samples", "_law_name_here", "_law_found", "_law_word", "_law_at", "_law_bad", "_law_some", "_law_one", "_law_none"]) (sc := defScope st_right) (by decide +kernel)) (fun _ _ _ _ _ => (pg_name (i := 4) sc_right.nd rfl (Or.inl rfl))) (fun _ _ _ _ _ => pts_nil) (fun _ _ _ _ _ => (pe_and (pe_call G_refused hr (by rfl) D_refused.g D_refused.F.kp D_refused.b .nil pass0 (pa_cons (pv 1) (pa_cons pe_int (pa_cons (pv 4) pa_nil)))) (pe_one (pe_call G_refused hr (by rfl) D_refused.g D_refused.F.kp D_refused.b .nil pass0 (pa_cons (pv 1) (pa_cons pe_int (pa_cons (pv 4) pa_nil)))))))) pa_nil)))))))), ?_⟩
    have sl : sizeLine = 16777216 := sizeLine_eq
    have fsts : (mapOf (fun e => V.ref e.hp) es).map (·.1) = (es.map (·.nmE)).map Sum.inr := by
      unfold mapOf
      rw [List.map_map, List.map_map]
      rfl
    refine ⟨.ref x, rfl, .ref hd, rfl, hd, _, es.map (·.nmE), rfl, .inl ehd, fsts, by rw [List.length_map]; omega, fun ys r hpm hsr nr => ?_⟩
    have s0 : Same H (upd H r (.lst (ys.map V.str))) := same_upd nr
    have hstr : ∀ y ∈ ys, PyData.strOk y = true := fun y hy => by
      obtain ⟨e, he, rfl⟩ := List.mem_map.mp (hpm.mem_iff.mp hy)
      exact strOk_of (re e he).nc
    refine ⟨x, dx, t, r, es, ys, rfl, s0 _ _ ex, s0 _ _ et, by omega, upd_same, hpm, hsr, hstr, fun H1 s1 => ⟨_, rfl, ?_⟩⟩
    have S1 : Same H H1 := s0.trans s1
    have p1 : Pot H1 p := (Ev.of_same (S := S) S1 0).pot hp
    have re1 : ∀ e ∈ es, RgtE H1 S n N e := fun e h => (re e h).evp (EvP.of_ev (p := p) (Ev.of_same S1 0)) hp
    have ehd1 := S1 _ _ ehd
    refine ⟨hd, _, ehd1, trivial, fun od => ?_⟩
    have nhp : hd ≠ p := pot_ne p1 ehd1 (fun i j z => by cases z)
    have eL : (upd H1 hd (.frz od (.dK (mapOf (fun e => V.ref e.hp) es)))) hd = some (.frz od (.dK (mapOf (fun e => V.ref e.hp) es))) := upd_same
    have bL : But hd H1 (upd H1 hd (.frz od (.dK (mapOf (fun e => V.ref e.hp) es)))) := But.upd _ _ _
    have reL : ∀ e ∈ es, RgtE (upd H1 hd (.frz od (.dK (mapOf (fun e => V.ref e.hp) es)))) S n N e := fun e h => (re1 e h).lock ehd1 hS (nov e h)
    have gL : EvP hd S 0 H1 (upd H1 hd (.frz od (.dK (mapOf (fun e => V.ref e.hp) es)))) := ev_lock ehd1 hS (fun ⟨_, _, z⟩ => by cases z)
    revert eL bL reL gL
    generalize upd H1 hd (.frz od (.dK (mapOf (fun e => V.ref e.hp) es))) = HL
    intro eL bL reL gL
    have pL : Pot HL p := by
      obtain ⟨i, j, e, r⟩ := p1
      exact ⟨i, j, bL _ _ nhp.symm e, r⟩
    have exL : HL x = some (.ins C dx [(("table" : Str), .ref t)]) := bL _ _ (fun z => by have w := S1 _ _ ex; rw [z, ehd1] at w; cases w) (S1 _ _ ex)
    have etL : HL t = some (.dK (kvsOf es)) := bL _ _ nth (S1 _ _ et)
    have esL : HL sm = some (.dK (mapOf (fun e => V.str e.smp) es)) := bL _ _ nsh (S1 _ _ esm)
    refine ⟨.ref hd, rfl, hd, od, rfl, .inl ⟨_, eL, for_keys (fun i σ H' => H' hd = some (.frz od (.dK (mapOf (fun e => V.ref e.hp) es))) ∧ Pot H' p ∧ EvP p S (10 * i) HL H' ∧ ∃ x4 x5 x6 x7 x8 x9 x10, σ = [some (.ref p), some (.ref x), some (.ref hd), some (.ref sm), x4, x5, x6, x7, x8, x9, x10, none])
      ⟨eL, pL, EvP.of_ev (Ev.of_same (Same.refl _) 0), none, none, none, none, none, none, none, rfl⟩ (fun i σ H' _ h => h.1) ?_ ?_⟩⟩
    · rintro i kk v σ Hc hkv ⟨c1, pc, gc, x4, x5, x6, x7, x8, x9, x10, rfl⟩
      obtain ⟨e, ee, rfl, rfl⟩ : ∃ e, es[i]? = some e ∧ kk = Sum.inr e.nmE ∧ v = .ref e.hp := by
        unfold mapOf at hkv
        rw [List.getElem?_map] at hkv
        obtain ⟨e, h1, h2⟩ := Option.map_eq_some_iff.mp hkv
        exact ⟨e, h1, (Prod.mk.inj h2).1.symm, (Prod.mk.inj h2).2.symm⟩
      have hil : i < es.length := (List.getElem?_eq_some_iff.mp ee).1
      have hem : e ∈ es := List.mem_of_getElem? ee
      have nml : ∀ {u : HO}, (∀ xs, u ≠ .lst xs) → ¬ isML u := fun {u} h ⟨a, b, z⟩ => h _ z
      -- all that is held, at any later heap
      have at_ : ∀ {Hx : Hp} {m : Nat}, EvP p S m HL Hx → RgtE Hx S (n + m) (N + m) e ∧ Hx x = some (.ins C dx [(("table" : Str), .ref t)]) ∧ Hx t = some (.dK (kvsOf es)) ∧ DGet Hx sm (.str e.nmE) (some (.str e.smp)) ∧ DGet Hx hd (.str e.nmE) (some (.ref e.hp)) ∧ Hx hd = some (.frz od (.dK (mapOf (fun e => V.ref e.hp) es))) := fun {Hx m} g => by
        have e1 := g.keep x _ (pot_ne pL exL (fun i j z => by cases z)) exL (.inr fun _ z => by cases z) (nml fun _ z => by cases z)
        have e2 := g.keep t _ (pot_ne pL etL (fun i j z => by cases z)) etL (.inl tS) (nml fun _ z => by cases z)
        have e3 := g.keep sm _ (pot_ne pL esL (fun i j z => by cases z)) esL (.inl sS) (nml fun _ z => by cases z)
        have e4 := g.keep hd _ nhp eL (.inl hS) (nml fun _ z => by cases z)
        refine ⟨(reL e hem).evp g pL, e1, e2, ?_, .inl ⟨_, Sum.inr e.nmE, .inr ⟨od, e4⟩, rfl, (val_of (fun e => V.ref e.hp) nod hem).symm⟩, e4⟩
        have k := DGet.k (k := Sum.inr e.nmE) e3
        rw [val_of (fun e => V.str e.smp) nod hem] at k
        exact k
      obtain ⟨rc, exC, etC, gsC, ghC, _⟩ := at_ gc
      have hv := val_of (fun e => V.ref e.tp) nod hem
      refine ⟨.ref x, rfl, x, dx, _, rfl, exC, rfl, .str e.nmE, rfl, x, dx, t, es, e.nmE, rfl, exC, etC, fun v hv' => ?_, fun hv' => by rw [show valV (kvsOf es) (Sum.inr e.nmE) = some (.ref e.tp) from hv] at hv'; cases hv'⟩
      have hv2 : v = .ref e.tp := by
        rw [show valV (kvsOf es) (Sum.inr e.nmE) = some (.ref e.tp) from hv] at hv'
        exact (Option.some.inj hv').symm
      refine ⟨e.tp, e.fn, e.smp, hv2, rc.ok.tp, ?_⟩
      refine ⟨.str e.smp, rfl, .str e.smp, _, _, _, true, rfl, ClsV.ty "str", TyX.base (TyOf.str _), kit_ty (by decide +kernel), _, rfl, ?_⟩
      refine ⟨.str e.smp, rfl, .ref sm, rfl, .str e.nmE, rfl, sm, .str e.smp, rfl, gsC, rfl, _, rfl, ?_⟩
      rw [decide_eq_true rfl]
      refine ⟨.ref p, rfl, by decide +kernel, fun l1 n1 => ?_⟩
      have p2 := pc.new (o := .lst ([(3 : Int), 57].map V.int)) n1
      have nl1 := pc.ne n1
      refine ⟨.ref p, rfl, p, 2, rfl, p2, by decide, by decide, fun H2 d2 b2 p2' d20 d21 => ?_⟩
      obtain ⟨mo, mom, moe⟩ := at_ints [(3 : Int), 57] d2 d20 (by show d2 < 2; exact d21)
      have hmo : 0 ≤ mo ∧ mo ≤ 57 := (by decide : ∀ y ∈ [(3 : Int), 57], 0 ≤ y ∧ y ≤ 57) mo mom
      refine ⟨l1, _, d2, .int mo, rfl, rfl, SqL.of (b2 _ _ nl1.symm upd_same), moe, rfl, by show 2 ≤ sizeLine; decide, fun l3 n3 => ?_⟩
      have p3 := p2'.new (o := .lst ([signs2, Str.ofString "ax-,"].map V.str)) n3
      have nl3 := p2'.ne n3
      refine ⟨.ref p, rfl, p, 2, rfl, p3, by decide, by decide, fun H4 d4 b4 p4 d40 d41 => ?_⟩
      obtain ⟨sg, sgm, sge⟩ := at_strs [signs2, Str.ofString "ax-,"] d4 d40 (by show d4 < 2; exact d41)
      obtain ⟨z0, z1, z2⟩ := sgR_ok sg sgm
      refine ⟨l3, _, d4, .str sg, rfl, rfl, SqL.of (b4 _ _ nl3.symm upd_same), sge, p, mo, sg, rfl, p4, hmo.1, by omega, z0, z1, fun H5 y b5 p5 ty => ?_⟩
      have ty5 : Tq P8 57 y := ty.mono (by omega) z2
      have ly := ty5.le
      have B5 : But p Hc H5 := ((((But.new n1).trans b2).trans (But.new n3)).trans b4).trans b5
      have g5 : EvP p S (10 * i) HL H5 := gc.trans (EvP.of_but pc B5)
      refine ⟨.ref p, rfl, .str y, rfl, y, rfl, by omega, _, 1, rfl, rfl, p, _, rfl, p5, by omega, by omega, fun H6 d6 b6 p6 d60 d61 => ?_⟩
      have g6 : EvP p S (10 * i) HL H6 := g5.trans (EvP.of_but p5 b6)
      obtain ⟨r6, ex6, et6, gs6, gh6, _⟩ := at_ g6
      refine ⟨.ref hd, rfl, .str e.nmE, rfl, hd, .ref e.hp, rfl, gh6, e.hp, _, 1, .str (sgn e.bad), rfl, rfl, SqT.of r6.hpE, rfl, ?_⟩
      have lb : (sgn e.bad).length = 1 := rfl
      have lg : (sgn e.sg).length = 1 := rfl
      have c1' := cutS_length y none (some d6)
      have c2' := cutS_length y (some d6) none
      refine ⟨.str y, rfl, .str y, rfl, .int d6, rfl, d6, rfl, y, rfl, by omega, .str (sgn e.bad), rfl, _, _, rfl, rfl, by omega, .str y, rfl, .int d6, rfl, d6, rfl, y, rfl, by omega, _, _, rfl, rfl, by rw [Str.length_append]; omega,
        .str (sgn e.bad), rfl, .str y, rfl, .int d6, rfl, d6, rfl, y, rfl, by omega, _, _, rfl, rfl, by omega, .str (sgn e.bad), rfl, _, _, rfl, rfl, by rw [Str.length_append]; omega, .str y, rfl, .int d6, rfl, d6, rfl, y, rfl, by omega, _, _, rfl, rfl, by rw [Str.length_append, Str.length_append]; omega,
        .str y, rfl, .ref hd, rfl, .str e.nmE, rfl, hd, .ref e.hp, rfl, gh6, e.hp, _, 2, .ref e.oh, rfl, rfl, SqT.of r6.hpE, rfl, e.oh, _, 0, .str (sgn e.sg), rfl, rfl, SqT.of r6.ok.oh, rfl, _, _, rfl, rfl, by omega, by show 4 ≤ sizeLine; decide, fun L nL => ?_⟩
      let t2 : Str := cutS y none (some d6) ++ sgn e.bad ++ cutS y (some d6) none
      let t3 : Str := sgn e.bad ++ cutS y none (some d6) ++ sgn e.bad ++ cutS y (some d6) none
      let t4 : Str := y ++ sgn e.sg
      have wok : ∀ z ∈ [y, t2, t3, t4, e.smp], z.length ≤ 200 ∧ ∀ c ∈ tl z, c < 256 := by
        have tb : Tq P8 1 (sgn e.bad) := Tq.sign r6.bd
        have tg : Tq P8 1 (sgn e.sg) := Tq.sign r6.sd
        have ta := ty5.cut none (some d6)
        have tc := ty5.cut (some d6) none
        have q2 : Tq P8 (57 + 1 + 57) t2 := (ta.app tb).app tc
        have q3 : Tq P8 (1 + 57 + 1 + 57) t3 := ((tb.app ta).app tb).app tc
        have q4 : Tq P8 (57 + 1) t4 := ty5.app tg
        intro z hz
        simp only [List.mem_cons, List.not_mem_nil, or_false] at hz
        rcases hz with rfl | rfl | rfl | rfl | rfl
        · exact ⟨by omega, ty5.pl⟩
        · exact ⟨Nat.le_trans q2.le (by decide), q2.pl⟩
        · exact ⟨Nat.le_trans q3.le (by decide), q3.pl⟩
        · exact ⟨Nat.le_trans q4.le (by decide), q4.pl⟩
        · exact ⟨Nat.le_trans r6.ok.sl (by decide), r6.ok.sc⟩
      have s7 : Same H6 (upd H6 L (.lst [V.str y, V.str (cutS y none (some d6) ++ sgn e.bad ++ cutS y (some d6) none), V.str (sgn e.bad ++ cutS y none (some d6) ++ sgn e.bad ++ cutS y (some d6) none), V.str (y ++ sgn e.sg)])) := same_upd nL
      have e7 : (upd H6 L (.lst [V.str y, V.str (cutS y none (some d6) ++ sgn e.bad ++ cutS y (some d6) none), V.str (sgn e.bad ++ cutS y none (some d6) ++ sgn e.bad ++ cutS y (some d6) none), V.str (y ++ sgn e.sg)])) L = some (.lst [V.str y, V.str (cutS y none (some d6) ++ sgn e.bad ++ cutS y (some d6) none), V.str (sgn e.bad ++ cutS y none (some d6) ++ sgn e.bad ++ cutS y (some d6) none), V.str (y ++ sgn e.sg)]) := upd_same
      revert s7 e7
      generalize upd H6 L (.lst [V.str y, V.str (cutS y none (some d6) ++ sgn e.bad ++ cutS y (some d6) none), V.str (sgn e.bad ++ cutS y none (some d6) ++ sgn e.bad ++ cutS y (some d6) none), V.str (y ++ sgn e.sg)]) = H7
      intro s7 e7
      have g7 : EvP p S (10 * i) HL H7 := g6.trans (EvP.of_ev (p := p) (Ev.of_same (S := S) s7 0))
      obtain ⟨_, _, _, gs7, _, _⟩ := at_ g7
      refine ⟨.ref L, rfl, .ref sm, rfl, .str e.nmE, rfl, sm, .str e.smp, rfl, gs7, by show 1 ≤ sizeLine; decide, fun L2 nL2 => ?_⟩
      have s8 : Same H7 (upd H7 L2 (.lst [.str e.smp])) := same_upd nL2
      have e8 : (upd H7 L2 (.lst [.str e.smp])) L2 = some (.lst [.str e.smp]) := upd_same
      revert s8 e8
      generalize upd H7 L2 (.lst [.str e.smp]) = H8
      intro s8 e8
      refine ⟨L, L2, _, _, rfl, rfl, s8 _ _ e7, e8, by show 4 + 1 ≤ sizeLine; decide, fun L3 nL3 => ?_⟩
      have s9 : Same H8 (upd H8 L3 (.lst ([V.str y, V.str (cutS y none (some d6) ++ sgn e.bad ++ cutS y (some d6) none), V.str (sgn e.bad ++ cutS y none (some d6) ++ sgn e.bad ++ cutS y (some d6) none), V.str (y ++ sgn e.sg)] ++ [V.str e.smp]))) := same_upd nL3
      have e9 : (upd H8 L3 (.lst ([V.str y, V.str (cutS y none (some d6) ++ sgn e.bad ++ cutS y (some d6) none), V.str (sgn e.bad ++ cutS y none (some d6) ++ sgn e.bad ++ cutS y (some d6) none), V.str (y ++ sgn e.sg)] ++ [V.str e.smp]))) L3 = some (.lst ([y, t2, t3, t4, e.smp].map V.str)) := upd_same
      have p8 : Pot H8 p := (Ev.of_same (S := S) (s7.trans s8) 0).pot p6
      have nL3p : L3 ≠ p := (p8.ne nL3).symm
      revert s9 e9
      generalize upd H8 L3 (.lst ([V.str y, V.str (cutS y none (some d6) ++ sgn e.bad ++ cutS y (some d6) none), V.str (sgn e.bad ++ cutS y none (some d6) ++ sgn e.bad ++ cutS y (some d6) none), V.str (y ++ sgn e.sg)] ++ [V.str e.smp])) = H9
      intro s9 e9
      have S9 : Same H6 H9 := (s7.trans s8).trans s9
      have g9 : EvP p S (10 * i) HL H9 := g6.trans (EvP.of_ev (p := p) (Ev.of_same (S := S) S9 0))
      have p9 : Pot H9 p := (Ev.of_same (S := S) S9 0).pot p6
      have nmlW : ¬ isML (.lst ([y, t2, t3, t4, e.smp].map V.str)) := fun ⟨a, xs, z⟩ => by
        have z1 := (List.cons.inj (HO.lst.inj z)).2
        cases xs with
        | nil => cases z1
        | cons b c => cases (List.cons.inj z1).1
      refine ⟨L3, rfl, ⟨_, SqL.of e9⟩, for_list (K := K) (a := L3) (xs := [y, t2, t3, t4, e.smp].map V.str) (fun j σ H' => H' L3 = some (.lst ([y, t2, t3, t4, e.smp].map V.str)) ∧ Pot H' p ∧ EvP p S (10 * i + 2 * j) HL H' ∧ ∃ y10, σ = [some (.ref p), some (.ref x), some (.ref hd), some (.ref sm), some (.str e.nmE), some (.str e.smp), some (.str y), some (.int d6), some (.str (sgn e.bad)), some (.ref L), y10, none])
        ⟨e9, p9, g9, _, rfl⟩ (fun j σ H' _ h => SqL.of h.1) ?_ ?_⟩
      · rintro j v σ Hj hj ⟨ej, pj, gj, y10, rfl⟩
        rw [List.getElem?_map] at hj
        obtain ⟨z, ez, rfl⟩ := Option.map_eq_some_iff.mp hj
        obtain ⟨hz, hzc⟩ := wok z (List.mem_of_getElem? ez)
        have hj5 : j < 5 := (List.getElem?_eq_some_iff.mp ez).1
        obtain ⟨rj, exj, etj, _, ghj, _⟩ := at_ gj
        obtain ⟨rr, ovj⟩ := rj.ov
        refine ⟨.ref x, rfl, .ref hd, rfl, .str e.nmE, rfl, .str z, rfl, x, dx, t, hd, es, e, _, _, z, rr, rfl, exj, etj, hv, rj.ok, by omega, by omega, hz, hzc, rj.bd, ghj, rj.hpE, ovj, fun Hk ev => ⟨_, rfl, ?_⟩⟩
        have evS : Ev S 2 Hj Hk := ev.wide fun b hb => by
          rw [List.mem_singleton.mp hb]
          exact rj.dS
        exact ⟨ev.keep _ _ ej (.inr fun _ z => by cases z) nmlW, evS.pot pj, gj.trans (EvP.of_ev evS), _, rfl⟩
      · rintro σ Hj ⟨ej, pj, gj, y10, rfl⟩
        have gj' : EvP p S (10 * (i + 1)) HL Hj := gj
        obtain ⟨_, _, _, _, _, hdj⟩ := at_ gj'
        exact ⟨hdj, pj, gj', _, _, _, _, _, _, _, rfl⟩
    · rintro σ Hc ⟨c1, pc, gc, x4, x5, x6, x7, x8, x9, x10, rfl⟩
      have lm : (mapOf (fun e => V.ref e.hp) es).length = es.length := by
        unfold mapOf
        rw [List.length_map]
      rw [lm] at gc
      refine ⟨c1, ?_⟩
      have bU : But hd Hc (upd Hc hd (.dK (mapOf (fun e => V.ref e.hp) es))) := But.upd _ _ _
      have ehU : (upd Hc hd (.dK (mapOf (fun e => V.ref e.hp) es))) hd = some (.dK (mapOf (fun e => V.ref e.hp) es)) := upd_same
      revert bU ehU
      generalize upd Hc hd (.dK (mapOf (fun e => V.ref e.hp) es)) = HU
      intro bU ehU
      have nmlD : ∀ {kvs : List (Key × V)}, ¬ isML (.dK kvs) := fun {kvs} ⟨a, b, z⟩ => by cases z
      have mlU : ∀ b M, ML H M b → ML HU (M + 10 * es.length) b := fun b M h => by
        have h1 := gc.ml b _ (gL.ml b _ (h.same S1))
        obtain ⟨y, xs, e, r⟩ := h1
        exact ⟨y, xs, bU _ _ (fun z => by rw [z, c1] at e; cases e) e, by omega, r.2⟩
      have gU : EvP p S (10 * es.length) H HU := by
        refine ⟨fun b o nb e z nl => ?_, mlU, fun d hd' i M h => ?_⟩
        · by_cases q : b = hd
          · rw [q] at e ⊢
            rw [ehd] at e
            rw [ehU]
            exact e
          · exact bU _ _ q (gc.keep b o nb (bL _ _ q (S1 _ _ e)) z nl)
        · obtain ⟨kvs, ek, lk, hk⟩ := gc.kp d hd' _ _ (gL.kp d hd' _ _ (h.same S1))
          refine ⟨kvs, bU _ _ (fun z => hS (by rw [← z]; exact hd')) ek, by omega, fun k hk' => ?_⟩
          obtain ⟨y, M2, e1, w1, xs, e2, r2⟩ := hk k hk'
          exact ⟨y, M2, e1, w1, xs, bU _ _ (fun z => by rw [z, c1] at e2; cases e2) e2, by omega, r2.2⟩
      have pU : Pot HU p := by
        obtain ⟨i, j, e, r⟩ := pc
        exact ⟨i, j, bU _ _ nhp.symm e, r⟩
      have exU : HU x = some (.ins C dx [(("table" : Str), .ref t)]) := gU.keep x _ (pot_ne hp ex (fun i j z => by cases z)) ex (.inr fun _ z => by cases z) (fun ⟨a, b, z⟩ => by cases z)
      have etU : HU t = some (.dK (kvsOf es)) := gU.keep t _ (pot_ne hp et (fun i j z => by cases z)) et (.inl tS) nmlD
      refine ⟨hd, _, ehU, trivial, fun od2 => ?_⟩
      have bV : But hd HU (upd HU hd (.frz od2 (.dK (mapOf (fun e => V.ref e.hp) es)))) := But.upd _ _ _
      have eV : (upd HU hd (.frz od2 (.dK (mapOf (fun e => V.ref e.hp) es)))) hd = some (.frz od2 (.dK (mapOf (fun e => V.ref e.hp) es))) := upd_same
      revert bV eV
      generalize upd HU hd (.frz od2 (.dK (mapOf (fun e => V.ref e.hp) es))) = HV
      intro bV eV
      refine ⟨by show 3 ≤ sizeLine; decide, fun l1 n1 => ?_⟩
      have s1' : Same HV (upd HV l1 (.lst [V.str (Str.ofString "abcdefghijk"), V.str (Str.ofString ""), V.str (Str.ofString "Zz")])) := same_upd n1
      have e1' : (upd HV l1 (.lst [V.str (Str.ofString "abcdefghijk"), V.str (Str.ofString ""), V.str (Str.ofString "Zz")])) l1 = some (.lst [V.str (Str.ofString "abcdefghijk"), V.str (Str.ofString ""), V.str (Str.ofString "Zz")]) := upd_same
      revert s1' e1'
      generalize upd HV l1 (.lst [V.str (Str.ofString "abcdefghijk"), V.str (Str.ofString ""), V.str (Str.ofString "Zz")]) = HW
      intro sW eW
      refine ⟨.ref hd, rfl, hd, od2, rfl, .inl ⟨_, sW _ _ eV, fun D1 nD1 => ?_⟩⟩
      refine lc_keys (fun i Hx => Same HW Hx ∧ ∃ us : List Str, Hx D1 = some (.lst (us.map V.str)) ∧ us.length = i) ⟨same_upd nD1, [], upd_same, rfl⟩ (fun i Hx _ h => h.1 _ _ (sW _ _ eV)) (fun i k v Hx hkv ⟨sx, us, eu, lu⟩ => ?_) (fun Hx ⟨sx, us, eu, lu⟩ => ?_)
      · obtain ⟨e, ee, rfl, rfl⟩ : ∃ e, es[i]? = some e ∧ k = Sum.inr e.nmE ∧ v = .ref e.hp := by
          unfold mapOf at hkv
          rw [List.getElem?_map] at hkv
          obtain ⟨e, h1, h2⟩ := Option.map_eq_some_iff.mp hkv
          exact ⟨e, h1, (Prod.mk.inj h2).1.symm, (Prod.mk.inj h2).2.symm⟩
        have nle := (re e (List.mem_of_getElem? ee)).ok.nl
        have lx : (Str.ofString "x").length = 1 := by decide +kernel
        have hil : i < es.length := (List.getElem?_eq_some_iff.mp ee).1
        refine ⟨rfl, .str e.nmE, rfl, _, _, rfl, rfl, by rw [lx]; omega, _, eu, by rw [List.length_map, lu]; omega, fun b o q => ?_, us ++ [e.nmE ++ Str.ofString "x"], ?_, by rw [List.length_append, lu]; rfl⟩
        · rw [upd_ne (ne_of_none q nD1)]
          exact sx b o q
        · rw [upd_same, List.map_append]
          rfl
      rw [lm] at lu
      refine ⟨l1, D1, _, _, rfl, rfl, sx _ _ eW, eu, by rw [List.length_map, lu]; show 3 + _ ≤ _; omega, fun l3 n3 => ?_⟩
      have e3' : (upd Hx l3 (.lst ([V.str (Str.ofString "abcdefghijk"), V.str (Str.ofString ""), V.str (Str.ofString "Zz")] ++ us.map V.str))) l3 = some (.lst ((([Str.ofString "abcdefghijk", Str.ofString "", Str.ofString "Zz"] ++ us).map V.str))) := by
        rw [upd_same, List.map_append]
        rfl
      have s3' : Same Hx (upd Hx l3 (.lst ([V.str (Str.ofString "abcdefghijk"), V.str (Str.ofString ""), V.str (Str.ofString "Zz")] ++ us.map V.str))) := same_upd n3
      have lw : ([Str.ofString "abcdefghijk", Str.ofString "", Str.ofString "Zz"] ++ us).length ≤ 20 := by
        rw [List.length_append, lu]
        show 3 + _ ≤ 20
        omega
      revert e3' s3' lw
      generalize upd Hx l3 (.lst ([V.str (Str.ofString "abcdefghijk"), V.str (Str.ofString ""), V.str (Str.ofString "Zz")] ++ us.map V.str)) = HX
      generalize [Str.ofString "abcdefghijk", Str.ofString "", Str.ofString "Zz"] ++ us = ws
      intro eX sX lw
      have SX : Same HV HX := (sW.trans sx).trans sX
      refine ⟨l3, rfl, ⟨_, SqL.of eX⟩, fun D nD => ?_⟩
      refine lc_list (K := K) (a := l3) (xs := ws.map V.str) (fun i Hy => Same HX Hy ∧ ∃ ks : List Str, Hy D = some (.lst (ks.map V.str)) ∧ ks.length ≤ i ∧ ∀ k ∈ ks, k ∉ es.map (·.nmE)) ⟨same_upd nD, [], upd_same, Nat.le_refl _, (fun k h => by cases h)⟩ (fun i Hy _ h => SqL.of (h.1 _ _ eX)) (fun i v Hy hv ⟨sy, ks, ek, lk, nk⟩ => ?_) (fun Hy ⟨sy, ks, ek, lk, nk⟩ => ?_)
      · have hi : i < ws.length := by
          rcases List.getElem?_eq_some_iff.mp hv with ⟨h, _⟩
          rw [List.length_map] at h
          exact h
        rw [List.getElem?_map] at hv
        obtain ⟨u, eu', rfl⟩ := Option.map_eq_some_iff.mp hv
        refine ⟨rfl, .str u, rfl, .ref hd, rfl, hd, valV (mapOf (fun e => V.ref e.hp) es) (Sum.inr u), rfl, .inl ⟨_, Sum.inr u, .inr ⟨od2, sy _ _ (SX _ _ eV)⟩, rfl, rfl⟩, _, rfl, ?_⟩
        cases hval : valV (mapOf (fun e => V.ref e.hp) es) (Sum.inr u) with
        | some w' => exact ⟨sy, ks, ek, by omega, nk⟩
        | none =>
          have nu : u ∉ es.map (·.nmE) := fun hm => by
            obtain ⟨e, he, rfl⟩ := List.mem_map.mp hm
            rw [val_of (fun e => V.ref e.hp) nod he] at hval
            cases hval
          refine ⟨.str u, rfl, _, ek, by rw [List.length_map]; omega, fun b o q => ?_, ks ++ [u], ?_, by rw [List.length_append]; show _ + 1 ≤ _; omega, fun k hk => ?_⟩
          · rw [upd_ne (ne_of_none q nD)]
            exact sy b o q
          · rw [upd_same, List.map_append]
            rfl
          · rcases List.mem_append.mp hk with h | h
            · exact nk k h
            · rw [List.mem_singleton.mp h]
              exact nu
      have lk' : ks.length ≤ 20 := by
        rw [List.length_map] at lk
        omega
      have SY : Same HV Hy := SX.trans sy
      refine ⟨SY _ _ eV, ?_⟩
      have bZ : But hd Hy (upd Hy hd (.dK (mapOf (fun e => V.ref e.hp) es))) := But.upd _ _ _
      have ehZ : (upd Hy hd (.dK (mapOf (fun e => V.ref e.hp) es))) hd = some (.dK (mapOf (fun e => V.ref e.hp) es)) := upd_same
      have nDh : D ≠ hd := fun z => by
        have w := SY _ _ eV
        rw [← z, ek] at w
        cases w
      revert bZ ehZ
      generalize upd Hy hd (.dK (mapOf (fun e => V.ref e.hp) es)) = HZ
      intro bZ ehZ
      have ekZ := bZ _ _ nDh ek
      have SZ : Same HU HZ := fun b o e => by
        by_cases q : b = hd
        · rw [q] at e ⊢
          rw [ehU] at e
          rw [ehZ]
          exact e
        · exact bZ _ _ q (SY _ _ (bV _ _ q e))
      have exZ := SZ _ _ exU
      have etZ := SZ _ _ etU
      refine ⟨.ref D, rfl, D, rfl, ⟨_, SqL.of ekZ⟩, fun D2 nD2 => ?_⟩
      refine lc_list (K := K) (a := D) (xs := ks.map V.str) (fun i Ht => Same HZ Ht ∧ Ht D2 = some (.lst ((List.replicate i true).map V.bl))) ⟨same_upd nD2, upd_same⟩ (fun i Ht _ h => SqL.of (h.1 _ _ ekZ)) (fun i v Ht hv ⟨st, eD⟩ => ?_) (fun Ht ⟨st, eD⟩ => ?_)
      · have hi : i < ks.length := by
          rcases List.getElem?_eq_some_iff.mp hv with ⟨h, _⟩
          rw [List.length_map] at h
          exact h
        rw [List.getElem?_map] at hv
        obtain ⟨u, eu', rfl⟩ := Option.map_eq_some_iff.mp hv
        have nu := val_no (fun e => V.ref e.tp) (nk u (List.mem_of_getElem? eu'))
        refine ⟨rfl, .ref x, rfl, .str u, rfl, x, dx, t, es, u, 0, rfl, st _ _ exZ, st _ _ etZ, nu, fun Ha sa => ⟨_, rfl, ?_⟩⟩
        refine ⟨.ref x, rfl, .str u, rfl, x, dx, t, es, u, 1, rfl, sa _ _ (st _ _ exZ), sa _ _ (st _ _ etZ), nu, fun Hb sb => ?_⟩
        refine ⟨_, sb _ _ (sa _ _ eD), ?_, ?_, ?_⟩
        · rw [List.length_map, List.length_replicate]
          exact small1000 (by omega)
        · intro b o' q
          rw [upd_ne (ne_of_none q nD2)]
          exact sb _ _ (sa _ _ (st b o' q))
        · rw [upd_same, List.replicate_succ', List.map_append]
          rfl
      refine ⟨D2, _, rfl, SqL.of eD, ?_⟩
      rw [show (List.replicate (ks.map V.str).length true).all id = true from by simp]
      have SE : Same HU Ht := SZ.trans st
      exact q _ ((gU.trans (EvP.of_ev (Ev.of_same SE 0))).mono (by omega)) ((Ev.of_same (S := S) SE 0).pot pU)
end
end WB

set_option Elab.async false
set_option linter.all false
set_option maxRecDepth 100000
set_option maxHeartbeats 4000000
namespace WB
open PySem PySem.Spec PyProof.Rows L2 WG
open TL (tl)
/-! ### a local name whose very text is known -/
/-- the local name y holds a text of the one sign c, given out before -/
def Kt (X : Cx) (y : Str) (c : Nat) (s : Shared) : Prop := ∃ (m : Str → Option Value) (t : Tok), s.heap.Ns X.env.locals m ∧ m y = some (.str (sgn c) t) ∧ 1 ≤ t ∧ t < s.toks
theorem Kt.keep {X : Cx} {y : Str} {c : Nat} {s s' : Shared} (h : Kt X y c s) (k : ∀ o, s.heap.get? X.env.locals = some o → ∃ sl, s'.heap.get? X.env.locals = some { o with slots := sl }) (l : s.toks ≤ s'.toks) : Kt X y c s' := by
  obtain ⟨m, t, ⟨o, es, ep, e1, e2, e3⟩, h2, h3, h4⟩ := h
  obtain ⟨sl, e⟩ := k o e1
  exact ⟨m, t, ⟨_, es, ep, e, e2, e3⟩, h2, h3, Nat.lt_of_lt_of_le h4 l⟩
theorem Kt.tok {X : Cx} {y : Str} {c : Nat} {s : Shared} (h : Kt X y c s) {n : Nat} (l : s.toks ≤ n) : Kt X y c { s with toks := n } := h.keep (fun o e => ⟨o.slots, e⟩) l
def PEK (X : Cx) (y : Str) (e : Expr) (t : TE) : Prop := ∀ (pins : List (Addr × Obj)) (s : Shared) (σ : L2.St) (H : Hp) (Q : VK) (c : Nat), Inv X pins σ H s → Kt X y c s → t σ H Q → wpAny (model X.prog X.w) X.A (eval e X.env) (fun u s' => EP X pins σ Q u s' ∧ Kt X y c s') X.xe s
def PAK (X : Cx) (y : Str) (es : List Expr) (t : TA) : Prop := ∀ (pos : Pos) (pins : List (Addr × Obj)) (s : Shared) (σ : L2.St) (H : Hp) (Q : List V → Hp → Prop) (c : Nat), Inv X pins σ H s → Kt X y c s → t σ H Q →
  wpAny (model X.prog X.w) X.A (spliced (backTo pos (starEach es X.env))) (fun us s' => AP X pins σ Q us s' ∧ Kt X y c s') X.xe s
section
variable {X : Cx} {y : Str} {e : Expr} {es : List Expr} {te : TE} {t : TA} {p pos : Pos}
theorem pak_nil : PAK X y [] tNil := fun _ _ _ _ H Q _ I kt h => Calls.spliced_nil ⟨⟨[], H, I, .nil, h⟩, kt⟩
theorem pak_cons (ha : PEK X y e te) (hr : PAK X y es t) (hs : starEach (e :: es) X.env = (false, eval e X.env) :: starEach es X.env := by rfl) : PAK X y (e :: es) (tCons te t) := by
  intro ps pins st σ H want c inv kt ask
  rw [hs]
  show wpAny _ _ (spliced ((false, eval e X.env) :: backTo ps (starEach es X.env))) _ _ st
  refine Calls.spliced_cons (thn (ha pins st σ H _ c inv kt ask) fun u st1 ⟨⟨v, H1, inv1, r1, q1⟩, kt1⟩ => ?_)
  exact thn (hr ps pins st1 σ H1 _ c inv1 kt1 q1) fun us st2 ⟨⟨vs, H2, inv2, r2, q2⟩, kt2⟩ => ⟨⟨v :: vs, H2, inv2, .cons r1 r2, q2⟩, kt2⟩
theorem pek_str {x : Str} {j : Nat} : PEK X y (.Constant (.str x) j pos) (tC (.str x)) := fun _ s _ H _ _ I kt h => Calls.Constant_str ⟨⟨.str x, H, I.tok _, ⟨_, rfl⟩, h⟩, kt.tok (Nat.le_succ _)⟩
theorem pek_int {i : Int} {j : Nat} : PEK X y (.Constant (.int i) j pos) (tC (.int i)) := fun _ s _ H _ _ I kt h => wpAny_Constant_int ⟨⟨.int i, H, I.tok _, ⟨_, rfl⟩, h⟩, kt.tok (Nat.le_succ _)⟩
theorem pek_var {i : Nat} {x : Str} (hN : X.N[i]? = some x) (hv : Vis X.env.scope x) (hd : (x == ("__debug__" : Str)) = false := by decide) (hcd : (x == ("__classdict__" : Str)) = false := by decide) : PEK X y (.Name x pos) (tVar i) := by
  intro pins st σ H want c inv kt ask
  obtain ⟨v, e, q⟩ := ask
  exact raw_name hN hv inv e (fun u r => ⟨⟨v, H, inv, r, q⟩, kt⟩) hd hcd
theorem pek_lst (h : PAK X y es t) : PEK X y (.List es pos) (tLst t) := by
  intro pins st σ H want c inv kt ask
  refine wpAny_List_spliced (thn (h pos pins st σ H _ c inv kt ask) fun us st1 ⟨⟨vs, H1, inv1, r, z, q⟩, kt1⟩ => ⟨by rw [← r.length]; exact z, ?_⟩)
  have new : H1 st1.heap.objs.size = none := inv1.hok.fresh (Nat.le_refl _)
  refine ⟨⟨.ref st1.heap.objs.size, upd H1 st1.heap.objs.size (.lst vs), inv1.laid (t' := st1.toks) (fun b u e => Heap.get?_push_of_some _ e) (Nat.le_refl _) ⟨z, us, 0, r, Heap.get?_push_size _ rfl⟩, rfl, q _ new⟩, ?_⟩
  exact kt1.keep (fun o e => ⟨o.slots, Heap.get?_push_of_some _ e⟩) (Nat.le_refl _)
theorem pek_call {k : Nat} {f : Addr} {fd : FuncData} {ps : List Str} {sp : Sp} {x : Str} (F : FnOk X.prog X.w X.K X.mg X.base CX0 k f fd ps sp) (room : Room k X.A) (glob : Gl X x) (at_ : X.mg x = some (.ref f)) (kp : PySem.W.keepIn X.K (.ref f) = true) (bnd : Binds X.K fd ps []) (args : PAK X y (e :: es) t)
    (n1 : (x == ("__debug__" : Str)) = false := by decide) (s1 : starEach (e :: es) X.env = (false, eval e X.env) :: starEach es X.env := by rfl) (s2 : (backTo pos (starEach es X.env)).any (·.1) = false := by rfl) : PEK X y (.Call (.Name x p) (e :: es) [] pos) (tCall sp [] E0 t) := by
  intro pins st σ H want c inv kt ask
  refine wpAny_Call_Name_kw (ld_glob inv glob at_ ?_ n1)
  refine PySem.W.callWith_K (h₀ := X.base) inv.ok.mod.kin kp (thn (args pos pins st σ H _ c inv kt ask) fun us st1 ⟨⟨vs, H1, inv1, rels, q⟩, kt1⟩ => ⟨inv1.kIn, ?_⟩) s1 s2
  have q0 : sp vs H1 want E0 := by
    have q' : sp (vs ++ []) H1 want E0 := q
    rw [List.append_nil] at q'
    exact q'
  have len : us.length = ps.length := by
    rw [← rels.length]
    exact F.len _ _ _ _ q0
  have b := bnd st1 us inv1.kIn (by rw [List.append_nil]; exact len)
  rw [List.append_nil] at b
  refine wpAny_mono (wpAny_toks (wpAny_call (Q := fun u s' => EP X pins σ want u s' ∧ ∀ o, st1.heap.get? X.env.locals = some o → ∃ sl, s'.heap.get? X.env.locals = some { o with slots := sl }) (codeAny_mono (F.run X.A X.stack st1 H1 ⟨us, []⟩ us vs want E0 room inv1.env0 b rels q0) fun r st2 got => ?_))) (fun u st2 ⟨le, ep, k2⟩ => ⟨ep, kt1.keep k2 le⟩) (fun _ _ z => z.2)
  cases r with
  | error er => exact got.elim
  | ok fl =>
    cases fl with
    | next => exact got.elim
    | brk => exact got.elim
    | cont => exact got.elim
    | ret u =>
      refine ⟨inv1.after got, fun o e => ?_⟩
      obtain ⟨v, H', os, bare, un, hok, r, _⟩ := got
      exact un.any e inv1.free List.not_mem_nil
theorem pek_ixL {a b : Expr} {ta tb : TE} (ha : PEK X y a ta) (hb : PEK X y b tb) (hs : PlainIx b) : PEK X y (.Subscript a b pos) (tOp (rIxL X.K) ta tb) := by
  intro pins st σ H want c inv kt ask
  refine Subscript_ (thn (ha pins st σ H _ c inv kt ask) fun v st1 ⟨⟨x, H1, inv1, r1, q1⟩, kt1⟩ => ?_)
  refine thn (hb pins st1 σ H1 _ c inv1 kt1 q1) fun u st2 ⟨⟨z, H2, inv2, r2, q2⟩, kt2⟩ => ?_
  obtain ⟨l, xs, i, item, rfl, rfl, hq, he, q⟩ := q2
  cases (show v = Value.ref l from r1)
  obtain ⟨tk, rfl⟩ := r2
  obtain ⟨its, r, pl, hz⟩ := inv2.list hq
  obtain ⟨j, h1, h2, h3, h4, h5⟩ := atI_get he
  obtain ⟨w, ew, rw'⟩ := r.get h2
  have hl := r.length
  have hn := line63
  have fin : EP X pins σ want w st2 ∧ Kt X y c st2 := ⟨⟨item, H2, inv2, rw', q⟩, kt2⟩
  by_cases h0 : 0 ≤ i
  · have hj : i.toNat = j := by
      rw [seqIndex_of h0 h5] at h1
      exact Option.some.inj h1
    exact item_listR pl.isList h0 (by omega) (by rw [hj]; simpa using ew) fin (hs _ _)
  · have hj : (i + (its.toArray.size : Int)).toNat = j := by
      rw [seqIndex_neg (by omega) h4] at h1
      rw [List.size_toArray, ← hl]
      exact Option.some.inj h1
    exact subscriptTail_builtinR (x := w) pl.isList.typeIs slot_list_getitem.lookup (wpAny_getItem_list_neg (Q := fun r s' => r = w ∧ (EP X pins σ want r s' ∧ Kt X y c s')) pl.isList (by omega) (by rw [List.size_toArray] <;> omega) (by omega) (by rw [hj]; simpa using ew) ⟨rfl, fin⟩) (hs _ _)
/-- 'q' * 60 -/
theorem pek_mul {x : Str} {n : Nat} {j1 j2 : Nat} {p1 p2 : Pos} (hx : x.length ≤ 1000) (hn : n ≤ 1000) : PEK X y (.BinOp (.Constant (.str x) j1 p1) .Mult (.Constant (.int (n : Int)) j2 p2) pos) (fun _ H Q => ∀ z : Str, tl z = (List.replicate n (tl x)).flatten → Q (.str z) H) := by
  intro pins st σ H want c inv kt ask
  refine wpAny_BinOp (Calls.Constant_str (wpAny_Constant_int ?_))
  have pw : x.length * n ≤ 1000000 := Nat.le_trans (Nat.mul_le_mul hx hn) (by decide)
  have i2 : Inv X pins σ H { st with toks := st.toks + 1 + 1 } := inv.tok _
  have k2 : Kt X y c { st with toks := st.toks + 1 + 1 } := kt.tok (by omega)
  refine wpAny_mono (wpAny_toks (Q := fun u (s' : Shared) => ∃ t' k, u = .str (Txt.mul x (n : Int)) t' ∧ s' = { st with toks := k }) (PySem.SB.mul ⟨?_, fun h1 h2 => ?_, fun h1 h2 => ?_⟩ fun t' k => ⟨t', k, rfl, rfl⟩)) (fun u s' ⟨le, t', k, e1, e2⟩ => ?_) (fun _ _ z => z.2)
  · rw [decide_eq_false (by omega), decide_eq_false (by omega)]
    rfl
  · have e : (1000 : Int) ≤ (2 ^ 63 - 1) / (n : Int) := by
      have h3 : (0 : Int) < n := by omega
      exact (Int.le_ediv_iff_mul_le h3).mpr (by omega)
    omega
  · rw [Int.toNat_natCast]
    exact decide_eq_false (by show ¬ sizeLine < _; have : sizeLine = 16777216 := sizeLine_eq; omega)
  · subst e1 e2
    exact ⟨⟨.str _, H, inv.tok k, ⟨t', rfl⟩, ask _ (mul_tl x n)⟩, kt.tok (by have h : st.toks + 1 + 1 ≤ k := le; omega)⟩
end
/-! ### y = Z[e], then z = o.replace(y, '') -/
/-- a name that is told the very text -/
theorem pss_kt {X : Cx} {i : Nat} {y : Str} {Z : Str} {jz : Nat} {b : Expr} {tb : TE} {pz p1 p2 pos : Pos} {rest : List Stmt} {u : TS} (nodup : X.N.Nodup) (hi : X.N[i]? = some y) (loc : X.env.scope.names.lookup y = some .local) (hb : PE X b tb) (hs : PlainIx b) (sw : swapsWith (.Subscript (.Constant (.str Z) jz pz) b p1) (some (.Name y p2)) pos.line X.env = pure false)
    (hr : ∀ (pins : List (Addr × Obj)) (s : Shared) (σ : L2.St) (H : Hp) (D : Ends) (c : Nat), Inv X pins σ H s → Kt X y c s → u D σ H → σ[i]? = some (some (.str (sgn c))) → wpAny (model X.prog X.w) X.A (execs rest X.env) (SP X pins D) X.xe s) :
    PSs X (.Assign [.Name y p2] (.Subscript (.Constant (.str Z) jz pz) b p1) pos :: rest) (tSeq (tAsg (tOp rIxS (tC (.str Z)) tb) (gName i)) u) := by
  constructor
  intro pins st σ H D inv ask
  refine wpAny_execs_cons (wpAny_Assign_Name (Subscript_ (Calls.Constant_str ?_)) sw)
  have inv1 : Inv X pins σ H { st with toks := st.toks + 1 } := inv.tok _
  refine wpAny_mono (wpAny_toks (hb.run pins { st with toks := st.toks + 1 } σ H _ inv1 ask)) (fun iv st2 ⟨le, v, H2, inv2, r2, q2⟩ => ?_) (fun _ _ z => z.2)
  have le' : st.toks + 1 ≤ st2.toks := le
  obtain ⟨z, n, c, e1, rfl, hz, he, q⟩ := q2
  cases e1
  obtain ⟨tk, rfl⟩ := r2
  obtain ⟨j, h1, h2, h3, h4, h5⟩ := atI_get he
  have hl : Z.cps.toList.length = Z.length := by simp [Str.length]
  rw [hl] at h1 h4 h5
  have hn := line63
  refine tail_any (typeIs_str st2 Z _) slot_str_getitem.lookup (getItem_str (c := c) (by
    have a1 : decide (n < -(2 ^ 63 : Int)) = false := decide_eq_false (by omega)
    have a2 : decide (n ≥ 2 ^ 63) = false := decide_eq_false (by omega)
    rw [a1, a2, Bool.or_false]) (by rw [h1]; simpa using h2) ?_) (hs _ _)
  have inv3 : Inv X pins σ H2 { st2 with toks := st2.toks + 1 } := inv2.tok _
  obtain ⟨m, ns, lk⟩ := id inv3.loc
  have hcls : (X.env.scope.kind == .class || (X.env.scope.kind == .module && X.env.locals != X.env.globals)) = false := by rw [inv3.ok.kind]; rfl
  have hiσ : i < σ.length := by rw [inv3.len]; exact (List.getElem?_eq_some_iff.mp hi).1
  have cne := inv3.cne
  refine wpAny_storeName_local loc ns (fun h' ns' sb => ?_) hcls
  obtain ⟨oL, esL, epL, hoL, _⟩ := id ns
  have far : ∀ {b : Addr} {o : Obj}, X.s_0.heap.get? b = some o → b ≠ X.env.locals := fun {b o} e => Nat.ne_of_lt (Nat.lt_of_lt_of_le (Heap.lt_size e) inv3.ok.above)
  have okH : HOk X.prog X.w H2 h' := fun b ob e => by
    refine (inv3.hok b ob e).stay (fun d w' hd q => (sb.2 d ?_).trans q) (fun _ q => q) fun _ _ q => q
    rintro rfl
    rcases hd with z | z
    · rw [← z, inv3.free] at e
      cases e
    · rw [inv3.free] at z
      cases z
  have inv4 : Inv X pins (σ.set i (some (.str (sgn c)))) H2 { st2 with heap := h', toks := st2.toks + 1 + 1 } := by
    refine ⟨inv3.ok, inv3.os, inv3.bare, ⟨fun b o e n hb hx => (sb.2 b (far e)).trans (inv3.base.keep b o e n hb hx), fun b o e n hb hx => ?_, inv3.base.free, fun b o e hx => ?_, inv3.base.tups, inv3.base.frzs, inv3.base.tbls⟩, ⟨_, ns', fun j x v' e1 e2 e3 => ?_⟩, fun x d e => ?_, inv3.free, inv3.freeC, fun p hp => ?_, okH, by simpa using inv3.len⟩
    · obtain ⟨sl, e1⟩ := inv3.base.slot b o e n hb hx
      exact ⟨sl, (sb.2 b (far e)).trans e1⟩
    · obtain ⟨o', e1⟩ := inv3.base.there b o e hx
      exact ⟨o', (sb.2 b (far e)).trans e1⟩
    · by_cases hj : j = i
      · subst hj
        rw [hi] at e1
        cases e1
        rw [List.getElem?_set_self hiσ] at e2
        cases e2
        exact ⟨_, ⟨_, rfl⟩, .inl ⟨loc, if_pos rfl⟩⟩
      · rw [List.getElem?_set_ne (Ne.symm hj)] at e2
        obtain ⟨u', r', q⟩ := lk j x v' e1 e2 e3
        refine ⟨u', r', ?_⟩
        rcases q with ⟨k, e⟩ | ⟨k, d, e, z⟩
        · refine .inl ⟨k, ?_⟩
          have nx : x ≠ y := fun e => hj (nodup_ix nodup e1 (e ▸ hi))
          exact (if_neg nx).trans e
        · exact .inr ⟨k, d, e, z.sameBut sb (cne x d e)⟩
    · obtain ⟨w', z⟩ := inv3.cell x d e
      exact ⟨w', z.sameBut sb (cne x d e)⟩
    · obtain ⟨e, n, ne, nf, d⟩ := inv3.pin p hp
      exact ⟨(sb.2 p.1 ne).trans e, n, ne, nf, d⟩
  have t1 : 1 ≤ st2.toks := by omega
  refine hr pins _ _ H2 D c inv4 ⟨_, st2.toks, ns', if_pos rfl, t1, ?_⟩ q (List.getElem?_set_self hiσ)
  show st2.toks < st2.toks + 1 + 1
  omega
/-- z = o.replace(y, '') where y's text is known -/
theorem exec_repl {X : Cx} {i iz : Nat} {y z : Str} {o : Expr} {to : TE} {jc : Nat} {py pc apos cpos p2 pos : Pos} {rest : List Stmt} {u : TS} (nodup : X.N.Nodup) (hi : X.N[i]? = some y) (loc : X.env.scope.names.lookup y = some .local) (hz : X.N[iz]? = some z) (lz : Loc X.env.scope z) (ho : PEK X y o to) (hr : PSs X rest u)
    (nd : (y == ("__debug__" : Str)) = false)
    (hst : starEach [.Name y py, .Constant (.str (Str.ofString "")) jc pc] X.env = [(false, eval (.Name y py) X.env), (false, eval (.Constant (.str (Str.ofString "")) jc pc) X.env)]) (hbase : attributeBase o "replace" X.env (eval o X.env) = eval o X.env) (hline : (apos.endLine == cpos.line) = true)
    (sw : swapsWith (.Call (.Attribute o "replace" apos) [.Name y py, .Constant (.str (Str.ofString "")) jc pc] [] cpos) (some (.Name z p2)) pos.line X.env = pure false) (hf : X.fn z = true ∨ X.env.scope.names.lookup z = some .local) :
    ∀ (pins : List (Addr × Obj)) (s : Shared) (σ : L2.St) (H : Hp) (D : Ends) (c : Nat), Inv X pins σ H s → Kt X y c s →
      (to σ H fun v H1 => ∃ x, v = .str x ∧ x.length ≤ 1000 ∧ u D (σ.set iz (some (.str (Txt.replace x (sgn c) (Str.ofString ""))))) H1) →
      wpAny (model X.prog X.w) X.A (execs (.Assign [.Name z p2] (.Call (.Attribute o "replace" apos) [.Name y py, .Constant (.str (Str.ofString "")) jc pc] [] cpos) pos :: rest) X.env) (SP X pins D) X.xe s := by
  intro pins st σ H D c inv kt ask
  refine wpAny_execs_cons (wpAny_Assign_Name (PySem.Call_method2 hbase hst hline (thn (ho pins st σ H _ c inv kt ask) fun v st1 ⟨⟨v', H1, inv1, r1, x, e1, hx, q⟩, kt1⟩ => ?_)) sw)
  subst e1
  obtain ⟨tx, rfl⟩ := r1
  refine ⟨"str", _, PySem.F.plainAttrs_str, PySem.F.slot_str_replace, PySem.F.type_str_replace, typeIs_str _ _ _, (fun _ e => nomatch e), Calls.callWith_builtin rfl (Calls.evalArgs_plain (Calls.spliced_cons ?_))⟩
  obtain ⟨m, t, ns, hm, t1, t2⟩ := kt1
  refine wpAny_Name (wpAny_loadName_local inv1.ok.kind loc ns hm ?_) nd
  refine Calls.spliced_cons (Calls.Constant_str (Calls.spliced_nil ?_))
  have l0 : (Str.ofString "").length = 0 := by decide +kernel
  have a1 : t ≠ 0 := Nat.ne_of_gt t1
  have a2 : st1.toks ≠ 0 := Nat.ne_of_gt (Nat.lt_of_le_of_lt (Nat.zero_le t) t2)
  have a3 : t ≠ st1.toks := Nat.ne_of_lt t2
  have a4 : x.length + (x.length + 1) * (Str.ofString "").length ≤ 16777216 := by rw [l0]; omega
  refine PySem.SC.replace a1 a2 a3 ?_ a4 fun t' k => ?_
  · refine beq_eq_false_iff_ne.mpr fun z => ?_
    have z' := congrArg Str.length z
    rw [l0] at z'
    cases z'
  · exact store_ok (v := .str (Txt.replace x (sgn c) (Str.ofString ""))) (inv1.tok k) nodup hz lz ⟨t', rfl⟩ (fun s' I' => hr.run pins s' _ H1 D I' q) hf
/-- y = Z[b] and z = o.replace(y, '') -/
def tRepl (i iz : Nat) (to : TE) (u : TS) : TS := fun D σ H => ∃ c : Nat, σ[i]? = some (some (.str (sgn c))) ∧ to σ H fun v H1 => ∃ x : Str, v = .str x ∧ x.length ≤ 1000 ∧ u D (σ.set iz (some (.str (Txt.replace x (sgn c) (Str.ofString ""))))) H1
theorem sgn_inj {c d : Nat} (h : sgn c = sgn d) : c = d := by
  injection h with h
  injection h with h
  injection h
theorem pss_kr {X : Cx} {i iz : Nat} {y z Z : Str} {jz jc : Nat} {b o : Expr} {tb to : TE} {pz p1 p2 pos1 py pc apos cpos p3 pos2 : Pos} {rest : List Stmt} {u : TS} (nodup : X.N.Nodup) (hi : X.N[i]? = some y) (loc : X.env.scope.names.lookup y = some .local) (hz : X.N[iz]? = some z) (lz : Loc X.env.scope z)
    (hb : PE X b tb) (hs : PlainIx b) (ho : PEK X y o to) (hr : PSs X rest u)
    (sw1 : swapsWith (.Subscript (.Constant (.str Z) jz pz) b p1) (some (.Name y p2)) pos1.line X.env = pure false := by rfl) (nd : (y == ("__debug__" : Str)) = false := by decide)
    (hst : starEach [.Name y py, .Constant (.str (Str.ofString "")) jc pc] X.env = [(false, eval (.Name y py) X.env), (false, eval (.Constant (.str (Str.ofString "")) jc pc) X.env)] := by rfl) (hbase : attributeBase o "replace" X.env (eval o X.env) = eval o X.env := by rfl) (hline : (apos.endLine == cpos.line) = true := by rfl)
    (sw : swapsWith (.Call (.Attribute o "replace" apos) [.Name y py, .Constant (.str (Str.ofString "")) jc pc] [] cpos) (some (.Name z p3)) pos2.line X.env = pure false := by rfl) (hf : X.fn z = true ∨ X.env.scope.names.lookup z = some .local := by first | exact .inl rfl | exact .inr rfl | assumption) :
    PSs X (.Assign [.Name y p2] (.Subscript (.Constant (.str Z) jz pz) b p1) pos1 :: .Assign [.Name z p3] (.Call (.Attribute o "replace" apos) [.Name y py, .Constant (.str (Str.ofString "")) jc pc] [] cpos) pos2 :: rest)
      (tSeq (tAsg (tOp rIxS (tC (.str Z)) tb) (gName i)) (tRepl i iz to u)) := by
  refine pss_kt nodup hi loc hb hs sw1 fun pins s σ H D c I kt ask e => ?_
  obtain ⟨c', e', q⟩ := ask
  have ec : c = c' := by
    rw [e] at e'
    exact sgn_inj (V.str.inj (Option.some.inj (Option.some.inj e')))
  subst ec
  exact exec_repl nodup hi loc hz lz ho hr nd hst hbase hline sw hf pins s σ H D c I kt q
theorem repl_tl (x : Str) (c : Nat) : tl (Txt.replace x (sgn c) (Str.ofString "")) = (tl x).filter (· != c) := by
  have e : Str.ofString "" = ⟨#[]⟩ := by decide +kernel
  rw [e]
  exact replace_strikes x c
/-! ### further rules that keep what is known of the text -/
section
variable {X : Cx} {y : Str} {e : Expr} {es : List Expr} {te : TE} {t : TA} {p pos : Pos}
theorem pek_tup {xc : Nat} (h : PAK X y es t) : PEK X y (.Tuple es xc pos) (tTup t) := by
  intro pins st σ H want c inv kt ask
  refine wpAny_Tuple_spliced (thn (h pos pins st σ H _ c inv kt ask) fun us st1 ⟨⟨vs, H1, inv1, rels, z, q⟩, kt1⟩ => ⟨by rw [← rels.length]; exact z, ?_⟩)
  have new : H1 st1.heap.objs.size = none := inv1.hok.fresh (Nat.le_refl _)
  refine ⟨⟨.ref st1.heap.objs.size, upd H1 st1.heap.objs.size (.tup vs), inv1.laid (t' := st1.toks) (fun b u e => Heap.get?_push_of_some _ e) (Nat.le_refl _) ?_, rfl, q _ new⟩, kt1.keep (fun o e => ⟨o.slots, Heap.get?_push_of_some _ e⟩) (Nat.le_refl _)⟩
  exact ⟨z, us, rels, _, Heap.get?_push_size _ rfl, rfl, _, rfl⟩
theorem pek_dnew : PEK X y (.Dict [] [] pos) tDNewK := by
  intro pins st σ H want c inv kt ask
  refine wpAny_Dict_empty ⟨⟨.ref st.heap.objs.size, _, inv.laid (a := st.heap.objs.size) (o := .dK []) (t' := st.toks) (fun _ _ q => Heap.get?_push_of_some _ q) (Nat.le_refl _) (dk_empty st.heap inv.big), rfl, ask _ (inv.hok.fresh (Nat.le_refl _))⟩, ?_⟩
  exact kt.keep (fun o e => ⟨o.slots, Heap.get?_push_of_some _ e⟩) (Nat.le_refl _)
theorem pek_ixT {a b : Expr} {ta tb : TE} (ha : PEK X y a ta) (hb : PEK X y b tb) (hs : PlainIx b) : PEK X y (.Subscript a b pos) (tOp (rIxT X.K) ta tb) := by
  intro pins st σ H want c inv kt ask
  refine Subscript_ (thn (ha pins st σ H _ c inv kt ask) fun v st1 ⟨⟨x, H1, inv1, r1, q1⟩, kt1⟩ => ?_)
  refine thn (hb pins st1 σ H1 _ c inv1 kt1 q1) fun u st2 ⟨⟨z, H2, inv2, r2, q2⟩, kt2⟩ => ?_
  obtain ⟨l, xs, i, item, rfl, rfl, hq, he, q⟩ := q2
  cases (show v = Value.ref l from r1)
  obtain ⟨tk, rfl⟩ := r2
  obtain ⟨its, r, pl, hz⟩ := inv2.tuple hq
  obtain ⟨j, h1, h2, h3, h4, h5⟩ := atI_get he
  obtain ⟨w, ew, rw'⟩ := r.get h2
  have hl := r.length
  have hn := line63
  have fin : EP X pins σ want w st2 ∧ Kt X y c st2 := ⟨⟨item, H2, inv2, rw', q⟩, kt2⟩
  have got : wpAny (model X.prog X.w) X.A (getItem (.ref l) (.int i tk)) (fun r s' => r = w ∧ (EP X pins σ want r s' ∧ Kt X y c s')) X.xe st2 := getItem_tuple (j := j) pl (by omega) (by omega) (by rw [List.size_toArray, ← hl]; exact h1) (by simpa using ew) ⟨rfl, fin⟩
  exact subscriptTail_builtinR (x := w) pl.typeIs slot_tuple_getitem.lookup got (hs _ _)
/-- d[k], d a dict of texts and whole numbers -/
def tDGetK (ta tb : TE) : TE := fun σ H Q => ta σ H fun x H1 => tb σ H1 fun z H2 => ∃ (d : Addr) (kvs : List (Key × V)) (k : Key) (v : V), x = .ref d ∧ Rd H2 d (.dK kvs) ∧ z = kV k ∧ valV kvs k = some v ∧ Q v H2
theorem pek_dget {a b : Expr} {ta tb : TE} (ha : PEK X y a ta) (hb : PEK X y b tb) (hs : NoSl b) : PEK X y (.Subscript a b pos) (tDGetK ta tb) := by
  intro pins st σ H want c inv kt ask
  refine subD_of PySem.F.slot_dict_getitem.lookup hs (thn (ha pins st σ H _ c inv kt ask) fun v st1 ⟨⟨x, H1, inv1, r1, q1⟩, kt1⟩ => thn (hb pins st1 σ H1 _ c inv1 kt1 q1) fun u st2 ⟨⟨z, H2, inv2, r2, d, kvs, k, item, ex, rd, ez, hv, q2⟩, kt2⟩ => ?_)
  subst ex ez
  cases (show v = Value.ref d from r1)
  refine ⟨dict_typeIs inv2 (.inl ⟨kvs, k, rd, rfl, hv.symm⟩), ?_⟩
  obtain ⟨_, _, vs, rel, dd⟩ := dk_rd inv2.hok rd
  obtain ⟨w, hw, rw'⟩ := RelO.some_of (v := item) (o := valueAt vs k) (by rw [← hv]; exact rel.val k)
  exact wpAny_getItem_of (kV_is r2) dd.mapOf hw ⟨⟨item, H2, inv2.tok _, rw', q2⟩, kt2.tok (by first | exact Nat.le_succ _ | exact Nat.le_refl _ | exact Nat.le_add_right _ _)⟩
/-- d[k] = v, the text of y known before and after -/
def tPutK (td ty tv : TE) (u : TS) : TS := fun D σ H => tv σ H fun v H1 => td σ H1 fun x H2 => ty σ H2 fun z H3 => ∃ (a : Addr) (kvs : List (Key × V)) (k : Key), x = .ref a ∧ H3 a = some (.dK kvs) ∧ z = kV k ∧ kvs.length < sizeLine ∧ u D σ (upd H3 a (.dK (putK kvs k v)))
theorem psk_put {o i value : Expr} {td ty tv : TE} {rest : List Stmt} {u : TS} {pos' : Pos} (ho : PEK X y o td) (hi : PEK X y i ty) (hv : PEK X y value tv)
    (hr : ∀ (pins : List (Addr × Obj)) (s : Shared) (σ : L2.St) (H : Hp) (D : Ends) (c : Nat), Inv X pins σ H s → Kt X y c s → u D σ H → wpAny (model X.prog X.w) X.A (execs rest X.env) (SP X pins D) X.xe s)
    (hs : swapsWith value (some (.Subscript o i pos')) pos.line X.env = pure false := by rfl) :
    ∀ (pins : List (Addr × Obj)) (s : Shared) (σ : L2.St) (H : Hp) (D : Ends) (c : Nat), Inv X pins σ H s → Kt X y c s → tPutK td ty tv u D σ H → wpAny (model X.prog X.w) X.A (execs (.Assign [.Subscript o i pos'] value pos :: rest) X.env) (SP X pins D) X.xe s := by
  intro pins st σ H D c inv kt ask
  refine wpAny_execs_cons (wpAny_Assign_Subscript (thn (hv pins st σ H _ c inv kt ask) fun r st1 ⟨⟨v, H1, inv1, rv, q1⟩, kt1⟩ => thn (ho pins st1 σ H1 _ c inv1 kt1 q1) fun ou st2 ⟨⟨x, H2, inv2, rx, q2⟩, kt2⟩ => thn (hi pins st2 σ H2 _ c inv2 kt2 q2) fun iu st3 ⟨⟨z, H3, inv3, rz, a, kvs, k, ex, ea, ez, lk, q3⟩, kt3⟩ => ?_) hs)
  subst ex ez
  cases (show ou = Value.ref a from rx)
  obtain ⟨zl, low, vs, rel, dd⟩ := dk_of inv3.hok ea
  have hz : vs.length ≤ sizeLine := by rw [← rel.length]; exact zl
  have hl : (putK kvs k v).length ≤ sizeLine := by have := length_putK kvs k v; omega
  have na : X.env.locals ≠ a := fun w => by
    have f := inv3.free
    rw [w, ea] at f
    cases f
  refine wpAny_setItem_pairs (hsz := hz) (kV_is rz) dd fun h' dd' sb => ?_
  have there : ∃ q, h'.get? a = some q := let ⟨q, _, _, hq, _⟩ := dd'; ⟨q, hq⟩
  refine hr pins _ σ _ D c (d_write inv3 (by rw [ea]; exact True.intro) sb there (dk_new hl low (rel.put k rv) dd')) (kt3.keep (fun o e => ⟨o.slots, (sb.2 _ na).trans e⟩) ?_) q3
  first | exact Nat.le_refl _ | exact Nat.le_succ _ | exact Nat.le_add_right _ _
end
end WB

set_option Elab.async false
set_option linter.all false
set_option maxRecDepth 100000
set_option maxHeartbeats 4000000
namespace WB
open PySem PySem.Spec PyProof.Rows L2 WG
open TL (tl)
abbrev st_sample : Stmt := topS 33
theorem sc_sample : FnScope ["_law_pot_here", "_law_bad", "_law_word"] ["_law_pot_here", "_law_bad"] (defScope st_sample) := ⟨rfl, rfl, rfl, by decide +kernel, rfl, by decide +kernel, by decide +kernel⟩
/-- a def whose second argument's text was given out before -/
structure FnK (P : Program) (w : World) (K : PySem.W.Frag) (mg : Str → Option Value) (base : Heap) (k : Nat) (f : Addr) (fd : FuncData) (ps : List Str) (sp : Sp) : Prop where
  len : ∀ vs H Q E, sp vs H Q E → vs.length = ps.length
  run : ∀ (A : Around) (outer : List Env) (s : Shared) (H : Hp) (us : List Value) (vs : List V) (Q : VK) (E : XK) (c : Nat) (t : Tok), Room k A → Env0 P w K mg base A outer s H → BindsTo s fd ⟨us, []⟩ (ps.zip us) → Vals vs us → us[1]? = some (.str (sgn c) t) → 1 ≤ t → t < s.toks → sp vs H Q E →
    codeAny (model P w) A (.call (.ref f) ⟨us, []⟩) (CR CX0 outer P w H s Q E) s
section
variable {P : Program} {w : World} {K : PySem.W.Frag} {mg : Str → Option Value} {base : Heap}
theorem fnk_of {x : Str} {st : Stmt} {f : Addr} {fd : FuncData} {N : List Str} {y0 y1 : Str} {k : Nat} {sp : Sp} (F : Fun K x x st f fd) (S : FnScope N [y0, y1] (defScope st)) (len : ∀ vs H Q E, sp vs H Q E → vs.length = [y0, y1].length) (ny : y1 ≠ y0) (l0 : (defScope st).names.lookup y0 = some .local)
    (l1 : (defScope st).names.lookup y1 = some .local)
    (body : ∀ (cdv : Value) (A : Around) (outer : List Env) (s : Shared) (H : Hp) (vs : List V) (Q : VK) (E : XK) (c : Nat), Room k (A.deeper (envOfC x (defScope st) s.heap.objs.size f cdv)) → sp vs H Q E → ∀ sA, Inv (cxOf CX0 P w K mg base N x (defScope st) f cdv A outer s H E) [] (start N vs) H sA → Kt (cxOf CX0 P w K mg base N x (defScope st) f cdv A outer s H E) y1 c sA → vs[1]? = some (.str (sgn c)) →
      wpAny (model P w) (cxOf CX0 P w K mg base N x (defScope st) f cdv A outer s H E).A (execs (defBody st) (cxOf CX0 P w K mg base N x (defScope st) f cdv A outer s H E).env) (SP (cxOf CX0 P w K mg base N x (defScope st) f cdv A outer s H E) [] { nx := fun _ H' => Q .non H', rt := Q }) (cxOf CX0 P w K mg base N x (defScope st) f cdv A outer s H E).xe sA) :
    FnK P w K mg base (k + 1) f fd [y0, y1] sp := by
  obtain ⟨oc, od, kV, doc, pm, an, cdv, ct, osl, rfl, lk, hcd⟩ := F.ex
  refine ⟨len, fun A outer s H us vs Q E c t room env bnd rel ut t1 t2 want => ?_⟩
  have hlen := len _ _ _ _ want
  have kin : K.In s.heap := env.mod.kin.keeps fun b o q => (env.bs b o q).1
  have nolim : s.heap.NoLimit := env.mod.nolimit.keeps fun b o q => (env.bs b o q).1
  have kinds : ∀ z ∈ [y0, y1].zip us, (defScope st).names.lookup z.1 = some .local ∨ ((defScope st).names.lookup z.1 = some .cell ∧ ((cellsFrom (s.heap.objs.size + 1) (defScope st).names []).lookup z.1).isSome = true) := by
    intro z hz
    obtain ⟨nz, vz⟩ := z
    cases S.par nz (List.of_mem_zip hz).1 with
    | inl q => exact .inl q
    | inr q => exact .inr ⟨q, PySem.W.cellsFrom_some _ _ _ (.inl q)⟩
  refine codeAny_call_function room.depth (kin _ _ lk) rfl S.co S.gen rfl (PySem.W.codeRec_of kin hcd) (bnd _ _ _ _ ?_)
  refine wpAny_mono (wpAny_toks (wpAny_newFunctionEnv_cells (Q := fun e2 sA => e2 = envOfC x (defScope st) s.heap.objs.size f cdv ∧ InCallC s s.heap.objs.size (bindL (envOfC x (defScope st) s.heap.objs.size f cdv).kindOf ([y0, y1].zip us) fun _ => none) (cellsFrom (s.heap.objs.size + 1) (defScope st).names []) (bindC (envOfC x (defScope st) s.heap.objs.size f cdv).kindOf ([y0, y1].zip us) fun _ => none) sA) S.kind kinds fun e2 he2 sA hx => ?_)) (fun e2 sA ⟨le, he2, hx⟩ => ?_) (fun _ _ z => z.2)
  · subst he2
    exact ⟨rfl, hx⟩
  · subst he2
    refine ⟨nolim.keeps hx.toInCall.keep, codeAny_func ?_⟩
    have I : Inv (cxOf CX0 P w K mg base N x (defScope st) f cdv A outer s H E) [] (start N vs) H sA := inv_start S room.hd env hlen rel hx
    have two : vs.length = 2 := hlen
    have v1 : vs[1]? = some (.str (sgn c)) := by
      obtain ⟨v, hv⟩ : ∃ v, vs[1]? = some v := ⟨_, List.getElem?_eq_getElem (by omega)⟩
      obtain ⟨u, hu, ru⟩ := rel.get hv
      rw [ut] at hu
      cases hu
      rw [hv]
      cases v with
      | str z =>
        obtain ⟨t', e⟩ := ru
        cases e
        rfl
      | non => cases (show Value.str (sgn c) t = Value.none from ru)
      | bl b => cases (show Value.str (sgn c) t = Value.bool b from ru)
      | int i => obtain ⟨_, e⟩ := ru; cases e
      | byt b => obtain ⟨_, e⟩ := ru; cases e
      | flt b => obtain ⟨_, e⟩ := ru; cases e
      | ref a => cases (show Value.str (sgn c) t = Value.ref a from ru)
      | ty n => cases (show Value.str (sgn c) t = Value.type n from ru)
    have kof : ∀ {n : Str}, (defScope st).names.lookup n = some .local → (envOfC x (defScope st) s.heap.objs.size f cdv).kindOf n = some .local := fun {n} q => by
      first
      | exact q
      | simpa [Env.kindOf, envOfC, newEnv, S.kind] using q
      | (simp only [Env.kindOf]; exact q)
    have here : bindL (envOfC x (defScope st) s.heap.objs.size f cdv).kindOf ([y0, y1].zip us) (fun _ => none) y1 = some (.str (sgn c) t) := by
      have l2 : us.length = 2 := rel.length.symm.trans two
      match us, l2, ut with
      | [u0, u1], _, ut =>
        have e1 : u1 = .str (sgn c) t := Option.some.inj ut
        subst e1
        have all : ∀ z ∈ [y0, y1].zip [u0, Value.str (sgn c) t], (envOfC x (defScope st) s.heap.objs.size f cdv).kindOf z.1 = some .local := fun z hz => by
          have hz' : z ∈ [(y0, u0), (y1, Value.str (sgn c) t)] := hz
          simp only [List.mem_cons, List.not_mem_nil, or_false] at hz'
          rcases hz' with rfl | rfl
          · exact kof l0
          · exact kof l1
        rw [bindL_loc _ _ all y1]
        show (List.lookup y1 [(y1, Value.str (sgn c) t), (y0, u0)]).or none = _
        simp [List.lookup]
    have kt : Kt (cxOf CX0 P w K mg base N x (defScope st) f cdv A outer s H E) y1 c sA := ⟨_, t, hx.toInCall.ns, here, t1, Nat.lt_of_lt_of_le t2 le⟩
    refine wpAny_mono (body cdv A outer s H vs Q E c (room.deeper _) want sA I kt v1) (fun fl s' got => ?_) fun _ _ z => z
    have fin : ∀ {σ' : L2.St} {H' : Hp} {v : V} {u : Value}, Inv (cxOf CX0 P w K mg base N x (defScope st) f cdv A outer s H E) [] σ' H' s' → RelV v u → Q v H' → CE outer P w H s Q u s' := fun {σ' H' v u} J rv q => ⟨v, H', J.os, J.bare, J.base, J.hok, rv, q⟩
    cases fl with
    | next =>
      obtain ⟨σ', H', J, q⟩ := got
      exact fin (v := V.non) (u := Value.none) J rfl q
    | ret u =>
      obtain ⟨v, σ', H', J, rv, q⟩ := got
      exact fin J rv q
    | brk =>
      obtain ⟨_, _, _, q⟩ := got
      exact q.elim
    | cont =>
      obtain ⟨_, _, _, q⟩ := got
      exact q.elim
end
end WB

set_option Elab.async false
set_option linter.all false
set_option maxRecDepth 100000
set_option maxHeartbeats 4000000
namespace WB
open PySem PySem.Spec PyProof.Rows L2 WG
open TL (tl)
theorem plain_free {t : List Nat} (h : 45 ∉ t) : plainW t = true := by
  unfold plainW
  rw [decide_eq_false (p := t.take 1 = [45]) (fun e => h (List.mem_of_mem_take (by rw [e]; exact List.mem_singleton.mpr rfl))), Bool.and_false]
  rfl
theorem sgS_ok : 0 < (Str.ofString "ab,:0 '=").length ∧ (Str.ofString "ab,:0 '=").length ≤ 200 ∧ ∀ c ∈ tl (Str.ofString "ab,:0 '="), c < 256 ∧ c ≠ 45 := by decide +kernel
section
variable {P : Program} {w : World} {K : PySem.W.Frag} {mg : Str → Option Value} {base : Heap}
def spLSample : Sp := fun vs H Q _ => ∃ (p : Addr) (c : Nat), vs = [.ref p, .str (sgn c)] ∧ Pot H p ∧ ∀ H' (z : Str), But p H H' → Pot H' p → z.length ≤ 100 → (∀ d ∈ tl z, d < 256) → c ∉ tl z → plainW (tl z) = true → Q (.str z) H'
theorem ok_lsample {f fD fT : Addr} {fd fdD fdT : FuncData} {k : Nat} (F : Fun K "_law_sample" "_law_sample" st_sample f fd) (D_draw : Df K mg "_law_draw" sDraw ["_law_pot_here", "_law_many"] fD fdD) (D_text : Df K mg "_law_text" sText ["_law_pot_here", "_law_most", "_law_signs_here"] fT fdT) (m_divmod : mg "divmod" = none) (m_len : mg "len" = none) (m_range : mg "range" = none) (m_int : mg "int" = none) :
    FnK P w K mg base (k + 3) f fd ["_law_pot_here", "_law_bad"] spLSample := by
  have G_draw : FnOk P w K mg base CX0 (k + 2) fD fdD ["_law_pot_here", "_law_many"] spDraw := ok_draw D_draw.F m_divmod
  have G_text : FnOk P w K mg base CX0 (k + 2) fT fdT ["_law_pot_here", "_law_most", "_law_signs_here"] spText := ok_text D_text.F D_draw m_divmod m_len m_range
  refine fnk_of F sc_sample (fun vs H Q E h => ?_) (by decide) rfl rfl (fun cdv A outer s H vs Q E c hr h sA I kt v1 => ?_)
  · obtain ⟨p, c, rfl, _⟩ := h
    rfl
  · obtain ⟨p, c', rfl, hp, q⟩ := h
    have ec : c' = c := sgn_inj (V.str.inj (Option.some.inj v1))
    subst ec
    refine exec_repl (i := 1) (iz := 2) (y := ("_law_bad" : Str)) (z := ("_law_word" : Str)) sc_sample.nd rfl rfl rfl (.inl rfl)
      (pek_call G_text hr (by rfl) D_text.g D_text.F.kp D_text.b (pak_cons (pek_var (i := 0) rfl (by first | exact .inl rfl | exact rfl | decide)) (pak_cons pek_int (pak_cons pek_str pak_nil))))
      (pss_one (ps_ret (pe_ifExp (pt_cmpR op_ne (pv 1) pe_str (nomark _)) (pe_ix ix_list (pe_lst (pa_cons (pv 2) (pa_cons pe_str (pa_cons (pe_op op_mul_str pe_str (pe_callTy call_int1 (by rfl) m_int (by decide +kernel) (pa_cons (pe_cmpR op_ne (pv 1) pe_str (nomark _)) pa_nil))) pa_nil)))) (pe_call G_draw hr (by rfl) D_draw.g D_draw.F.kp D_draw.b .nil pass0 (pa_cons (pv 0) (pa_cons pe_int pa_nil))) (fun _ _ => rfl)) (pv 2))))
      (by decide) rfl rfl rfl rfl (.inl rfl) [] sA _ H _ c' I kt ?_
    obtain ⟨z0, z1, z2⟩ := sgS_ok
    have sl : sizeLine = 16777216 := sizeLine_eq
    refine ⟨.ref p, rfl, p, 12, Str.ofString "ab,:0 '=", rfl, hp, by decide, by decide, z0, z1, fun H1 y b1 p1 ty => ⟨y, rfl, by have := ty.le; omega, ?_⟩⟩
    have ly : y.length ≤ 12 := ty.le
    have tw : tl (Txt.replace y (sgn c') (Str.ofString "")) = (tl y).filter (· != c') := repl_tl y c'
    have lw : (Txt.replace y (sgn c') (Str.ofString "")).length ≤ 12 := by
      rw [TL.len_tl, tw]
      refine Nat.le_trans (List.length_filter_le _ _) ?_
      rw [← TL.len_tl]
      exact ly
    have mw : ∀ d ∈ tl (Txt.replace y (sgn c') (Str.ofString "")), d < 256 ∧ d ≠ 45 ∧ d ≠ c' := fun d hd => by
      rw [tw] at hd
      obtain ⟨h1, h2⟩ := List.mem_filter.mp hd
      obtain ⟨h3, h4⟩ := z2 d (ty.pl d h1)
      exact ⟨h3, h4, by simpa using h2⟩
    have fin : ∀ H', But p H H' → Pot H' p → Q (.str (Txt.replace y (sgn c') (Str.ofString ""))) H' := fun H' b' p' => q _ _ b' p' (by omega) (fun d hd => (mw d hd).1) (fun h => (mw _ h).2.2 rfl) (plain_free fun h => (mw _ h).2.1 rfl)
    refine ⟨.str (sgn c'), rfl, rfl, _, rfl, ite2 (fun e => ?_) (fun e => ⟨_, rfl, fin _ b1 p1⟩)⟩
    have n45 : c' ≠ 45 := fun z => by
      have e' : (!decide (V.str (sgn c') = V.str (Str.ofString "-"))) = true := e
      rw [dec_lit _ "-" (l := [45]) (by decide +kernel), z] at e'
      cases e'
    refine ⟨.str (Txt.replace y (sgn c') (Str.ofString "")), rfl, .str (sgn c'), rfl, rfl, .inr ⟨_, rfl, ?_⟩⟩
    have e2 : ∃ m : Nat, (if (!decide (V.str (sgn c') = V.str (Str.ofString "x"))) = true then (1 : Int) else 0) = (m : Int) ∧ m ≤ 1 ∧ (m = 1 → c' ≠ 120) := by
      rw [dec_lit _ "x" (l := [120]) (by decide +kernel)]
      by_cases h : tl (sgn c') = [120]
      · exact ⟨0, by rw [decide_eq_true h]; rfl, by decide, fun z => by cases z⟩
      · exact ⟨1, by rw [decide_eq_false h]; rfl, by decide, fun _ z => h (by rw [z])⟩
    obtain ⟨m, em, lm, hm⟩ := e2
    refine ⟨Str.ofString "x", m, rfl, congrArg V.int em, by omega, by decide +kernel, fun xx ex => ?_⟩
    have t120 : tl (Str.ofString "x") = [120] := by decide +kernel
    have txx : tl xx = List.replicate m 120 := by
      rw [ex, t120]
      simp
    have lx : xx.length = m := by
      rw [TL.len_tl, txx, List.length_replicate]
    have xc : ∀ d ∈ tl xx, d = 120 := fun d hd => by
      rw [txx] at hd
      exact (List.mem_replicate.mp hd).2
    refine ⟨by show 3 ≤ sizeLine; decide, fun l nl => ?_⟩
    have p2 := p1.new (o := .lst ([Txt.replace y (sgn c') (Str.ofString ""), Str.ofString "-", xx].map V.str)) nl
    have nlp := p1.ne nl
    refine ⟨.ref p, rfl, p, 3, rfl, p2, by decide, by decide, fun H3 d3 b3 p3 d30 d31 => ?_⟩
    obtain ⟨z, zm, ze⟩ := at_strs [Txt.replace y (sgn c') (Str.ofString ""), Str.ofString "-", xx] d3 d30 (by show d3 < 3; exact d31)
    refine ⟨l, _, d3, .str z, rfl, rfl, SqL.of (b3 _ _ nlp.symm upd_same), ze, ?_⟩
    have B3 : But p H H3 := (b1.trans (But.new nl)).trans b3
    simp only [List.mem_cons, List.not_mem_nil, or_false] at zm
    rcases zm with rfl | rfl | rfl
    · exact fin _ B3 p3
    · have t1 : tl (Str.ofString "-") = [45] := by decide +kernel
      refine q _ _ B3 p3 (by decide +kernel) (by rw [t1]; decide) (by rw [t1]; exact fun h => n45 (List.mem_singleton.mp h)) (by decide +kernel)
    · refine q _ _ B3 p3 (by omega) (fun d hd => by rw [xc d hd]; decide) (fun h => ?_) (plain_free fun h => by have := xc _ h; cases this)
      have e120 := xc _ h
      have m1 : m = 1 := by
        have : 0 < z.length := by
          rw [TL.len_tl]
          exact List.length_pos_of_mem h
        omega
      exact hm m1 e120
end
end WB

set_option Elab.async false
set_option linter.all false
set_option maxRecDepth 100000
set_option maxHeartbeats 4000000
namespace WB
open PySem PySem.Spec PyProof.Rows L2 WG
open TL (tl)
/-- f(a, y), y's text known: its token is handed on -/
theorem pek_callK {X : Cx} {y x px : Str} {k i j : Nat} {f : Addr} {fd : FuncData} {ps : List Str} {sp : Sp} {p q1 q2 pos : Pos} (F : FnK X.prog X.w X.K X.mg X.base k f fd ps sp) (room : Room k X.A) (glob : Gl X x) (at_ : X.mg x = some (.ref f)) (kp : PySem.W.keepIn X.K (.ref f) = true) (bnd : Binds X.K fd ps [])
    (hi : X.N[i]? = some px) (vi : Vis X.env.scope px) (hj : X.N[j]? = some y) (loc : X.env.scope.names.lookup y = some .local) (kl : X.env.kindOf y = some .local)
    (n1 : (x == ("__debug__" : Str)) = false := by decide) (n2 : (px == ("__debug__" : Str)) = false := by decide) (n3 : (px == ("__classdict__" : Str)) = false := by decide) (n4 : (y == ("__debug__" : Str)) = false := by decide)
    (s1 : starEach [.Name px q1, .Name y q2] X.env = (false, eval (.Name px q1) X.env) :: starEach [.Name y q2] X.env := by rfl) (s2 : (backTo pos (starEach [.Name y q2] X.env)).any (·.1) = false := by rfl)
    (s3 : starEach [.Name y q2] X.env = (false, eval (.Name y q2) X.env) :: starEach [] X.env := by rfl) :
    PEK X y (.Call (.Name x p) [.Name px q1, .Name y q2] [] pos) (fun σ H Q => ∃ (v : V) (c : Nat), σ[i]? = some (some v) ∧ σ[j]? = some (some (.str (sgn c))) ∧ sp [v, .str (sgn c)] H Q E0) := by
  intro pins st σ H want c inv kt ask
  obtain ⟨v, c', hv, hc, q⟩ := ask
  obtain ⟨m, t, ns, hm, t1, t2⟩ := id kt
  have ec : c' = c := by
    obtain ⟨m', ns', lk⟩ := id inv.loc
    have em : m' = m := ns'.eq_nsMap.trans ns.eq_nsMap.symm
    obtain ⟨u, ru, look⟩ := lk j y _ hj hc (by first | exact .inl loc | exact .inr (.inr loc) | exact .inr (.inl loc))
    rcases look with ⟨_, e⟩ | ⟨z, _⟩
    · rw [em, hm] at e
      obtain ⟨t', e'⟩ := ru
      rw [← Option.some.inj e] at e'
      injection e' with e1 _
      exact (sgn_inj e1).symm
    · rcases z with z | z
      · rw [kl] at z
        cases z
      · rw [kl] at z
        cases z
  subst ec
  refine wpAny_Call_Name_kw (ld_glob inv glob at_ ?_ n1)
  refine PySem.W.callWith_K (h₀ := X.base) inv.ok.mod.kin kp ?_ s1 s2
  rw [s1]
  show wpAny _ _ (spliced ((false, eval (.Name px q1) X.env) :: backTo pos (starEach [.Name y q2] X.env))) _ _ st
  refine Calls.spliced_cons (raw_name hi vi inv hv (fun u ru => ?_) n2 n3)
  rw [s3]
  show wpAny _ _ (spliced ((false, eval (.Name y q2) X.env) :: backTo pos (starEach [] X.env))) _ _ st
  refine Calls.spliced_cons (wpAny_Name (wpAny_loadName_local inv.ok.kind loc ns hm ?_) n4)
  refine Calls.spliced_nil ⟨inv.kIn, ?_⟩
  have rels : Vals [v, .str (sgn c')] [u, .str (sgn c') t] := .cons ru (.cons ⟨t, rfl⟩ .nil)
  have len : [u, Value.str (sgn c') t].length = ps.length := by
    rw [← rels.length]
    exact F.len _ _ _ _ q
  have b := bnd st [u, .str (sgn c') t] inv.kIn (by rw [List.append_nil]; exact len)
  rw [List.append_nil] at b
  show wpAny _ _ (call (.ref f) [u, .str (sgn c') t]) _ _ _
  refine wpAny_mono (wpAny_toks (wpAny_call (Q := fun u s' => EP X pins σ want u s' ∧ ∀ o, st.heap.get? X.env.locals = some o → ∃ sl, s'.heap.get? X.env.locals = some { o with slots := sl }) (codeAny_mono (F.run X.A X.stack st H [u, .str (sgn c') t] _ want E0 c' t room inv.env0 b rels rfl t1 t2 q) fun r st2 got => ?_))) (fun u st2 ⟨le, ep, k2⟩ => ⟨ep, kt.keep k2 le⟩) (fun _ _ z => z.2)
  cases r with
  | error er => exact got.elim
  | ok fl =>
    cases fl with
    | next => exact got.elim
    | brk => exact got.elim
    | cont => exact got.elim
    | ret u =>
      refine ⟨inv.after got, fun o e => ?_⟩
      obtain ⟨v', H', os, bare, un, hok, r, _⟩ := got
      exact un.any e inv.free List.not_mem_nil
end WB

set_option Elab.async false
set_option linter.all false
set_option maxRecDepth 100000
set_option maxHeartbeats 4000000
namespace WB
open PySem PySem.Spec PyProof.Rows L2 WG
open TL (tl)
/-! ### names that are names -/
theorem tl_cut_last (x : Str) : tl (cutS x none (some (-1))) = (tl x).dropLast := by
  show ((((tl x).drop (HT.sIx x.length 0 none)).take (HT.sIx x.length x.length (some (-1)) - HT.sIx x.length 0 none)).toArray).toList = _
  have e2 : HT.sIx x.length x.length (some (-1)) = x.length - 1 := by
    simp [HT.sIx]
    omega
  rw [HT.sIx_none, e2, List.drop_zero, Nat.sub_zero]
  show (tl x).take (x.length - 1) = _
  rw [TL.len_tl, List.dropLast_eq_take]
structure Lp (n : Nat) (cs : List Nat) : Prop where
  ne : cs ≠ []
  le : cs.length ≤ n
  hd : cs.take 1 ≠ [45]
  al : ∀ c ∈ cs, c ∈ tl nameSet
theorem Lp.snoc {n : Nat} {cs : List Nat} (h : Lp n cs) {c : Nat} (hc : c ∈ tl nameSet) : Lp (n + 1) (cs ++ [c]) := by
  obtain ⟨ne, le, hd, al⟩ := h
  refine ⟨by simp, by rw [List.length_append]; show _ + 1 ≤ _; omega, ?_, fun d hd' => ?_⟩
  · cases cs with
    | nil => exact absurd rfl ne
    | cons a r => exact hd
  · rcases List.mem_append.mp hd' with z | z
    · exact al d z
    · rw [List.mem_singleton.mp z]
      exact hc
theorem Lp.dash {n : Nat} {cs : List Nat} (h : Lp n cs) (l : cs.getLast? = some 45) : Lp n (cs.dropLast ++ [120]) := by
  obtain ⟨ne, le, hd, al⟩ := h
  have m : 120 ∈ tl nameSet := by decide +kernel
  match cs, ne, le, hd, al, l with
  | [a], ne, le, hd, al, l =>
    exfalso
    have e : a = 45 := Option.some.inj l
    exact hd (by rw [e]; rfl)
  | a :: b :: r, ne, le, hd, al, l =>
    have dl : (a :: b :: r).dropLast = a :: (b :: r).dropLast := rfl
    refine ⟨by simp, ?_, ?_, fun d hd' => ?_⟩
    · rw [List.length_append, List.length_dropLast]
      show _ - 1 + 1 ≤ n
      have : (a :: b :: r).length = r.length + 2 := rfl
      omega
    · rw [dl]
      exact hd
    · rcases List.mem_append.mp hd' with z | z
      · exact al d (List.dropLast_subset _ z)
      · rw [List.mem_singleton.mp z]
        exact m
theorem Lp.fin {cs : List Nat} (h : Lp 10 cs) (l : cs.getLast? ≠ some 45) (t : cs.take 3 ≠ [110, 111, 45]) : nm cs = true := by
  unfold nm
  rw [decide_eq_true h.ne, decide_eq_true h.le, decide_eq_false h.hd, decide_eq_false l, decide_eq_false t, List.all_eq_true.mpr (fun c hc => decide_eq_true (h.al c hc))]
  rfl
theorem Lp.no {cs : List Nat} (h : Lp 10 cs) (l : cs.getLast? ≠ some 45) (t : cs.take 3 = [110, 111, 45]) : nm ([120] ++ cs.drop 1) = true := by
  obtain ⟨ne, le, hd, al⟩ := h
  have m : 120 ∈ tl nameSet := by decide +kernel
  match cs, ne, le, hd, al, l, t with
  | [], ne, le, hd, al, l, t => exact absurd rfl ne
  | [a], ne, le, hd, al, l, t => cases t
  | a :: b :: r, ne, le, hd, al, l, t =>
    refine Lp.fin ⟨by simp, le, by show [120] ≠ [45]; decide, fun d hd' => ?_⟩ ?_ ?_
    · rcases List.mem_cons.mp hd' with z | z
      · rw [z]
        exact m
      · exact al d (List.mem_cons_of_mem _ z)
    · intro z
      refine l ?_
      have e1 : ([120] ++ (a :: b :: r).drop 1).getLast? = (b :: r).getLast? := by
        show (120 :: b :: r).getLast? = _
        rw [List.getLast?_cons_cons]
      rw [List.getLast?_cons_cons, ← e1]
      exact z
    · intro z
      cases z
theorem at_first (d : Int) (h0 : 0 ≤ d) (h1 : d < 36) : ∃ c ∈ tl nameSet, c ≠ 45 ∧ atI nameSet.cps.toList d = some c := by
  obtain ⟨n, rfl⟩ := Int.eq_ofNat_of_zero_le h0
  have hl : (tl nameSet).length = 37 := by decide +kernel
  have all : ∀ n : Fin 36, (tl nameSet)[n.val]? ≠ some 45 := by decide +kernel
  have hn : n < (tl nameSet).length := by omega
  refine ⟨(tl nameSet)[n], List.getElem_mem hn, fun z => all ⟨n, by omega⟩ ?_, atI_nat (List.getElem?_eq_getElem hn)⟩
  show (tl nameSet)[n]? = some 45
  rw [List.getElem?_eq_getElem hn, z]
section
variable {P : Program} {w : World} {K : PySem.W.Frag} {mg : Str → Option Value} {base : Heap}
def spLNm : Sp := fun vs H Q _ => ∃ p : Addr, vs = [.ref p] ∧ Pot H p ∧ ∀ H' (y : Str), But p H H' → Pot H' p → nm (tl y) = true → Q (.str y) H'
theorem ok_lnm {f fD : Addr} {fd fdD : FuncData} {k : Nat} (F : Fun K "_law_name" "_law_name" st_name f fd) (D_draw : Df K mg "_law_draw" sDraw ["_law_pot_here", "_law_many"] fD fdD) (m_divmod : mg "divmod" = none) (m_range : mg "range" = none) :
    FnOk P w K mg base CX0 (k + 2) f fd ["_law_pot_here"] spLNm := by
  have G_draw : FnOk P w K mg base CX0 (k + 1) fD fdD ["_law_pot_here", "_law_many"] spDraw := ok_draw D_draw.F m_divmod
  refine F.ok sc_name (fun vs H Q E h => ?_) (fun cdv A outer s H vs Q E hr h => ?_)
  · obtain ⟨p, rfl, _⟩ := h
    rfl
  · obtain ⟨p, rfl, hp, q⟩ := h
    refine ⟨_, pss_cons (ps_set (i := 1) sc_name.nd rfl (.inl rfl) pe_str)
      (pss_cons (ps_set (i := 2) sc_name.nd rfl (.inl rfl) (pe_ix ix_str (pv 1) (pe_call G_draw hr (by rfl) D_draw.g D_draw.F.kp D_draw.b .nil pass0 (pa_cons (pv 0) (pa_cons pe_int pa_nil))) (fun _ _ => rfl)))
      (pss_cons (ps_for PassesOwn.never rfl (pi_range1 rfl m_range (pa_cons (pe_call G_draw hr (by rfl) D_draw.g D_draw.F.kp D_draw.b .nil pass0 (pa_cons (pv 0) (pa_cons (pe_ix ix_list (pe_lst (pa_cons pe_int (pa_cons pe_int (pa_cons pe_int pa_nil)))) (pe_call G_draw hr (by rfl) D_draw.g D_draw.F.kp D_draw.b .nil pass0 (pa_cons (pv 0) (pa_cons pe_int pa_nil))) (fun _ _ => rfl)) pa_nil))) pa_nil)) (pg_name (i := 3) sc_name.nd rfl (Or.inl rfl)) (pss_one (ps_set (i := 2) sc_name.nd rfl (.inl rfl) (pe_op op_add_str (pv 2) (pe_ix ix_str (pv 1) (pe_call G_draw hr (by rfl) D_draw.g D_draw.F.kp D_draw.b .nil pass0 (pa_cons (pv 0) (pa_cons pe_int pa_nil))) (fun _ _ => rfl))))))
      (pss_cons (ps_if (pt_cmpR op_eq (pe_ix ix_str (pv 2) (pe_un un_neg pe_int) (fun _ _ => rfl)) pe_str (nomark _)) (pss_one (ps_set (i := 2) sc_name.nd rfl (.inl rfl) (pe_op op_add_str (pe_slice sl_str (pv 2) po_none (po_some (pe_un un_neg pe_int))) pe_str))) pss_nil)
      (pss_cons (ps_if (pt_cmpR op_eq (pe_slice sl_str (pv 2) po_none (po_some pe_int)) pe_str (nomark _)) (pss_one (ps_set (i := 2) sc_name.nd rfl (.inl rfl) (pe_op op_add_str pe_str (pe_slice sl_str (pv 2) (po_some pe_int) po_none)))) pss_nil)
      (pss_one (ps_ret (pv 2))))))), ?_⟩
    have sN : nameSet.length = 37 := by decide +kernel
    have sl : sizeLine = 16777216 := sizeLine_eq
    have tx : tl (Str.ofString "x") = [120] := by decide +kernel
    have lx : (Str.ofString "x").length = 1 := by decide +kernel
    refine ⟨_, rfl, .ref p, rfl, p, 36, rfl, hp, by decide, by decide, fun H1 d1 b1 p1 d10 d11 => ?_⟩
    obtain ⟨c1, m1, n1, e1⟩ := at_first d1 d10 d11
    refine ⟨nameSet, d1, c1, rfl, rfl, by omega, e1, ?_⟩
    have t1 : Lp 1 (tl (⟨#[c1]⟩ : Str)) := ⟨by simp, by simp, fun z => n1 (List.cons.inj z).1, fun c hc => by
      have hc' : c ∈ [c1] := hc
      rw [List.mem_singleton.mp hc']
      exact m1⟩
    refine ⟨.ref p, rfl, by decide +kernel, fun l3 n3 => ?_⟩
    have p2 := p1.new (o := .lst ([(1 : Int), 4, 10].map V.int)) n3
    have nl3 := p1.ne n3
    refine ⟨.ref p, rfl, p, 3, rfl, p2, by decide, by decide, fun H3 d3 b3 p3 d30 d31 => ?_⟩
    obtain ⟨mo, mom, moe⟩ := at_ints [(1 : Int), 4, 10] d3 d30 (by show d3 < 3; exact d31)
    have hmo : 1 ≤ mo ∧ mo ≤ 10 := (by decide : ∀ y ∈ [(1 : Int), 4, 10], 1 ≤ y ∧ y ≤ 10) mo mom
    refine ⟨l3, _, d3, .int mo, rfl, rfl, SqL.of (b3 _ _ nl3.symm upd_same), moe, p, mo, rfl, p3, by omega, by omega, fun H4 d4 b4 p4 d40 d41 => ?_⟩
    have B4 : But p H H4 := ((b1.trans (But.new n3)).trans b3).trans b4
    refine ⟨d4, rfl, by omega, by omega, for_range (lo := 0) (n := d4.toNat) (fun i σ H' => But p H H' ∧ Pot H' p ∧ ∃ (y : Str) (x3 : Option V), σ = [some (.ref p), some (.str nameSet), some (.str y), x3] ∧ Lp (1 + i) (tl y))
      ⟨B4, p4, _, none, rfl, t1⟩ ?_ ?_⟩
    · rintro i σ H5 hi ⟨b5, p5, y, x3, rfl, ty⟩
      refine ⟨.str y, rfl, .str nameSet, rfl, .ref p, rfl, p, 37, rfl, p5, by decide, by decide, fun H6 d6 b6 p6 d60 d61 => ?_⟩
      obtain ⟨c6, m6, e6⟩ := at_sig nameSet d6 d60 (by rw [sN]; omega)
      have ly := ty.le
      rw [← TL.len_tl] at ly
      refine ⟨nameSet, d6, c6, rfl, rfl, by omega, e6, y, _, rfl, rfl, ?_, ?_⟩
      · show y.length + 1 ≤ _
        omega
      · refine ⟨b5.trans b6, p6, _, _, rfl, ?_⟩
        rw [TL.tl_append]
        exact ty.snoc m6
    · rintro σ H5 ⟨b5, p5, y, x3, rfl, ty⟩
      have hl := ty.le
      have ty10 : Lp 10 (tl y) := ⟨ty.ne, by omega, ty.hd, ty.al⟩
      have ly : y.length ≤ 10 := by
        rw [TL.len_tl]
        exact ty10.le
      have y0 : 0 < y.length := by
        rw [TL.len_tl]
        exact List.length_pos_iff.mpr ty.ne
      obtain ⟨c7, m7, g7, e7⟩ := at_last y y0
      dsimp only [tSeq]
      refine ts_gen (t := tIfS _ _ _) (fun σ' H' => H' = H5 ∧ ∃ z, (Lp 10 (tl z) ∧ (tl z).getLast? ≠ some 45) ∧ σ' = [some (.ref p), some (.str nameSet), some (.str z), x3]) (fun κ kc => ?_) ?_
      · refine ⟨.str y, rfl, 1, rfl, y, -1, c7, rfl, rfl, by omega, e7, rfl, _, rfl, ite2 (fun e => ?_) (fun e => ?_)⟩
        · have e45 : c7 = 45 := by
            rw [dec_lit _ "-" (l := [45]) (by decide +kernel)] at e
            exact (List.cons.inj (of_decide_eq_true e)).1
          rw [e45] at g7
          refine ⟨.str y, rfl, 1, rfl, -1, rfl, y, rfl, by omega, _, _, rfl, rfl, ?_, kc _ _ ⟨rfl, _, ⟨?_, ?_⟩, rfl⟩⟩
          · have := cutS_length y none (some (-1))
            rw [lx]
            omega
          · rw [TL.tl_append, tl_cut_last, tx]
            exact ty10.dash g7
          · rw [TL.tl_append, tx, List.getLast?_append]
            show some 120 ≠ some 45
            decide
        · refine kc _ _ ⟨rfl, y, ⟨ty10, fun z => e ?_⟩, rfl⟩
          rw [dec_lit _ "-" (l := [45]) (by decide +kernel)]
          rw [g7] at z
          rw [Option.some.inj z]
          rfl
      · rintro σ' H' ⟨rfl, z, ⟨tz, lz45⟩, rfl⟩
        have lz : z.length ≤ 10 := by
          rw [TL.len_tl]
          exact tz.le
        dsimp only [tSeq]
        refine ts_gen (t := tIfS _ _ _) (fun σ' H'' => H'' = H' ∧ ∃ z, nm (tl z) = true ∧ σ' = [some (.ref p), some (.str nameSet), some (.str z), x3]) (fun κ kc => ?_) ?_
        · refine ⟨.str z, rfl, 3, rfl, z, rfl, by omega, rfl, _, rfl, ite2 (fun e => ?_) (fun e => ?_)⟩
          · have e3 : (tl z).take 3 = [110, 111, 45] := by
              rw [dec_lit _ "no-" (l := [110, 111, 45]) (by decide +kernel)] at e
              rw [← tl_cut_to z 3]
              exact of_decide_eq_true e
            refine ⟨.str z, rfl, 1, rfl, z, rfl, by omega, _, _, rfl, rfl, ?_, kc _ _ ⟨rfl, _, ?_, rfl⟩⟩
            · have := cutS_length z (some 1) none
              rw [lx]
              omega
            · rw [TL.tl_append, tx, show tl (cutS z (some 1) none) = (tl z).drop 1 from tl_cut_from z 1]
              exact tz.no lz45 e3
          · refine kc _ _ ⟨rfl, z, tz.fin lz45 (fun w => e ?_), rfl⟩
            rw [dec_lit _ "no-" (l := [110, 111, 45]) (by decide +kernel)]
            refine decide_eq_true ?_
            rw [show tl (cutS z none (some 3)) = (tl z).take 3 from tl_cut_to z 3]
            exact w
        · rintro σ' H'' ⟨rfl, z2, tz2, rfl⟩
          exact ⟨.str z2, rfl, q _ _ b5 p5 tz2⟩
end
/-! ### if k not in d, the text of y known before and after -/
def tIfNI (ta tb : TE) (u : TS) : TS := fun D σ H => ta σ H fun z H1 => tb σ H1 fun x H2 => ∃ (d : Addr) (kvs : List (Key × V)) (k : Key), x = .ref d ∧ Rd H2 d (.dK kvs) ∧ z = kV k ∧ (valV kvs k = none → u D σ H2) ∧ (∀ v, valV kvs k = some v → D.nx σ H2)
theorem psk_ifNI {X : Cx} {y : Str} {a b : Expr} {ta tb : TE} {body : List Stmt} {u : TS} {cpos pos : Pos} (ha : PEK X y a ta) (hb : PEK X y b tb)
    (hr : ∀ (pins : List (Addr × Obj)) (s : Shared) (σ : L2.St) (H : Hp) (D : Ends) (c : Nat), Inv X pins σ H s → Kt X y c s → u D σ H → wpAny (model X.prog X.w) X.A (execs body X.env) (SP X pins D) X.xe s) (h1 : behindInMarks .NotIn b = false := by rfl) :
    ∀ (pins : List (Addr × Obj)) (s : Shared) (σ : L2.St) (H : Hp) (D : Ends) (c : Nat), Inv X pins σ H s → Kt X y c s → tIfNI ta tb u D σ H → wpAny (model X.prog X.w) X.A (execs [.If (.Compare a [.NotIn] [b] cpos) body [] pos] X.env) (SP X pins D) X.xe s := by
  intro pins st σ H D c inv kt ask
  refine wpAny_execs_cons (wpAny_If (wpAny_isTrue_Compare1 (thn (ha pins st σ H _ c inv kt ask) fun v st1 ⟨⟨z, H1, inv1, rz, q1⟩, kt1⟩ => thn (hb pins st1 σ H1 _ c inv1 kt1 q1) fun w st2 ⟨⟨x, H2, inv2, rx, d, kvs, k, ex, rd, ez, qn, qs⟩, kt2⟩ => ?_) h1))
  subst ex ez
  cases (show w = Value.ref d from rx)
  obtain ⟨_, hd, vs, rel, dd⟩ := dk_rd inv2.hok rd
  refine wpAny_notIn_of (kV_is rz) hd dd.mapOf (wpAny_truthy_bool ?_)
  have inv3 := inv2.tok (st2.toks + 1)
  have kt3 : Kt X y c { st2 with toks := st2.toks + 1 } := kt2.tok (Nat.le_succ _)
  have es : (valueAt vs k).isSome = (valV kvs k).isSome := (rel.val k).isSome_eq.symm
  rw [es]
  have fin : ∀ f s', SP X pins D f s' → (match f with | .next => wpAny (model X.prog X.w) X.A (execs [] X.env) (SP X pins D) X.xe s' | f => SP X pins D f s') := fun f s' q => by
    cases f with
    | next => exact wpAny_execs_nil q
    | ret v => exact q
    | brk => exact q
    | cont => exact q
  cases hv : valV kvs k with
  | none => exact thn (hr pins _ σ H2 D c inv3 kt3 (qn hv)) fin
  | some v => exact wpAny_execs_nil (wpAny_execs_nil ⟨σ, H2, inv3, qs v hv⟩)
end WB

set_option Elab.async false
set_option linter.all false
set_option maxRecDepth 100000
set_option maxHeartbeats 4000000
namespace WB
open PySem PySem.Spec PyProof.Rows L2 WG
open NdefX (TabN)
open LamX (TabB ExtN)
open TL (tl)
abbrev st_table : Stmt := topS 35
theorem sc_table : FnScope ["_law_pot_here", "_law_table_here", "_law_held", "_law_k", "_law_name_here", "_law_bad"] ["_law_pot_here"] (defScope st_table) := ⟨rfl, rfl, rfl, by decide +kernel, rfl, by decide +kernel, by decide +kernel⟩
/-! ### what stays while the table is made -/
/-- all but the pot, the two dicts and the tables -/
def G3 (p t hd : Addr) (H H' : Hp) : Prop := ∀ b o, b ≠ p → b ≠ t → b ≠ hd → H b = some o → (∀ ps, o ≠ .tbl ps) → H' b = some o
theorem G3.trans {p t hd : Addr} {H H1 H2 : Hp} (a : G3 p t hd H H1) (b : G3 p t hd H1 H2) : G3 p t hd H H2 := fun x o n1 n2 n3 e z => b x o n1 n2 n3 (a x o n1 n2 n3 e z) z
theorem G3.but {p t hd : Addr} {H H' : Hp} (b : But p H H') : G3 p t hd H H' := fun x o n1 _ _ e _ => b x o n1 e
theorem G3.same {p t hd : Addr} {H H' : Hp} (b : Same H H') : G3 p t hd H H' := fun x o _ _ _ e _ => b x o e
theorem G3.ext {p t hd : Addr} {H H' : Hp} (b : ExtN H H') : G3 p t hd H H' := fun x o _ _ _ e z => b x o e z
theorem G3.at_t {p t hd : Addr} {H H' : Hp} (b : But t H H') : G3 p t hd H H' := fun x o _ n _ e _ => b x o n e
theorem G3.at_hd {p t hd : Addr} {H H' : Hp} (b : But hd H H') : G3 p t hd H H' := fun x o _ _ n e _ => b x o n e
theorem tab_q {H H' : Hp} {T q : Addr} {nm : Nat → Nat → Str} {u : HO} (t : TabN H T nm) (b : But q H H') (e : H q = some u) (n1 : ∀ ps, u ≠ .tbl ps) (n2 : ∀ φ, u ≠ .ext φ) : TabN H' T nm := by
  obtain ⟨ps, h1, h2, h3⟩ := t
  refine ⟨ps, b _ _ (fun z => by rw [z, e] at h1; exact n1 _ (Option.some.inj h1)) h1, h2, fun pos cv hc => ?_⟩
  obtain ⟨c, e1, e2⟩ := h3 pos cv hc
  exact ⟨c, e1, b _ _ (fun z => by rw [z, e] at e2; exact n2 _ (Option.some.inj e2)) e2⟩
theorem tab_p {H H' : Hp} {T p : Addr} {nm : Nat → Nat → Str} (t : TabN H T nm) (b : But p H H') (pt : Pot H p) : TabN H' T nm := by
  obtain ⟨_, _, e, _⟩ := pt
  exact tab_q t b e (fun _ z => by cases z) (fun _ z => by cases z)
theorem pot_q {H H' : Hp} {p q : Addr} (pt : Pot H p) (b : But q H H') (n : p ≠ q) : Pot H' p := by
  obtain ⟨i, j, e, r⟩ := pt
  exact ⟨i, j, b _ _ n e, r⟩
theorem pot_same {H H' : Hp} {p : Addr} (pt : Pot H p) (b : Same H H') : Pot H' p := by
  obtain ⟨i, j, e, r⟩ := pt
  exact ⟨i, j, b _ _ e, r⟩
theorem pot_ext {H H' : Hp} {p : Addr} (pt : Pot H p) (b : ExtN H H') : Pot H' p := by
  obtain ⟨i, j, e, r⟩ := pt
  exact ⟨i, j, b _ _ e (fun _ z => by cases z), r⟩
theorem MkA.g3 {p t hd : Addr} {H H' : Hp} {g d o : Addr} {c : Nat} (h : MkA H g d c o) (s : ∀ b φ, H b = some (.ext φ) → H' b = some (.ext φ)) : MkA H' g d c o := by
  obtain ⟨F, c1, c2, c3, h1, h2, e1, e2, e3, e4, e5⟩ := h
  exact ⟨F, c1, c2, c3, h1, h2, s _ _ e1, s _ _ e2, s _ _ e3, s _ _ e4, s _ _ e5⟩
theorem RgtE.g3 {p t hd : Addr} {S S' : List Addr} {H H' : Hp} {e : Ent} {k1 k2 : List (Key × V)} (h : RgtE H S 0 0 e) (g : G3 p t hd H H') (pt : Pot H p) (et : H t = some (.dK k1)) (eh : H hd = some (.dK k2)) (tS : t ∉ S) (hS : hd ∉ S) (nv : e.ov ≠ .ref t ∧ e.ov ≠ .ref hd)
    (sub : ∀ a ∈ S, a ∈ S') (new : ∀ a ∈ S', a ∈ S ∨ H a = none) : RgtE H' S' 0 0 e := by
  have keep : ∀ {b : Addr} {o : HO}, H b = some o → (∀ i j, o ≠ .lst [.int i, .int j]) → (∀ k, o ≠ .dK k) → (∀ ps, o ≠ .tbl ps) → H' b = some o := fun {b o} eb n1 n2 n3 =>
    g b o (pot_ne pt eb n1) (fun z => by rw [z, et] at eb; exact n2 _ (Option.some.inj eb).symm) (fun z => by rw [z, eh] at eb; exact n2 _ (Option.some.inj eb).symm) eb n3
  have kt : ∀ {b : Addr} {xs : List V}, H b = some (.tup xs) → H' b = some (.tup xs) := fun {b xs} z => keep z (fun _ _ w => by cases w) (fun _ w => by cases w) (fun _ w => by cases w)
  have kd : ∀ {b : Addr} {k : List (Key × V)}, H b = some (.dK k) → b ≠ t → b ≠ hd → H' b = some (.dK k) := fun {b k} z n1 n2 => g b _ (pot_ne pt z (fun _ _ w => by cases w)) n1 n2 z (fun _ w => by cases w)
  have kp : Kp H' 0 0 e.dc := by
    obtain ⟨kvs, ek, lk, hk⟩ := h.ok.kp
    refine ⟨kvs, kd ek (fun z => tS (z ▸ h.dS)) (fun z => hS (z ▸ h.dS)), lk, fun q hq => ?_⟩
    have : kvs = [] := List.length_eq_zero_iff.mp (Nat.le_zero.mp lk)
    rw [this] at hq
    cases hq
  refine ⟨⟨kt h.ok.tp, MkA.g3 (p := p) (t := t) (hd := hd) h.ok.ma (fun b φ z => keep z (fun _ _ w => by cases w) (fun _ w => by cases w) (fun _ w => by cases w)), kt h.ok.oe, kt h.ok.oh, kp, h.ok.nl, h.ok.sl, h.ok.sc⟩, kt h.hpE, h.bd, h.sd, ?_, fun a ea hm => ?_, sub _ h.dS, h.nc⟩
  · obtain ⟨r, o⟩ := h.ov
    refine ⟨r, ?_⟩
    generalize e.ov = v at o nv
    cases o with
    | non => exact .non
    | bl => exact .bl
    | int => exact .int
    | str => exact .str
    | tup z => exact .tup (kt z)
    | lst z => exact .lst (keep z (fun _ _ w => by cases w) (fun _ w => by cases w) (fun _ w => by cases w))
    | dct z => exact .dct (kd z (fun w => nv.1 (by rw [w])) (fun w => nv.2 (by rw [w])))
  · rcases new a hm with z | z
    · exact h.ovS a ea z
    · obtain ⟨r, o⟩ := h.ov
      rw [ea] at o
      cases o with
      | tup w => rw [z] at w; cases w
      | lst w => rw [z] at w; cases w
      | dct w => rw [z] at w; cases w
/-- the table and what is held, so far -/
structure TabI (p t hd T : Addr) (H : Hp) (es : List Ent) : Prop where
  et : H t = some (.dK (kvsOf es))
  eh : H hd = some (.dK (mapOf (fun e => V.ref e.hp) es))
  nth : t ≠ hd
  tS : t ∉ dcs es
  hS : hd ∉ dcs es
  nod : (es.map (·.nmE)).Nodup
  ok : ∀ e ∈ es, okE e = true ∧ RgtE H (dcs es) 0 0 e
  nv : ∀ e ∈ es, e.ov ≠ .ref t ∧ e.ov ≠ .ref hd
  pot : Pot H p
  tab : TabN H T nmT
/-- only the pot, and what is new -/
theorem TabI.but {p t hd T : Addr} {H H' : Hp} {es : List Ent} (h : TabI p t hd T H es) (b : But p H H') (p' : Pot H' p) : TabI p t hd T H' es :=
  ⟨b _ _ (pot_ne h.pot h.et (fun _ _ z => by cases z)) h.et, b _ _ (pot_ne h.pot h.eh (fun _ _ z => by cases z)) h.eh, h.nth, h.tS, h.hS, h.nod,
    fun e he => ⟨(h.ok e he).1, (h.ok e he).2.g3 (G3.but b) h.pot h.et h.eh h.tS h.hS (h.nv e he) (fun _ z => z) (fun _ z => .inl z)⟩, h.nv, p', tab_p h.tab b h.pot⟩
theorem nm_len {y : Str} (h : nm (tl y) = true) : y.length ≤ 10 ∧ ∀ c ∈ tl y, c < 256 := by
  unfold nm at h
  simp only [Bool.and_eq_true, decide_eq_true_eq] at h
  refine ⟨by rw [TL.len_tl]; exact h.1.1.1.1.2, fun c hc => ?_⟩
  have := List.all_eq_true.mp h.2 c hc
  exact lit8 nameSet List.mem_cons_self c (of_decide_eq_true this)
def tSmp : TE := fun σ H Q => ∃ (v : V) (c : Nat), σ[0]? = some (some v) ∧ σ[5]? = some (some (.str (sgn c))) ∧ spLSample [v, .str (sgn c)] H Q E0
def tTabIf (K : PySem.W.Frag) (T : Addr) : TS := tIfNI (tVar 4) (tVar 1) (tPutK (tVar 2) (tVar 4) (tTup (tCons tDNewK (tCons (tVar 5) (tCons (tCall spOdd [] E0 (tCons (tVar 0) (tCons (tVar 5) tNil))) tNil))))
  (tPutK (tVar 1) (tVar 4) (tTup (tCons (tCall (spOwn T) [] E0 (tCons (tOp (rIxT K) (tDGetK (tVar 2) (tVar 4)) (tC (.int 0))) (tCons (tVar 5) (tCons (tOp (rIxT K) (tDGetK (tVar 2) (tVar 4)) (tC (.int 2))) tNil)))) (tCons tSmp tNil))) tNext))
/-- one more entry -/
theorem TabI.more {K : PySem.W.Frag} {p t hd T : Addr} {H : Hp} {es : List Ent} (h : TabI p t hd T H es) {y : Str} {c : Nat} (hn : valV (kvsOf es) (Sum.inr y) = none) (ny : nm (tl y) = true) (hc : c < 256) (le : es.length ≤ 100) {D : Ends} {x3 : Option V}
    (q : ∀ H' e, G3 p t hd H H' → TabI p t hd T H' (es ++ [e]) → D.nx [some (.ref p), some (.ref t), some (.ref hd), x3, some (.str y), some (.str (sgn c))] H') :
    tPutK (tVar 2) (tVar 4) (tTup (tCons tDNewK (tCons (tVar 5) (tCons (tCall spOdd [] E0 (tCons (tVar 0) (tCons (tVar 5) tNil))) tNil))))
  (tPutK (tVar 1) (tVar 4) (tTup (tCons (tCall (spOwn T) [] E0 (tCons (tOp (rIxT K) (tDGetK (tVar 2) (tVar 4)) (tC (.int 0))) (tCons (tVar 5) (tCons (tOp (rIxT K) (tDGetK (tVar 2) (tVar 4)) (tC (.int 2))) tNil)))) (tCons tSmp tNil))) tNext)
      D [some (.ref p), some (.ref t), some (.ref hd), x3, some (.str y), some (.str (sgn c))] H := by
  have sl : sizeLine = 16777216 := sizeLine_eq
  have ntp : t ≠ p := pot_ne h.pot h.et (fun _ _ z => by cases z)
  have nhp : hd ≠ p := pot_ne h.pot h.eh (fun _ _ z => by cases z)
  have nyn : y ∉ es.map (·.nmE) := fun hm => by
    obtain ⟨e, he, rfl⟩ := List.mem_map.mp hm
    have := val_of (fun e => V.ref e.tp) h.nod he
    rw [show valV (mapOf (fun e => V.ref e.tp) es) (Sum.inr e.nmE) = none from hn] at this
    cases this
  have hnh := val_no (fun e => V.ref e.hp) nyn
  intro d nd
  have ndp : d ≠ p := (h.pot.ne nd).symm
  have ndt : t ≠ d := ne_of_none h.et nd
  have ndh : hd ≠ d := ne_of_none h.eh nd
  have s1 : Same H (upd H d (.dK [])) := same_upd nd
  have e1 : (upd H d (.dK [])) d = some (.dK []) := upd_same
  revert s1 e1
  generalize upd H d (.dK []) = H1
  intro s1 e1
  have p1 := pot_same h.pot s1
  refine ⟨.str (sgn c), rfl, .ref p, rfl, .str (sgn c), rfl, p, c, rfl, p1, fun H2 o c2 ov r b2 p2 no eo hc2 hov fr nop => ?_⟩
  refine ⟨by show 3 ≤ sizeLine; decide, fun hp nhp' => ?_⟩
  have nhpp : hp ≠ p := (p2.ne nhp').symm
  have s3 : Same H2 (upd H2 hp (.tup [.ref d, .str (sgn c), .ref o])) := same_upd nhp'
  have e3 : (upd H2 hp (.tup [.ref d, .str (sgn c), .ref o])) hp = some (.tup [.ref d, .str (sgn c), .ref o]) := upd_same
  revert s3 e3
  generalize upd H2 hp (.tup [.ref d, .str (sgn c), .ref o]) = H3
  intro s3 e3
  have p3 := pot_same p2 s3
  have B3 : But p H H3 := ((But.of_same s1).trans b2).trans (But.of_same s3)
  have eh3 := B3 _ _ nhp h.eh
  have et3 := B3 _ _ ntp h.et
  have ed3 : H3 d = some (.dK []) := s3 _ _ (b2 _ _ ndp e1)
  refine ⟨.ref hd, rfl, .str y, rfl, hd, _, Sum.inr y, rfl, eh3, rfl, by rw [show (mapOf (fun e => V.ref e.hp) es).length = es.length from by unfold mapOf; rw [List.length_map]]; omega, ?_⟩
  rw [put_none hnh]
  have b4 : But hd H3 (upd H3 hd (.dK (mapOf (fun e => V.ref e.hp) es ++ [(Sum.inr y, V.ref hp)]))) := But.upd _ _ _
  have e4 : (upd H3 hd (.dK (mapOf (fun e => V.ref e.hp) es ++ [(Sum.inr y, V.ref hp)]))) hd = some (.dK (mapOf (fun e => V.ref e.hp) es ++ [(Sum.inr y, V.ref hp)])) := upd_same
  revert b4 e4
  generalize upd H3 hd (.dK (mapOf (fun e => V.ref e.hp) es ++ [(Sum.inr y, V.ref hp)])) = H4
  intro b4 e4
  have neh : ∀ {b : Addr} {o : HO}, H3 b = some o → (∀ k, o ≠ .dK k) → b ≠ hd := fun {b o} eb n z => by
    rw [z, eh3] at eb
    exact n _ (Option.some.inj eb).symm
  have p4 : Pot H4 p := pot_q p3 b4 nhp.symm
  have et4 := b4 _ _ h.nth et3
  have ed4 := b4 _ _ (Ne.symm ndh) ed3
  have e34 : H4 hp = some (.tup [.ref d, .str (sgn c), .ref o]) := b4 _ _ (neh e3 (fun _ z => by cases z)) e3
  have eo3 := s3 _ _ eo
  have eo4 := b4 _ _ (neh eo3 (fun _ z => by cases z)) eo3
  have vl : valV (mapOf (fun e => V.ref e.hp) es ++ [(Sum.inr y, V.ref hp)]) (Sum.inr y) = some (.ref hp) := val_last hnh
  have tab4 : TabN H4 T nmT := tab_q ((tab_p (h.tab.ext s1) b2 p1).ext s3) b4 eh3 (fun _ z => by cases z) (fun _ z => by cases z)
  refine ⟨.ref hd, rfl, .str y, rfl, hd, _, Sum.inr y, .ref hp, rfl, .inl e4, rfl, vl, hp, _, 0, .ref d, rfl, rfl, SqT.of e34, rfl, .str (sgn c), rfl, .ref hd, rfl, .str y, rfl, hd, _, Sum.inr y, .ref hp, rfl, .inl e4, rfl, vl, hp, _, 2, .ref o, rfl, rfl, SqT.of e34, rfl, d, c, o, rfl, tab4, fun H5 g x5 tab5 ng mk => ?_⟩
  have p5 := pot_ext p4 x5
  refine ⟨.ref p, c, rfl, rfl, p, c, rfl, p5, fun H6 z b6 p6 lz cz nz pz => ?_⟩
  refine ⟨by show 2 ≤ sizeLine; decide, fun tp ntp' => ?_⟩
  have s7 : Same H6 (upd H6 tp (.tup [.ref g, .str z])) := same_upd ntp'
  have e7 : (upd H6 tp (.tup [.ref g, .str z])) tp = some (.tup [.ref g, .str z]) := upd_same
  revert s7 e7
  generalize upd H6 tp (.tup [.ref g, .str z]) = H7
  intro s7 e7
  have p7 := pot_same p6 s7
  -- from H4 on to H7
  have k47 : ∀ {b : Addr} {o : HO}, b ≠ p → H4 b = some o → (∀ ps, o ≠ .tbl ps) → H7 b = some o := fun {b o} n e z => s7 _ _ (b6 _ _ n (x5 _ _ e z))
  have et7 := k47 ntp et4 (fun _ z => by cases z)
  have eh7 := k47 nhp e4 (fun _ z => by cases z)
  refine ⟨.ref t, rfl, .str y, rfl, t, _, Sum.inr y, rfl, et7, rfl, by rw [show (kvsOf es).length = es.length from List.length_map _]; omega, ?_⟩
  rw [put_none hn]
  have b8 : But t H7 (upd H7 t (.dK (kvsOf es ++ [(Sum.inr y, V.ref tp)]))) := But.upd _ _ _
  have e8 : (upd H7 t (.dK (kvsOf es ++ [(Sum.inr y, V.ref tp)]))) t = some (.dK (kvsOf es ++ [(Sum.inr y, V.ref tp)])) := upd_same
  revert b8 e8
  generalize upd H7 t (.dK (kvsOf es ++ [(Sum.inr y, V.ref tp)])) = H8
  intro b8 e8
  have net : ∀ {b : Addr} {o : HO}, H7 b = some o → (∀ k, o ≠ .dK k) → b ≠ t := fun {b o} eb n z => by
    rw [z, et7] at eb
    exact n _ (Option.some.inj eb).symm
  have G : G3 p t hd H H8 := (((((G3.but B3).trans (G3.at_hd b4)).trans (G3.ext x5)).trans (G3.but b6)).trans (G3.same s7)).trans (G3.at_t b8)
  let ne : Ent := { nmE := y, bad := c, smp := z, sg := c2, ov := ov, tp := tp, fn := g, dc := d, od := o, hp := hp, oh := o }
  have k48 : ∀ {b : Addr} {o : HO}, b ≠ p → H4 b = some o → (∀ ps, o ≠ .tbl ps) → b ≠ t → H8 b = some o := fun {b o} n e z nt => b8 _ _ nt (k47 n e z)
  have k4t : ∀ {b : Addr} {xs : List V}, H4 b = some (.tup xs) → H8 b = some (.tup xs) := fun {b xs} e => by
    have n := pot_ne p4 e (fun _ _ z => by cases z)
    have e' := k47 n e (fun _ z => by cases z)
    exact b8 _ _ (net e' (fun _ z => by cases z)) e'
  have frS : ∀ {a : Addr}, H1 a = none → a ∉ dcs es := fun {a} na hm => by
    obtain ⟨e, he, ea⟩ := List.mem_map.mp hm
    obtain ⟨kvs, ek, _⟩ := (h.ok e he).2.ok.kp
    rw [ea] at ek
    rw [s1 _ _ ek] at na
    cases na
  have dc' : dcs (es ++ [ne]) = dcs es ++ [d] := by
    show List.map _ _ = _
    rw [List.map_append]
    rfl
  have hk2 : kvsOf (es ++ [ne]) = kvsOf es ++ [(Sum.inr y, V.ref tp)] := by
    unfold kvsOf
    rw [List.map_append]
    rfl
  have hm2 : mapOf (fun e => V.ref e.hp) (es ++ [ne]) = mapOf (fun e => V.ref e.hp) es ++ [(Sum.inr y, V.ref hp)] := by
    unfold mapOf
    rw [List.map_append]
    rfl
  have ov4 : OvOk H8 ov r ∧ (∀ a, ov = .ref a → a ∉ dcs es ++ [d]) ∧ ov ≠ .ref t ∧ ov ≠ .ref hd := by
    have nn : ∀ a, ov = .ref a → a ∉ dcs es ++ [d] := fun a ea hm => by
      obtain ⟨na, nap⟩ := fr a ea
      rcases List.mem_append.mp hm with w | w
      · exact frS na w
      · rw [List.mem_singleton.mp w, e1] at na
        cases na
    have nt : ov ≠ .ref t := fun w => by
      obtain ⟨na, _⟩ := fr t w
      rw [s1 _ _ h.et] at na
      cases na
    have nh : ov ≠ .ref hd := fun w => by
      obtain ⟨na, _⟩ := fr hd w
      rw [s1 _ _ h.eh] at na
      cases na
    refine ⟨?_, nn, nt, nh⟩
    cases hov with
    | non => exact .non
    | bl => exact .bl
    | int => exact .int
    | str => exact .str
    | tup w => exact .tup (k4t (b4 _ _ (neh (s3 _ _ w) (fun _ z => by cases z)) (s3 _ _ w)))
    | lst w =>
      have n := pot_ne p2 w (fun _ _ z => by cases z)
      exact .lst (k48 n (b4 _ _ (neh (s3 _ _ w) (fun _ z => by cases z)) (s3 _ _ w)) (fun _ z => by cases z) (fun w' => nt (by rw [w'])))
    | dct w =>
      have n := pot_ne p2 w (fun _ _ z => by cases z)
      exact .dct (k48 n (b4 _ _ (fun w' => nh (by rw [w'])) (s3 _ _ w)) (fun _ z => by cases z) (fun w' => nt (by rw [w'])))
  obtain ⟨ov8, ovS8, ovt, ovh⟩ := ov4
  obtain ⟨yl, yc⟩ := nm_len ny
  have rn : RgtE H8 (dcs (es ++ [ne])) 0 0 ne := by
    rw [dc']
    refine ⟨⟨b8 _ _ (net e7 (fun _ z => by cases z)) e7, MkA.g3 (p := p) (t := t) (hd := hd) mk (fun b φ e => ?_), k4t eo4, k4t eo4, ⟨[], ?_, Nat.le_refl _, fun q hq => by cases hq⟩, by show y.length ≤ 100; omega, lz, cz⟩, k4t e34, hc, hc2, ⟨r, ov8⟩, ovS8, List.mem_append_right _ (List.mem_singleton.mpr rfl), yc⟩
    · have e' := s7 _ _ (b6 _ _ (pot_ne p5 e (fun _ _ z => by cases z)) e)
      exact b8 _ _ (net e' (fun _ z => by cases z)) e'
    · exact k48 ndp ed4 (fun _ z => by cases z) (Ne.symm ndt)
  refine q H8 ne G ⟨by rw [hk2]; exact e8, by rw [hm2]; exact b8 _ _ (Ne.symm h.nth) eh7, h.nth, ?_, ?_, ?_, fun e he => ?_, fun e he => ?_, pot_q p7 b8 ntp.symm, ?_⟩
  · rw [dc']
    exact fun hm => (List.mem_append.mp hm).elim h.tS (fun w => ndt (List.mem_singleton.mp w))
  · rw [dc']
    exact fun hm => (List.mem_append.mp hm).elim h.hS (fun w => ndh (List.mem_singleton.mp w))
  · rw [List.map_append]
    refine List.nodup_append.mpr ⟨h.nod, List.nodup_cons.mpr ⟨List.not_mem_nil, List.nodup_nil⟩, fun a ha b hb w => ?_⟩
    rw [List.mem_singleton.mp hb] at w
    exact nyn (by rw [← show a = y from w]; exact ha)
  · rcases List.mem_append.mp he with w | w
    · refine ⟨(h.ok e w).1, ?_⟩
      rw [dc']
      exact (h.ok e w).2.g3 G h.pot h.et h.eh h.tS h.hS (h.nv e w) (fun a ha => List.mem_append_left _ ha) (fun a ha => (List.mem_append.mp ha).elim .inl (fun z => .inr (by rw [List.mem_singleton.mp z]; exact nd)))
    · rw [List.mem_singleton.mp w]
      refine ⟨?_, rn⟩
      show (isNm (.str y) && (plainW (tl z) && !decide (c ∈ tl z))) = true
      rw [show isNm (.str y) = true from ny, pz, decide_eq_false nz]
      rfl
  · rcases List.mem_append.mp he with w | w
    · exact h.nv e w
    · rw [List.mem_singleton.mp w]
      exact ⟨ovt, ovh⟩
  · exact tab_q ((tab_p tab5 b6 p5).ext s7) b8 et7 (fun _ z => by cases z) (fun _ z => by cases z)
section
variable {P : Program} {w : World} {K : PySem.W.Frag} {mg : Str → Option Value} {base : Heap}
def spTable (T : Addr) : Sp := fun vs H Q _ => ∃ p : Addr, vs = [.ref p] ∧ Pot H p ∧ TabN H T nmT ∧ ∀ H' u t hd es, (∀ b o, b ≠ p → H b = some o → (∀ ps, o ≠ .tbl ps) → H' b = some o) → TabI p t hd T H' es → es.length ≤ 11 → H' u = some (.tup [.ref t, .ref hd]) → H t = none → H hd = none → Q (.ref u) H'
theorem lit_bad : ∀ c ∈ tl (Str.ofString "ax-,: '0"), c < 256 := by decide +kernel
theorem ok_table {T f fD fN fO fOw fS : Addr} {fd fdD fdN fdO fdOw fdS : FuncData} {k : Nat} (F : Fun K "_law_table" "_law_table" st_table f fd) (D_draw : Df K mg "_law_draw" sDraw ["_law_pot_here", "_law_many"] fD fdD) (D_name : Df K mg "_law_name" st_name ["_law_pot_here"] fN fdN)
    (D_odd : Df K mg "_law_odd" st_odd ["_law_pot_here", "_law_bad"] fO fdO) (G_own : FnOk P w K mg base CX0 (k + 3) fOw fdOw ["_law_kept", "_law_bad", "_law_odd_here"] (spOwn T)) (g_own : mg "_law_own" = some (.ref fOw)) (kp_own : PySem.W.keepIn K (.ref fOw) = true) (b_own : Binds K fdOw ["_law_kept", "_law_bad", "_law_odd_here"] [])
    (D_sample : Df K mg "_law_sample" st_sample ["_law_pot_here", "_law_bad"] fS fdS) (G_sample : FnK P w K mg base (k + 3) fS fdS ["_law_pot_here", "_law_bad"] spLSample)
    (m_divmod : mg "divmod" = none) (m_len : mg "len" = none) (m_range : mg "range" = none) :
    FnOk P w K mg base CX0 (k + 4) f fd ["_law_pot_here"] (spTable T) := by
  have G_draw : FnOk P w K mg base CX0 (k + 3) fD fdD ["_law_pot_here", "_law_many"] spDraw := ok_draw D_draw.F m_divmod
  have G_name : FnOk P w K mg base CX0 (k + 3) fN fdN ["_law_pot_here"] spLNm := ok_lnm D_name.F D_draw m_divmod m_range
  have G_odd : FnOk P w K mg base CX0 (k + 3) fO fdO ["_law_pot_here", "_law_bad"] spOdd := ok_odd D_odd.F D_draw m_divmod m_len
  refine F.ok sc_table (fun vs H Q E h => ?_) (fun cdv A outer s H vs Q E hr h => ?_)
  · obtain ⟨p, rfl, _⟩ := h
    rfl
  · obtain ⟨p, rfl, hp, tab, q⟩ := h
    refine ⟨_, (pss_cons (ps_set (i := 1) sc_table.nd rfl (.inl rfl) pe_dnewK)
      (pss_cons (ps_set (i := 2) sc_table.nd rfl (.inl rfl) pe_dnewK)
      (pss_cons (ps_for PassesOwn.never rfl (pi_range1 rfl m_range (pa_cons (pe_call G_draw hr (by rfl) D_draw.g D_draw.F.kp D_draw.b .nil pass0 (pa_cons (pv 0) (pa_cons pe_int pa_nil))) pa_nil)) (pg_name (i := 3) sc_table.nd rfl (Or.inl rfl))
        (pss_cons (ps_set (i := 4) sc_table.nd rfl (.inl rfl) (pe_call G_name hr (by rfl) D_name.g D_name.F.kp D_name.b .nil pass0 (pa_cons (pv 0) pa_nil)))
        (pss_kt (i := 5) (y := ("_law_bad" : Str)) (u := tTabIf K T) sc_table.nd rfl rfl (pe_call G_draw hr (by rfl) D_draw.g D_draw.F.kp D_draw.b .nil pass0 (pa_cons (pv 0) (pa_cons pe_int pa_nil))) (fun _ _ => rfl) rfl
          (fun pins s' σ H' D c I kt ask _ => by exact psk_ifNI (ta := tVar 4) (tb := tVar 1) (pek_var (i := 4) rfl (.inl rfl)) (pek_var (i := 1) rfl (.inl rfl)) (psk_put (td := tVar 2) (ty := tVar 4) (pek_var (i := 2) rfl (.inl rfl)) (pek_var (i := 4) rfl (.inl rfl)) (pek_tup (pak_cons pek_dnew (pak_cons (pek_var (i := 5) rfl (.inl rfl)) (pak_cons (pek_call G_odd hr (by rfl) D_odd.g D_odd.F.kp D_odd.b (pak_cons (pek_var (i := 0) rfl (.inl rfl)) (pak_cons (pek_var (i := 5) rfl (.inl rfl)) pak_nil))) pak_nil)))) (psk_put (td := tVar 1) (ty := tVar 4) (pek_var (i := 1) rfl (.inl rfl)) (pek_var (i := 4) rfl (.inl rfl)) (pek_tup (pak_cons (pek_call G_own hr (by rfl) g_own kp_own b_own (pak_cons (pek_ixT (pek_dget (pek_var (i := 2) rfl (.inl rfl)) (pek_var (i := 4) rfl (.inl rfl)) (fun _ _ => rfl)) pek_int (fun _ _ => rfl)) (pak_cons (pek_var (i := 5) rfl (.inl rfl)) (pak_cons (pek_ixT (pek_dget (pek_var (i := 2) rfl (.inl rfl)) (pek_var (i := 4) rfl (.inl rfl)) (fun _ _ => rfl)) pek_int (fun _ _ => rfl)) pak_nil)))) (pak_cons (pek_callK (i := 0) (j := 5) G_sample hr (by rfl) D_sample.g D_sample.F.kp D_sample.b rfl (.inl rfl) rfl rfl rfl) pak_nil))) (fun pins s σ H D c I kt z => wpAny_execs_nil ⟨σ, H, I, z⟩))) rfl pins s' σ H' D c I kt ask))))
      (pss_one (ps_ret (pe_tup (pa_cons (pv 1) (pa_cons (pv 2) pa_nil)))))))), ?_⟩
    have sl : sizeLine = 16777216 := sizeLine_eq
    intro t nt
    have s1 : Same H (upd H t (.dK [])) := same_upd nt
    have e1 : (upd H t (.dK [])) t = some (.dK []) := upd_same
    revert s1 e1
    generalize upd H t (.dK []) = H1
    intro s1 e1 hd nh
    have s2 : Same H1 (upd H1 hd (.dK [])) := same_upd nh
    have e2 : (upd H1 hd (.dK [])) hd = some (.dK []) := upd_same
    revert s2 e2
    generalize upd H1 hd (.dK []) = H2
    intro s2 e2
    have et2 := s2 _ _ e1
    have nth : t ≠ hd := ne_of_none e1 nh
    have p2 := pot_same (pot_same hp s1) s2
    have I2 : TabI p t hd T H2 [] := ⟨et2, e2, nth, List.not_mem_nil, List.not_mem_nil, List.nodup_nil, (fun e he => by cases he), (fun e he => by cases he), p2, (tab.ext s1).ext s2⟩
    refine ⟨.ref p, rfl, p, 12, rfl, p2, by decide, by decide, fun H3 d3 b3 p3 d30 d31 => ?_⟩
    have I3 := I2.but b3 p3
    have nhH : H hd = none := s1.free nh
    have keep0 : ∀ {Hx : Hp}, G3 p t hd H2 Hx → ∀ b o, b ≠ p → H b = some o → (∀ ps, o ≠ .tbl ps) → Hx b = some o := fun {Hx} g b o n e z => g b o n (ne_of_none e nt) (ne_of_none e nhH) (s2 _ _ (s1 _ _ e)) z
    refine ⟨d3, rfl, by omega, by omega, for_range (lo := 0) (n := d3.toNat) (fun i σ H' => G3 p t hd H2 H' ∧ ∃ (es : List Ent) (x3 x4 x5 : Option V), σ = [some (.ref p), some (.ref t), some (.ref hd), x3, x4, x5] ∧ TabI p t hd T H' es ∧ es.length ≤ i)
      ⟨G3.but b3, [], none, none, none, rfl, I3, Nat.le_refl _⟩ ?_ ?_⟩
    · rintro i σ H4 hi ⟨g4, es, x3, x4, x5, rfl, I4, l4⟩
      refine ⟨.ref p, rfl, p, rfl, I4.pot, fun H5 y b5 p5 ny => ?_⟩
      refine ⟨.ref p, rfl, p, 8, rfl, p5, by decide, by decide, fun H6 d6 b6 p6 d60 d61 => ?_⟩
      obtain ⟨c, mc, ec⟩ := at_sig (Str.ofString "ax-,: '0") d6 d60 (by rw [show (Str.ofString "ax-,: '0").length = 8 from by decide +kernel]; exact d61)
      have I6 := I4.but (b5.trans b6) p6
      have g6 : G3 p t hd H2 H6 := g4.trans (G3.but (b5.trans b6))
      refine ⟨Str.ofString "ax-,: '0", d6, c, rfl, rfl, by decide +kernel, ec, ?_⟩
      refine ⟨.str y, rfl, .ref t, rfl, t, _, Sum.inr y, rfl, .inl I6.et, rfl, fun hn => ?_, fun v hv => ?_⟩
      · exact I6.more (K := K) hn ny (lit_bad c mc) (by omega) fun H' e g' I' => ⟨g6.trans g', es ++ [e], _, _, _, rfl, I', by rw [List.length_append]; show _ + 1 ≤ _; omega⟩
      · exact ⟨g6, es, _, _, _, rfl, I6, by omega⟩
    · rintro σ H4 ⟨g4, es, x3, x4, x5, rfl, I4, l4⟩
      refine ⟨.ref t, rfl, .ref hd, rfl, by show 2 ≤ sizeLine; decide, fun u nu => ?_⟩
      have su : Same H4 (upd H4 u (.tup [.ref t, .ref hd])) := same_upd nu
      exact q _ u t hd es (fun b o n e z => su _ _ (keep0 g4 b o n e z)) (I4.but (But.of_same su) (pot_same I4.pot su)) (by omega) upd_same nt nhH
end
end WB

set_option Elab.async false
set_option linter.all false
set_option maxRecDepth 100000
set_option maxHeartbeats 4000000
namespace WB
open PySem PySem.Spec PyProof.Rows L2 WG
open NdefX (TabN)
open LamX (TabB ExtN)
open TL (tl)
theorem dk_ml {k : List (Key × V)} : ¬ isML (.dK k) := fun ⟨_, _, z⟩ => by cases z
theorem ML.ext {H H' : Hp} {N : Nat} {L : Addr} (h : ML H N L) (s : ExtN H H') : ML H' N L := by
  obtain ⟨x, xs, e, h1⟩ := h
  exact ⟨x, xs, s _ _ e (fun _ z => by cases z), h1⟩
theorem RgtE.ext {S : List Addr} {n N : Nat} {H H' : Hp} {e : Ent} (h : RgtE H S n N e) (s : ExtN H H') : RgtE H' S n N e := by
  have kt : ∀ {b : Addr} {xs : List V}, H b = some (.tup xs) → H' b = some (.tup xs) := fun {b xs} z => s _ _ z (fun _ w => by cases w)
  have kp : Kp H' n N e.dc := by
    obtain ⟨kvs, ek, lk, hk⟩ := h.ok.kp
    refine ⟨kvs, s _ _ ek (fun _ w => by cases w), lk, fun q hq => ?_⟩
    obtain ⟨x, L, e1, e2⟩ := hk q hq
    exact ⟨x, L, e1, e2.ext s⟩
  refine ⟨⟨kt h.ok.tp, MkA.g3 (p := 0) (t := 0) (hd := 0) h.ok.ma (fun b φ z => s _ _ z (fun _ w => by cases w)), kt h.ok.oe, kt h.ok.oh, kp, h.ok.nl, h.ok.sl, h.ok.sc⟩, kt h.hpE, h.bd, h.sd, ?_, h.ovS, h.dS, h.nc⟩
  obtain ⟨r, o⟩ := h.ov
  refine ⟨r, ?_⟩
  generalize e.ov = v at o
  cases o with
  | non => exact .non
  | bl => exact .bl
  | int => exact .int
  | str => exact .str
  | tup z => exact .tup (kt z)
  | lst z => exact .lst (s _ _ z (fun _ w => by cases w))
  | dct z => exact .dct (s _ _ z (fun _ w => by cases w))
theorem RgtE.wide {S : List Addr} {n N : Nat} {H : Hp} {e : Ent} {d : Addr} (h : RgtE H S n N e) (nv : e.ov ≠ .ref d) : RgtE H (S ++ [d]) n N e :=
  ⟨h.ok, h.hpE, h.bd, h.sd, h.ov, fun a ea hm => (List.mem_append.mp hm).elim (h.ovS a ea) (fun z => nv (by rw [ea, List.mem_singleton.mp z])), List.mem_append_left _ h.dS, h.nc⟩
theorem RgtE.mono {S : List Addr} {n N n' N' : Nat} {H : Hp} {e : Ent} (h : RgtE H S n N e) (l1 : n ≤ n') (l2 : N ≤ N') : RgtE H S n' N' e :=
  ⟨⟨h.ok.tp, h.ok.ma, h.ok.oe, h.ok.oh, h.ok.kp.mono l1 l2, h.ok.nl, h.ok.sl, h.ok.sc⟩, h.hpE, h.bd, h.sd, h.ov, h.ovS, h.dS, h.nc⟩
/-- what the odd thing is stands in the heap -/
theorem RgtE.ovh {S : List Addr} {n N : Nat} {H : Hp} {e : Ent} (h : RgtE H S n N e) {a : Addr} (na : H a = none) : e.ov ≠ .ref a := fun ea => by
  obtain ⟨r, o⟩ := h.ov
  rw [ea] at o
  cases o with
  | tup w => rw [na] at w; cases w
  | lst w => rw [na] at w; cases w
  | dct w => rw [na] at w; cases w
/-- all that stands while the law turns -/
structure Wd (T p : Addr) (H : Hp) (es : List Ent) (n N : Nat) (Ds : List (Addr × List (Key × V))) (Ks : List (Addr × HO)) : Prop where
  pot : Pot H p
  rg : ∀ e ∈ es, RgtE H (dcs es) n N e
  ds : ∀ q ∈ Ds, H q.1 = some (.dK q.2)
  nd : (Ds.map (·.1)).Nodup
  nS : ∀ q ∈ Ds, q.1 ∉ dcs es
  nv : ∀ e ∈ es, ∀ q ∈ Ds, e.ov ≠ .ref q.1
  ks : ∀ q ∈ Ks, H q.1 = some q.2 ∧ q.1 ≠ p ∧ (∀ k, q.2 ≠ .dK k) ∧ (∀ ps, q.2 ≠ .tbl ps) ∧ ¬ isML q.2
  tab : TabN H T nmT
section
variable {T p : Addr} {H H' : Hp} {es : List Ent} {n N m : Nat} {Ds : List (Addr × List (Key × V))} {Ks : List (Addr × HO)}
theorem Wd.evp (h : Wd T p H es n N Ds Ks) (g : EvP p (dcs es) m H H') (p' : Pot H' p) : Wd T p H' es (n + m) (N + m) Ds Ks := by
  refine ⟨p', fun e he => (h.rg e he).evp g h.pot, fun q hq => g.keep q.1 _ (pot_ne h.pot (h.ds q hq) (fun _ _ z => by cases z)) (h.ds q hq) (.inl (h.nS q hq)) dk_ml, h.nd, h.nS, h.nv, fun q hq => ?_, ?_⟩
  · obtain ⟨e, n1, n2, n3, n4⟩ := h.ks q hq
    exact ⟨g.keep _ _ n1 e (.inr n2) n4, n1, n2, n3, n4⟩
  · obtain ⟨ps, h1, h2, h3⟩ := h.tab
    refine ⟨ps, g.keep _ _ (pot_ne h.pot h1 (fun _ _ z => by cases z)) h1 (.inr fun _ z => by cases z) (fun ⟨_, _, z⟩ => by cases z), h2, fun pos cv hc => ?_⟩
    obtain ⟨c, e1, e2⟩ := h3 pos cv hc
    exact ⟨c, e1, g.keep _ _ (pot_ne h.pot e2 (fun _ _ z => by cases z)) e2 (.inr fun _ z => by cases z) ext_ml⟩
theorem Wd.same (h : Wd T p H es n N Ds Ks) (s : Same H H') : Wd T p H' es n N Ds Ks := h.evp (m := 0) (EvP.of_ev (Ev.of_same s 0)) (pot_same h.pot s)
theorem Wd.mono {n' N' : Nat} (h : Wd T p H es n N Ds Ks) (l1 : n ≤ n') (l2 : N ≤ N') : Wd T p H es n' N' Ds Ks := ⟨h.pot, fun e he => (h.rg e he).mono l1 l2, h.ds, h.nd, h.nS, h.nv, h.ks, h.tab⟩
theorem Wd.ext (h : Wd T p H es n N Ds Ks) (s : ExtN H H') (t : TabN H' T nmT) : Wd T p H' es n N Ds Ks :=
  ⟨pot_ext h.pot s, fun e he => (h.rg e he).ext s, fun q hq => s _ _ (h.ds q hq) (fun _ z => by cases z), h.nd, h.nS, h.nv, fun q hq => by
    obtain ⟨e, n1, n2, n3, n4⟩ := h.ks q hq
    exact ⟨s _ _ e n3, n1, n2, n3, n4⟩, t⟩
theorem Wd.free (h : Wd T p H es n N Ds Ks) {a : Addr} (na : H a = none) : a ∉ dcs es := fun hm => by
  obtain ⟨e, he, ea⟩ := List.mem_map.mp hm
  obtain ⟨kvs, ek, _⟩ := (h.rg e he).ok.kp
  rw [ea, na] at ek
  cases ek
/-- one dict more, at a free place -/
theorem Wd.addD (h : Wd T p H es n N Ds Ks) {a : Addr} {kvs : List (Key × V)} (na : H a = none) (w : Wd T p H' es n N Ds Ks) (e : H' a = some (.dK kvs)) : Wd T p H' es n N ((a, kvs) :: Ds) Ks := by
  refine ⟨w.pot, w.rg, fun q hq => ?_, ?_, fun q hq => ?_, fun e he q hq => ?_, w.ks, w.tab⟩
  · rcases List.mem_cons.mp hq with rfl | z
    · exact e
    · exact w.ds q z
  · rw [List.map_cons, List.nodup_cons]
    refine ⟨fun hm => ?_, h.nd⟩
    obtain ⟨q, hq, eq⟩ := List.mem_map.mp hm
    have := h.ds q hq
    rw [show q.1 = a from eq, na] at this
    cases this
  · rcases List.mem_cons.mp hq with rfl | z
    · exact h.free na
    · exact h.nS q z
  · rcases List.mem_cons.mp hq with rfl | z
    · exact (h.rg e he).ovh na
    · exact h.nv e he q z
theorem Wd.newD (h : Wd T p H es n N Ds Ks) {a : Addr} (kvs : List (Key × V)) (na : H a = none) : Wd T p (upd H a (.dK kvs)) es n N ((a, kvs) :: Ds) Ks := h.addD na (h.same (same_upd na)) upd_same
theorem Wd.addK (h : Wd T p H es n N Ds Ks) {a : Addr} {o : HO} (e : H a = some o) (n0 : a ≠ p) (n1 : ∀ k, o ≠ .dK k) (n2 : ∀ ps, o ≠ .tbl ps) (n3 : ¬ isML o) : Wd T p H es n N Ds ((a, o) :: Ks) :=
  ⟨h.pot, h.rg, h.ds, h.nd, h.nS, h.nv, fun q hq => (List.mem_cons.mp hq).elim (fun z => by rw [z]; exact ⟨e, n0, n1, n2, n3⟩) (h.ks q), h.tab⟩
theorem Wd.putD {A B : List (Addr × List (Key × V))} {a : Addr} {k : List (Key × V)} (h : Wd T p H es n N (A ++ (a, k) :: B) Ks) (k' : List (Key × V)) : Wd T p (upd H a (.dK k')) es n N (A ++ (a, k') :: B) Ks := by
  have ha : (a, k) ∈ A ++ (a, k) :: B := List.mem_append_right _ List.mem_cons_self
  have ea := h.ds _ ha
  have nS := h.nS _ ha
  have hm : (A ++ (a, k') :: B).map (·.1) = (A ++ (a, k) :: B).map (·.1) := by
    rw [List.map_append, List.map_append]
    rfl
  have other : ∀ q ∈ A ++ (a, k') :: B, q = (a, k') ∨ (q ∈ A ++ (a, k) :: B ∧ q.1 ≠ a) := fun q hq => by
    have nod := h.nd
    rw [List.map_append, List.map_cons] at nod
    obtain ⟨_, n2, n3⟩ := List.nodup_append.mp nod
    rcases List.mem_append.mp hq with z | z
    · exact .inr ⟨List.mem_append_left _ z, n3 q.1 (List.mem_map.mpr ⟨q, z, rfl⟩) a List.mem_cons_self⟩
    · rcases List.mem_cons.mp z with z | z
      · exact .inl z
      · refine .inr ⟨List.mem_append_right _ (List.mem_cons_of_mem _ z), fun w => ?_⟩
        exact (List.nodup_cons.mp n2).1 (List.mem_map.mpr ⟨q, z, w⟩)
  have na : p ≠ a := (pot_ne h.pot ea (fun _ _ z => by cases z)).symm
  refine ⟨pot_q h.pot (But.upd _ _ _) na, fun e he => (h.rg e he).lock ea nS (h.nv e he _ ha), fun q hq => ?_, by rw [hm]; exact h.nd, fun q hq => ?_, fun e he q hq => ?_, fun q hq => ?_, tab_q h.tab (But.upd _ _ _) ea (fun _ z => by cases z) (fun _ z => by cases z)⟩
  · rcases other q hq with rfl | ⟨z, nz⟩
    · exact upd_same
    · rw [upd_ne nz]
      exact h.ds q z
  · rcases other q hq with rfl | ⟨z, nz⟩
    · exact nS
    · exact h.nS q z
  · rcases other q hq with rfl | ⟨z, nz⟩
    · exact h.nv e he (a, k) ha
    · exact h.nv e he q z
  · obtain ⟨e, n1, n2, n3, n4⟩ := h.ks q hq
    refine ⟨?_, n1, n2, n3, n4⟩
    rw [upd_ne (fun z => by rw [z, ea] at e; exact n2 _ (Option.some.inj e).symm)]
    exact e
/-- one entry more: its dict was among the others -/
theorem Wd.entry {d : Addr} (h : Wd T p H es n N ((d, []) :: Ds) Ks) {e : Ent} (r : RgtE H (dcs es ++ [d]) n N e) (ed : e.dc = d) (nv : ∀ q ∈ Ds, e.ov ≠ .ref q.1) : Wd T p H (es ++ [e]) n N Ds Ks := by
  have dc : dcs (es ++ [e]) = dcs es ++ [d] := by
    show List.map _ _ = _
    rw [List.map_append, ← ed]
    rfl
  have nod := h.nd
  rw [List.map_cons, List.nodup_cons] at nod
  refine ⟨h.pot, fun e' he => ?_, fun q hq => h.ds q (List.mem_cons_of_mem _ hq), nod.2, fun q hq => ?_, fun e' he q hq => ?_, h.ks, h.tab⟩
  · rw [dc]
    rcases List.mem_append.mp he with z | z
    · exact (h.rg e' z).wide (h.nv e' z _ List.mem_cons_self)
    · rw [List.mem_singleton.mp z]
      exact r
  · rw [dc]
    exact fun hm => (List.mem_append.mp hm).elim (h.nS q (List.mem_cons_of_mem _ hq)) (fun z => nod.1 (List.mem_map.mpr ⟨q, hq, List.mem_singleton.mp z⟩))
  · rcases List.mem_append.mp he with z | z
    · exact h.nv e' z q (List.mem_cons_of_mem _ hq)
    · rw [List.mem_singleton.mp z]
      exact nv q hq
/-- Makers of it -/
theorem Wd.made {C x dx t2 : Addr} (h : Wd T p H es n N Ds Ks) (nx : H x = none) (ndx : H dx = none) (ne : dx ≠ x) (g : Ev (dcs es) es.length (del (upd (upd H dx (.own x)) x (.ins C dx [])) x) H') (ex : H' x = some (.ins C dx [(("table" : Str), .ref t2)])) (et : H' t2 = some (.dK (kvsOf es)))
    (nt : (upd (upd H dx (.own x)) x (.ins C dx [])) t2 = none) : Wd T p H' es (n + es.length) (N + es.length) ((t2, kvsOf es) :: Ds) ((x, .ins C dx [(("table" : Str), .ref t2)]) :: Ks) := by
  have s : Same H (del (upd (upd H dx (.own x)) x (.ins C dx [])) x) := fun b o e => by
    have n1 : b ≠ x := ne_of_none e nx
    have n2 : b ≠ dx := ne_of_none e ndx
    rw [del_ne n1, upd_ne n1, upd_ne n2]
    exact e
  have g0 : Ev (dcs es) es.length H H' := ((Ev.of_same (S := dcs es) s 0).trans g).mono (by omega)
  have nt0 : H t2 = none := by
    cases e : H t2 with
    | none => rfl
    | some o =>
      have n1 : t2 ≠ x := ne_of_none e nx
      have n2 : t2 ≠ dx := ne_of_none e ndx
      rw [upd_ne n1, upd_ne n2, e] at nt
      cases nt
  have w : Wd T p H' es (n + es.length) (N + es.length) Ds Ks := h.evp (EvP.of_ev g0) (g0.pot h.pot)
  have h' := h.mono (n' := n + es.length) (N' := N + es.length) (by omega) (by omega)
  refine (h'.addD nt0 w et).addK ex ?_ (fun _ z => by cases z) (fun _ z => by cases z) (fun ⟨_, _, z⟩ => by cases z)
  exact (h.pot.ne nx).symm
/-- what __init__ asks -/
theorem Wd.ask {C x dx t : Addr} (h : Wd T p H es n N Ds Ks) (nx : H x = none) (ndx : H dx = none) (ne : dx ≠ x) (ht : (t, kvsOf es) ∈ Ds) :
    (upd (upd H dx (.own x)) x (.ins C dx [])) x = some (.ins C dx []) ∧ (upd (upd H dx (.own x)) x (.ins C dx [])) t = some (.dK (kvsOf es)) ∧ ∀ e ∈ es, EntOk (upd (upd H dx (.own x)) x (.ins C dx [])) n N e := by
  have s : Same H (upd (upd H dx (.own x)) x (.ins C dx [])) := fun b o e => by
    have n1 : b ≠ x := ne_of_none e nx
    have n2 : b ≠ dx := ne_of_none e ndx
    rw [upd_ne n1, upd_ne n2]
    exact e
  exact ⟨upd_same, s _ _ (h.ds _ ht), fun e he => (h.rg e he).ok.same s⟩
end
/-! ### dicts of texts -/
theorem val_app {kvs : List (Key × V)} {k k' : Key} {v : V} (n : k ≠ k') : valV (kvs ++ [(k', v)]) k = valV kvs k := by
  unfold valV
  rw [List.find?_append]
  cases h : kvs.find? (fun x => decide (x.1 = k)) with
  | some x => rfl
  | none =>
    have e : ([(k', v)] : List (Key × V)).find? (fun x => decide (x.1 = k)) = none := by
      rw [List.find?_cons_of_neg]
      · rfl
      · simp only [decide_eq_true_eq]
        exact fun z => n z.symm
    rw [e]
    rfl
theorem merge_from (f : Ent → V) : ∀ (es acc : List Ent), ((acc ++ es).map (·.nmE)).Nodup → mergeK (mapOf f acc) (mapOf f es) = mapOf f (acc ++ es)
  | [], acc, _ => by
    rw [List.append_nil]
    rfl
  | e :: r, acc, nod => by
    have nod' : ((acc ++ [e] ++ r).map (·.nmE)).Nodup := by
      rw [List.append_assoc]
      exact nod
    have ne : e.nmE ∉ acc.map (·.nmE) := fun hm => by
      rw [List.map_append, List.map_cons] at nod
      exact (List.nodup_append.mp nod).2.2 _ hm _ List.mem_cons_self rfl
    have ih := merge_from f r (acc ++ [e]) nod'
    rw [List.append_assoc] at ih
    have st : putK (mapOf f acc) (Sum.inr e.nmE) (f e) = mapOf f (acc ++ [e]) := by
      rw [put_none (val_no f ne)]
      unfold mapOf
      rw [List.map_append]
      rfl
    show mergeK (putK (mapOf f acc) (Sum.inr e.nmE) (f e)) (mapOf f r) = _
    rw [st]
    exact ih
theorem merge_all (f : Ent → V) {es : List Ent} (nod : (es.map (·.nmE)).Nodup) : mergeK [] (mapOf f es) = mapOf f es := merge_from f es [] nod
end WB

set_option Elab.async false
set_option linter.all false
set_option maxRecDepth 100000
set_option maxHeartbeats 4000000
namespace WB
open PySem PySem.Spec PyProof.Rows L2 WG
open NdefX (TabN)
open LamX (TabB ExtN)
open TL (tl)
abbrev st_law : Stmt := topS 45
theorem sc_law : FnScope ["_law_script", "_law_k", "_law_pot_here", "_law_table_here", "_law_held", "_law_samples", "_law_makers", "_law_more", "_law_more_samples", "_law_other", "_law_name_here"] ["_law_script"] (defScope st_law) := ⟨rfl, rfl, rfl, by decide +kernel, rfl, by decide +kernel, by decide +kernel⟩
theorem ints_ml {ns : List Int} : ¬ isML (.lst (ns.map V.int)) := fun ⟨x, xs, z⟩ => by
  cases ns with
  | nil => cases z
  | cons a r => cases (List.cons.inj (HO.lst.inj z)).1
/-- the script, as a thing that is kept -/
theorem script_kept {K : PySem.W.Frag} {H H5 : Hp} {a p : Addr} {ns : List Int} (h : SqL K H a (ns.map V.int)) (np : H p = none) (k : ∀ b o, b ≠ p → H b = some o → (∀ ps, o ≠ .tbl ps) → H5 b = some o) :
    ∃ Ks : List (Addr × HO), (∀ q ∈ Ks, H5 q.1 = some q.2 ∧ q.1 ≠ p ∧ (∀ k, q.2 ≠ .dK k) ∧ (∀ ps, q.2 ≠ .tbl ps) ∧ ¬ isML q.2) ∧ ∀ H', (∀ q ∈ Ks, H' q.1 = some q.2) → SqL K H' a (ns.map V.int) := by
  rcases h with h | h
  · rcases h with h | ⟨o, h⟩
    · refine ⟨[(a, .lst (ns.map V.int))], fun q hq => ?_, fun H' e => .inl (.inl (e _ List.mem_cons_self))⟩
      rw [List.mem_singleton.mp hq]
      have n := ne_of_none h np
      exact ⟨k _ _ n h (fun _ z => by cases z), n, (fun _ z => by cases z), (fun _ z => by cases z), ints_ml⟩
    · refine ⟨[(a, .frz o (.lst (ns.map V.int)))], fun q hq => ?_, fun H' e => .inl (.inr ⟨o, e _ List.mem_cons_self⟩)⟩
      rw [List.mem_singleton.mp hq]
      have n := ne_of_none h np
      exact ⟨k _ _ n h (fun _ z => by cases z), n, (fun _ z => by cases z), (fun _ z => by cases z), (fun ⟨_, _, z⟩ => by cases z)⟩
  · exact ⟨[], (fun q hq => by cases hq), fun H' _ => .inr h⟩
abbrev mHp (es : List Ent) := mapOf (fun e => V.ref e.hp) es
abbrev mSm (es : List Ent) := mapOf (fun e => V.str e.smp) es
theorem TabI.wd {p t hd T : Addr} {H : Hp} {es : List Ent} {Ks : List (Addr × HO)} (h : TabI p t hd T H es) (ks : ∀ q ∈ Ks, H q.1 = some q.2 ∧ q.1 ≠ p ∧ (∀ k, q.2 ≠ .dK k) ∧ (∀ ps, q.2 ≠ .tbl ps) ∧ ¬ isML q.2) : Wd T p H es 0 0 [(hd, mHp es), (t, kvsOf es)] Ks := by
  have two : ∀ q ∈ [(hd, mHp es), (t, kvsOf es)], q = (hd, mHp es) ∨ q = (t, kvsOf es) := fun q hq => by simpa using hq
  refine ⟨h.pot, fun e he => (h.ok e he).2, fun q hq => ?_, ?_, fun q hq => ?_, fun e he q hq => ?_, ks, h.tab⟩
  · rcases two q hq with rfl | rfl
    · exact h.eh
    · exact h.et
  · simpa using h.nth.symm
  · rcases two q hq with rfl | rfl
    · exact h.hS
    · exact h.tS
  · rcases two q hq with rfl | rfl
    · exact (h.nv e he).2
    · exact (h.nv e he).1
def addE (d o1 o2 hp g tp : Addr) : Ent := { nmE := Str.ofString "added", bad := 113, smp := Str.ofString "ab", sg := 98, ov := .non, tp := tp, fn := g, dc := d, od := o2, hp := hp, oh := o1 }
theorem add_ok : ∀ d o1 o2 hp g tp, okE (addE d o1 o2 hp g tp) = true := by
  intro d o1 o2 hp g tp
  show (isNm (.str (Str.ofString "added")) && (plainW (tl (Str.ofString "ab")) && !decide (113 ∈ tl (Str.ofString "ab")))) = true
  decide +kernel
section
variable {P : Program} {w : World} {K : PySem.W.Frag} {mg : Str → Option Value} {base : Heap}
/-- right, once more -/
theorem Wd.right {C T p x dx t hd sm : Addr} {H : Hp} {es es' : List Ent} {n N : Nat} {Ds : List (Addr × List (Key × V))} {Ks : List (Addr × HO)} {Q : VK} {E : XK} (h : Wd T p H es' n N Ds Ks) (hx : (x, HO.ins C dx [(("table" : Str), .ref t)]) ∈ Ks) (h1 : (t, kvsOf es) ∈ Ds) (h2 : (hd, mHp es) ∈ Ds) (h3 : (sm, mSm es) ∈ Ds) (n1 : t ≠ hd) (n2 : sm ≠ hd)
    (nod : (es.map (·.nmE)).Nodup) (le : es.length ≤ 12) (sub : ∀ e ∈ es, e ∈ es') (l1 : n ≤ 4000) (l2 : N ≤ 90000) (q : ∀ H', Wd T p H' es' (n + 130) (N + 130) Ds Ks → Q (.bl true) H') : spRight C [.ref p, .ref x, .ref hd, .ref sm] H Q E :=
  ⟨p, x, dx, t, hd, sm, es, dcs es', n, N, rfl, h.pot, (h.ks _ hx).1, h.ds _ h1, h.ds _ h2, h.ds _ h3, h.nS _ h1, h.nS _ h2, h.nS _ h3, n1, n2, nod, le, fun e he => h.rg e (sub e he), fun e he => h.nv e (sub e he) _ h2, l1, l2, fun H' g p' => q H' (h.evp g p')⟩
def spLaw (K : PySem.W.Frag) (T : Addr) : Sp := fun vs H Q _ => ∃ (a : Addr) (ns : List Int), vs = [.ref a] ∧ H T = some (.tbl #[]) ∧ SqL K H a (ns.map V.int) ∧ ns.length ≤ 63 ∧ ∀ H', Q (.bl true) H'
theorem ok_law {C T f fC fP fI fOw fTb fG : Addr} {fd fdC fdP fdI fdOw fdTb fdG : FuncData} {k : Nat} (F : Fun K "law" "law" st_law f fd)
    (D_cell : Df K mg "_law_cell" sCell ["_law_script", "_law_k"] fC fdC) (D_pot : Df K mg "_law_pot" sPot ["_law_script", "_law_k"] fP fdP) (D_table : Df K mg "_law_table" st_table ["_law_pot_here"] fTb fdTb) (G_table : FnOk P w K mg base CX0 (k + 8) fTb fdTb ["_law_pot_here"] (spTable T))
    (MK : L2.Mk K C fI) (GI : FnOk P w K mg base (L2.CX P w) (k + 6) fI fdI ["self", "table"] (spMInit C)) (gC : mg "Makers" = some (.ref C)) (bI : Binds K fdI ["self", "table"] [])
    (G_own : FnOk P w K mg base CX0 (k + 8) fOw fdOw ["_law_kept", "_law_bad", "_law_odd_here"] (spOwn T)) (g_own : mg "_law_own" = some (.ref fOw)) (kp_own : PySem.W.keepIn K (.ref fOw) = true) (b_own : Binds K fdOw ["_law_kept", "_law_bad", "_law_odd_here"] [])
    (D_right : Df K mg "_law_right" st_right ["_law_pot_here", "_law_makers", "_law_held", "_law_samples"] fG fdG) (G_right : GOk P w K mg base CX0 (k + 8) fG fdG ["_law_pot_here", "_law_makers", "_law_held", "_law_samples"] (spRight C))
    (m_len : mg "len" = none) (m_max : mg "max" = none) (m_min : mg "min" = none) (m_range : mg "range" = none) (m_dict : mg "dict" = none) :
    GOk P w K mg base CX0 (k + 9) f fd ["_law_script"] (spLaw K T) := by
  have G_pot : FnOk P w K mg base CX0 (k + 8) fP fdP ["_law_script", "_law_k"] (spPot K) := ok_pot D_pot.F D_cell m_len m_max
  refine gfun_ok F sc_law (fun vs H Q E h => ?_) (fun cdv A outer s H vs Q E hgd hr h => ?_)
  · obtain ⟨a, ns, rfl, _⟩ := h
    rfl
  · obtain ⟨a, ns, rfl, hT, hS, hlen, q⟩ := h
    have hu := Nat.lt_of_le_of_lt (Nat.add_le_add_left (show 1 ≤ 64 by decide) _) hr.units
    refine ⟨_, PSs.nox (pss_cons (ps_for PassesOwn.never rfl (pi_range1 rfl m_range (pa_cons (pe_callB (call_max2 rfl) (by rfl) m_max (by decide +kernel) (pa_cons pe_int (pa_cons (pe_callB (call_min2 rfl) (by rfl) m_min (by decide +kernel) (pa_cons (pe_callB call_len_seq (by rfl) m_len PySem.boot_len (pa_cons (pv 0) pa_nil)) (pa_cons pe_int pa_nil))) pa_nil))) pa_nil)) (pg_name (i := 1) sc_law.nd rfl (Or.inl rfl)) (pss_cons (ps_set (i := 2) sc_law.nd rfl (.inl rfl) (pe_call G_pot hr (by rfl) D_pot.g D_pot.F.kp D_pot.b .nil pass0 (pa_cons (pv 0) (pa_cons (pv 1) pa_nil))))
      (pss_cons (ps_asg (pe_call G_table hr (by rfl) D_table.g D_table.F.kp D_table.b .nil pass0 (pa_cons (pv 2) pa_nil)) (pg_tup rfl (pgs_cons (pg_name (i := 3) sc_law.nd rfl (Or.inr rfl)) (pgs_cons (pg_name (i := 4) sc_law.nd rfl (Or.inl rfl)) pgs_nil))))
      (pss_cons (ps_set (i := 5) sc_law.nd rfl (.inl rfl) (pe_callTy (call_dictP rfl) (by rfl) m_dict (by decide +kernel) (pa_cons (pe_lock (pe_lc (own := [("_law_name_here", 10)]) (g := gName 10) (tt := tYes) rfl sc_law.nd (pi_keys (pv 3)) (blkOk_by (N := ["_law_script", "_law_k", "_law_pot_here", "_law_table_here", "_law_held", "_law_samples", "_law_makers", "_law_more", "_law_more_samples", "_law_other", "_law_name_here"]) (sc := defScope st_law) (by decide +kernel)) (fun _ _ _ _ _ => (pg_name (i := 10) sc_law.nd rfl (Or.inl rfl))) (fun _ _ _ _ _ => pts_nil) (fun _ _ _ _ _ => (pe_tup (pa_cons (pv 10) (pa_cons (pe_ix (r := rIxT K) ix_tup (pe_dget hu (pv 3) (pv 10) (fun _ _ => rfl)) pe_int (fun _ _ => rfl)) pa_nil)))))) pa_nil)))
      (pss_cons (ps_set (i := 6) sc_law.nd rfl (.inl rfl) (pe_make MK GI (hr.mono (by omega)) (by rfl) gC bI .nil passF (pa_cons (pv 3) pa_nil)))
      (pss_cons (ps_set (i := 7) sc_law.nd rfl (.inl rfl) (pe_callTy call_dictD (by rfl) m_dict (by decide +kernel) (pa_cons (pv 4) pa_nil)))
      (pss_cons (ps_set (i := 8) sc_law.nd rfl (.inl rfl) (pe_callTy call_dictD (by rfl) m_dict (by decide +kernel) (pa_cons (pv 5) pa_nil)))
      (pss_cons (ps_if (pt_cmp (pc_dnotin hu pe_str (pv 3))) (pss_cons (ps_dput hu (pv 7) pe_str (pe_tup (pa_cons pe_dnewK (pa_cons pe_str (pa_cons (pe_tup (pa_cons pe_str (pa_cons pe_non pa_nil))) pa_nil)))) rfl)
      (pss_cons (ps_dput hu (pv 8) pe_str pe_str rfl)
      (pss_one (ps_dput hu (pv 3) pe_str (pe_tup (pa_cons (pe_call G_own hr (by rfl) g_own kp_own b_own .nil pass0 (pa_cons (pe_ix ix_tup (pe_dget hu (pv 7) pe_str (fun _ _ => rfl)) pe_int (fun _ _ => rfl)) (pa_cons pe_str (pa_cons (pe_tup (pa_cons pe_str (pa_cons pe_non pa_nil))) pa_nil)))) (pa_cons pe_str pa_nil))) rfl)))) pss_nil)
      (pss_cons (ps_set (i := 9) sc_law.nd rfl (.inl rfl) (pe_make MK GI (hr.mono (by omega)) (by rfl) gC bI .nil passF (pa_cons (pv 3) pa_nil)))
      (pss_cons (ps_expr (pe_dclear (pv 3)))
      (pss_cons (ps_if (PW.pt (pw_or (pt_not (pt_val (pe_callG G_right hgd hr (by rfl) D_right.g D_right.F.kp D_right.b pass0 (pa_cons (pv 2) (pa_cons (pv 6) (pa_cons (pv 4) (pa_cons (pv 5) pa_nil))))))) (pw_or1 (pt_not (pt_val (pe_callG G_right hgd hr (by rfl) D_right.g D_right.F.kp D_right.b pass0 (pa_cons (pv 2) (pa_cons (pv 9) (pa_cons (pv 7) (pa_cons (pv 8) pa_nil)))))))))) (pss_one (ps_ret pe_bl)) pss_nil)
      (pss_one (ps_if (pt_not (pt_val (pe_callG G_right hgd hr (by rfl) D_right.g D_right.F.kp D_right.b pass0 (pa_cons (pv 2) (pa_cons (pv 6) (pa_cons (pv 4) (pa_cons (pv 5) pa_nil))))))) (pss_one (ps_ret pe_bl)) pss_nil)))))))))))))
      (pss_one (ps_ret pe_bl))), ?_⟩
    have sl : sizeLine = 16777216 := sizeLine_eq
    have tab0 : TabN H T nmT := NdefX.TabN.nil hT
    refine ⟨.ref a, rfl, a, _, rfl, .inl hS, _, 6, rfl, 1, _, rfl, _, rfl, ?_, ?_, for_range (lo := 0) (n := _) (fun i σ H' => SqL K H' a (ns.map V.int) ∧ TabN H' T nmT ∧ ∃ x1 x2 x3 x4 x5 x6 x7 x8 x9, σ = [some (.ref a), x1, x2, x3, x4, x5, x6, x7, x8, x9, none])
      ⟨hS, tab0, none, none, none, none, none, none, none, none, none, rfl⟩ ?_ ?_⟩
    · split <;> split <;> omega
    · split <;> split <;> omega
    · rintro i σ H3 hi ⟨hS3, tab3, x1, x2, x3, x4, x5, x6, x7, x8, x9, rfl⟩
      refine ⟨.ref a, rfl, .int (0 + (i : Int)), rfl, a, ns, _, rfl, hS3, by omega, fun H4 p s4 np p4 => ?_⟩
      refine ⟨.ref p, rfl, p, rfl, p4, tab3.ext s4, fun H5 u t hd es k5 I5 l5 eu nt nh => ?_⟩
      refine ⟨u, _, rfl, SqT.of eu, rfl, _, _, rfl, _, _, rfl, rfl, ?_⟩
      obtain ⟨Ks0, hKs, back⟩ := script_kept (H5 := H5) hS3 np (fun b o n e z => k5 b o n (s4 _ _ e) z)
      have w5 := I5.wd hKs
      have nod := I5.nod
      -- samples
      refine ⟨t, _, I5.et, trivial, fun od => ?_⟩
      have bL : But t H5 (upd H5 t (.frz od (.dK (kvsOf es)))) := But.upd _ _ _
      have eL : (upd H5 t (.frz od (.dK (kvsOf es)))) t = some (.frz od (.dK (kvsOf es))) := upd_same
      revert bL eL
      generalize upd H5 t (.frz od (.dK (kvsOf es))) = HL
      intro bL eL
      have tpL : ∀ e ∈ es, HL e.tp = some (.tup [.ref e.fn, .str e.smp]) := fun e he => by
        have z := (I5.ok e he).2.ok.tp
        exact bL _ _ (fun w => by rw [w, I5.et] at z; cases z) z
      refine ⟨.ref t, rfl, t, od, rfl, .inl ⟨_, eL, fun D nD => ?_⟩⟩
      refine lc_keys (fun i Hx => Same HL Hx ∧ ∃ ps : List Addr, Hx D = some (.lst (ps.map V.ref)) ∧ ps.length = i ∧ Paired (fun q (kv : Key × V) => Hx q = some (.tup [kV kv.1, kv.2])) ps (mSm (es.take i))) ⟨same_upd nD, [], upd_same, rfl, .nil⟩ (fun i Hx _ h => h.1 _ _ eL) (fun i kk v Hx hkv ⟨sx, ps, eD, lp, pr⟩ => ?_) (fun Hx ⟨sx, ps, eD, lp, pr⟩ => ?_)
      · obtain ⟨e, ee, rfl, rfl⟩ : ∃ e, es[i]? = some e ∧ kk = Sum.inr e.nmE ∧ v = .ref e.tp := by
          unfold kvsOf at hkv
          rw [List.getElem?_map] at hkv
          obtain ⟨e, h1, h2⟩ := Option.map_eq_some_iff.mp hkv
          exact ⟨e, h1, (Prod.mk.inj h2).1.symm, (Prod.mk.inj h2).2.symm⟩
        have hem : e ∈ es := List.mem_of_getElem? ee
        have hil : i < es.length := (List.getElem?_eq_some_iff.mp ee).1
        have gd : DGet Hx t (.str e.nmE) (some (.ref e.tp)) := .inl ⟨_, Sum.inr e.nmE, .inr ⟨od, sx _ _ eL⟩, rfl, (val_of (fun e => V.ref e.tp) nod hem).symm⟩
        refine ⟨rfl, .str e.nmE, rfl, .ref t, rfl, .str e.nmE, rfl, t, .ref e.tp, rfl, gd, e.tp, _, 1, .str e.smp, rfl, rfl, SqT.of (sx _ _ (tpL e hem)), rfl, by show 2 ≤ sizeLine; decide, fun q' nq => ?_⟩
        have nDq : D ≠ q' := ne_of_none eD nq
        refine ⟨_, by rw [upd_ne nDq]; exact eD, by rw [List.length_map, lp]; omega, ?_⟩
        have keepS : Same HL (upd (upd Hx q' (.tup [.str e.nmE, .str e.smp])) D (.lst (ps.map V.ref ++ [.ref q']))) := fun b o eb => by
          have n1 : b ≠ D := ne_of_none eb nD
          have eb' := sx _ _ eb
          rw [upd_ne n1, upd_ne (ne_of_none eb' nq)]
          exact eb'
        refine ⟨keepS, ps ++ [q'], ?_, by rw [List.length_append, lp]; rfl, ?_⟩
        · rw [upd_same, List.map_append]
          rfl
        · have et : mSm (es.take (i + 1)) = mSm (es.take i) ++ [(Sum.inr e.nmE, V.str e.smp)] := by
            rw [List.take_add_one, ee]
            unfold mSm mapOf
            rw [List.map_append]
            rfl
          rw [et]
          refine Paired.snoc (L2.Paired.mapP pr fun q2 kv z => ?_) ?_
          · have n1 : q2 ≠ D := fun w => by rw [w, eD] at z; cases z
            rw [upd_ne n1, upd_ne (ne_of_none z nq)]
            exact z
          · rw [upd_ne nDq.symm, upd_same]
            rfl
      have lk : (kvsOf es).length = es.length := List.length_map _
      rw [lk, List.take_length] at pr
      refine ⟨sx _ _ eL, ?_⟩
      have bU : But t Hx (upd Hx t (.dK (kvsOf es))) := But.upd _ _ _
      have eU : (upd Hx t (.dK (kvsOf es))) t = some (.dK (kvsOf es)) := upd_same
      revert bU eU
      generalize upd Hx t (.dK (kvsOf es)) = HU
      intro bU eU
      have SU : Same H5 HU := fun b o e => by
        by_cases z : b = t
        · rw [z] at e ⊢
          rw [I5.et] at e
          rw [eU]
          exact e
        · exact bU _ _ z (sx _ _ (bL _ _ z e))
      have neT : ∀ {b : Addr} {o : HO}, Hx b = some o → (∀ f, o ≠ .frz od f) → b ≠ t := fun {b o} e n z => by
        rw [z, sx _ _ eL] at e
        exact n _ (Option.some.inj e).symm
      refine ⟨D, ps, mSm es, rfl, SqL.of (bU _ _ (neT eD (fun _ z => by cases z)) eD), L2.Paired.mapP pr (fun q2 kv z => SqT.of (bU _ _ (neT z (fun _ w => by cases w)) z)), fun sm nsm => ?_⟩
      rw [merge_all (fun e => V.str e.smp) nod]
      have w6 := (w5.same SU).newD (mSm es) nsm
      revert w6
      generalize upd HU sm (.dK (mapOf (fun e => V.str e.smp) es)) = H6
      intro w6
      -- Makers
      refine ⟨.ref t, rfl, fun x dx nx ndx ne => ?_⟩
      obtain ⟨a1, a2, a3⟩ := w6.ask (C := C) nx ndx ne (t := t) (by simp)
      refine ⟨x, dx, t, es, 0, 0, rfl, a1, a2, a3, by omega, fun e he => (I5.ok e he).1, fun H7 t2 g7 ex7 et7 nt7 _ => ⟨rfl, ?_⟩⟩
      have w7 := w6.made nx ndx ne g7 ex7 et7 nt7
      refine ⟨.ref hd, rfl, hd, _, rfl, .inl (w7.ds (hd, mHp es) (by simp)), fun mh nmh => ?_⟩
      have w8 := w7.newD (mHp es) nmh
      revert w8
      generalize upd H7 mh (.dK (mHp es)) = H8
      intro w8
      refine ⟨.ref sm, rfl, sm, _, rfl, .inl (w8.ds (sm, mSm es) (by simp)), fun ms nms => ?_⟩
      have w9 := w8.newD (mSm es) nms
      revert w9
      generalize upd H8 ms (.dK (mSm es)) = H9
      intro w9
      -- one name more
      dsimp only [tSeq]
      refine ts_gen (t := tIfS _ _ _) (fun σ' H' => ∃ es', σ' = [some (.ref a), some (.int (0 + (i : Int))), some (.ref p), some (.ref t), some (.ref hd), some (.ref sm), some (.ref x), some (.ref mh), some (.ref ms), x9, none] ∧ (∀ e ∈ es, e ∈ es') ∧ (es'.map (·.nmE)).Nodup ∧ es'.length ≤ 12 ∧ (∀ e ∈ es', okE e = true) ∧
        Wd T p H' es' 11 11 [(ms, mSm es'), (mh, mHp es'), (t2, kvsOf es), (sm, mSm es), (hd, mHp es), (t, kvsOf es')] ((x, .ins C dx [(("table" : Str), .ref t2)]) :: Ks0)) (fun κ kc => ?_) ?_
      · have w9' := w9.mono (n' := 11) (N' := 11) (by omega) (by omega)
        have et9 := w9'.ds (t, kvsOf es) (by simp)
        refine ⟨.ref t, rfl, t, _, rfl, DGet.k (k := Sum.inr (Str.ofString "added")) et9, _, rfl, ?_⟩
        cases hv : valV (kvsOf es) (Sum.inr (Str.ofString "added")) with
        | some v => exact kc _ _ ⟨es, rfl, (fun _ h => h), nod, by omega, fun e he => (I5.ok e he).1, w9'⟩
        | none =>
          have nn : Str.ofString "added" ∉ es.map (·.nmE) := fun hm => by
            obtain ⟨e, he, ee⟩ := List.mem_map.mp hm
            have := val_of (fun e => V.ref e.tp) nod he
            rw [ee, show valV (mapOf (fun e => V.ref e.tp) es) (Sum.inr (Str.ofString "added")) = none from hv] at this
            cases this
          have lm : ∀ f : Ent → V, (mapOf f es).length < sizeLine := fun f => by
            unfold mapOf
            rw [List.length_map]
            omega
          have am : ∀ (f : Ent → V) (e : Ent), e.nmE = Str.ofString "added" → putK (mapOf f es) (Sum.inr (Str.ofString "added")) (f e) = mapOf f (es ++ [e]) := fun f e he => by
            rw [put_none (val_no f nn)]
            unfold mapOf
            rw [List.map_append, ← he]
            rfl
          intro d nd
          have w10 := w9'.newD [] nd
          revert w10
          generalize upd H9 d (.dK []) = H10
          intro w10
          refine ⟨by show 2 ≤ sizeLine; decide, fun o1 no1 => ?_⟩
          have w11 := w10.same (same_upd (o := .tup [.str (Str.ofString "b"), .non]) no1)
          have eo1 : (upd H10 o1 (.tup [.str (Str.ofString "b"), .non])) o1 = some (.tup [.str (sgn 98), .non]) := by
            rw [upd_same, show Str.ofString "b" = sgn 98 from by decide +kernel]
          revert w11 eo1
          generalize upd H10 o1 (.tup [.str (Str.ofString "b"), .non]) = H11
          intro w11 eo1
          refine ⟨by show 3 ≤ sizeLine; decide, fun hp nhp => ?_⟩
          have s12 : Same H11 (upd H11 hp (.tup [.ref d, .str (Str.ofString "q"), .ref o1])) := same_upd nhp
          have w12 := w11.same s12
          have ehp : (upd H11 hp (.tup [.ref d, .str (Str.ofString "q"), .ref o1])) hp = some (.tup [.ref d, .str (sgn 113), .ref o1]) := by
            rw [upd_same, show Str.ofString "q" = sgn 113 from by decide +kernel]
          revert w12 ehp s12
          generalize upd H11 hp (.tup [.ref d, .str (Str.ofString "q"), .ref o1]) = H12
          intro s12 w12 ehp
          have eo12 := s12 _ _ eo1
          have emh12 := w12.ds (mh, mHp es) (by simp)
          refine ⟨.ref mh, rfl, mh, _, rfl, DPut.k (k := Sum.inr (Str.ofString "added")) emh12 (lm _), ?_⟩
          have pm : putK (mHp es) (Sum.inr (Str.ofString "added")) (V.ref hp) = mHp es ++ [(Sum.inr (Str.ofString "added"), V.ref hp)] := put_none (val_no _ nn)
          rw [pm]
          have w13 := Wd.putD (A := [(d, []), (ms, mSm es)]) (a := mh) w12 (mHp es ++ [(Sum.inr (Str.ofString "added"), V.ref hp)])
          have b13 : But mh H12 (upd H12 mh (.dK (mHp es ++ [(Sum.inr (Str.ofString "added"), V.ref hp)]))) := But.upd _ _ _
          revert w13 b13
          generalize upd H12 mh (.dK (mHp es ++ [(Sum.inr (Str.ofString "added"), V.ref hp)])) = H13
          intro w13 b13
          have nD : ∀ {b c : Addr} {kv : List (Key × V)} {o : HO} {Hz : Hp}, Hz b = some o → Hz c = some (.dK kv) → (∀ k, o ≠ .dK k) → b ≠ c := fun {b c kv o Hz} e1 e2 n z => by
            rw [z, e2] at e1
            exact n _ (Option.some.inj e1).symm
          have ehp13 := b13 _ _ (nD ehp emh12 (fun _ z => by cases z)) ehp
          have eo13 := b13 _ _ (nD eo12 emh12 (fun _ z => by cases z)) eo12
          have ems13 := w13.ds (ms, mSm es) (by simp)
          refine ⟨.ref ms, rfl, ms, _, rfl, DPut.k (k := Sum.inr (Str.ofString "added")) ems13 (lm _), ?_⟩
          have ps' : putK (mSm es) (Sum.inr (Str.ofString "added")) (V.str (Str.ofString "ab")) = mSm es ++ [(Sum.inr (Str.ofString "added"), V.str (Str.ofString "ab"))] := put_none (val_no _ nn)
          rw [ps']
          have w14 := Wd.putD (A := [(d, [])]) (a := ms) w13 (mSm es ++ [(Sum.inr (Str.ofString "added"), V.str (Str.ofString "ab"))])
          have b14 : But ms H13 (upd H13 ms (.dK (mSm es ++ [(Sum.inr (Str.ofString "added"), V.str (Str.ofString "ab"))]))) := But.upd _ _ _
          revert w14 b14
          generalize upd H13 ms (.dK (mSm es ++ [(Sum.inr (Str.ofString "added"), V.str (Str.ofString "ab"))])) = H14
          intro w14 b14
          have ehp14 := b14 _ _ (nD ehp13 ems13 (fun _ z => by cases z)) ehp13
          have eo14 := b14 _ _ (nD eo13 ems13 (fun _ z => by cases z)) eo13
          have emh14 := w14.ds (mh, mHp es ++ [(Sum.inr (Str.ofString "added"), V.ref hp)]) (by simp)
          have gmh : DGet H14 mh (.str (Str.ofString "added")) (some (.ref hp)) := .inl ⟨_, Sum.inr (Str.ofString "added"), .inl emh14, rfl, (val_last (val_no _ nn)).symm⟩
          refine ⟨.ref mh, rfl, mh, .ref hp, rfl, gmh, hp, _, 0, .ref d, rfl, rfl, SqT.of ehp14, rfl, by show 2 ≤ sizeLine; decide, fun o2 no2 => ?_⟩
          have s15 : Same H14 (upd H14 o2 (.tup [.str (Str.ofString "b"), .non])) := same_upd no2
          have w15 := w14.same s15
          have eo2 : (upd H14 o2 (.tup [.str (Str.ofString "b"), .non])) o2 = some (.tup [.str (sgn 98), .non]) := by
            rw [upd_same, show Str.ofString "b" = sgn 98 from by decide +kernel]
          revert w15 eo2 s15
          generalize upd H14 o2 (.tup [.str (Str.ofString "b"), .non]) = H15
          intro s15 w15 eo2
          refine ⟨d, 113, o2, by rw [show sgn 113 = Str.ofString "q" from by decide +kernel]; rfl, w15.tab, fun H16 g x16 tab16 ng mk => ?_⟩
          have w16 := w15.ext x16 tab16
          have kt16 : ∀ {b : Addr} {xs : List V}, H15 b = some (.tup xs) → H16 b = some (.tup xs) := fun {b xs} e => x16 _ _ e (fun _ z => by cases z)
          refine ⟨by show 2 ≤ sizeLine; decide, fun tp ntp => ?_⟩
          have s17 : Same H16 (upd H16 tp (.tup [.ref g, .str (Str.ofString "ab")])) := same_upd ntp
          have w17 := w16.same s17
          have etp : (upd H16 tp (.tup [.ref g, .str (Str.ofString "ab")])) tp = some (.tup [.ref g, .str (Str.ofString "ab")]) := upd_same
          revert w17 etp s17
          generalize upd H16 tp (.tup [.ref g, .str (Str.ofString "ab")]) = H17
          intro s17 w17 etp
          have et17 := w17.ds (t, kvsOf es) (by simp)
          refine ⟨.ref t, rfl, t, _, rfl, DPut.k (k := Sum.inr (Str.ofString "added")) et17 (lm _), ?_⟩
          have pt' : putK (kvsOf es) (Sum.inr (Str.ofString "added")) (V.ref tp) = kvsOf es ++ [(Sum.inr (Str.ofString "added"), V.ref tp)] := put_none (val_no _ nn)
          rw [pt']
          have w18 := Wd.putD (A := [(d, []), (ms, mSm es ++ [(Sum.inr (Str.ofString "added"), V.str (Str.ofString "ab"))]), (mh, mHp es ++ [(Sum.inr (Str.ofString "added"), V.ref hp)]), (t2, kvsOf es), (sm, mSm es), (hd, mHp es)]) (B := []) (a := t) w17 (kvsOf es ++ [(Sum.inr (Str.ofString "added"), V.ref tp)])
          have b18 : But t H17 (upd H17 t (.dK (kvsOf es ++ [(Sum.inr (Str.ofString "added"), V.ref tp)]))) := But.upd _ _ _
          revert w18 b18
          generalize upd H17 t (.dK (kvsOf es ++ [(Sum.inr (Str.ofString "added"), V.ref tp)])) = H18
          intro w18 b18
          have kt18 : ∀ {b : Addr} {xs : List V}, H17 b = some (.tup xs) → H18 b = some (.tup xs) := fun {b xs} e => b18 _ _ (nD e et17 (fun _ z => by cases z)) e
          have ehp18 := kt18 (s17 _ _ (kt16 (s15 _ _ ehp14)))
          have eo18 := kt18 (s17 _ _ (kt16 (s15 _ _ eo14)))
          have eo2' := kt18 (s17 _ _ (kt16 eo2))
          have etp18 := kt18 etp
          have mk18 : MkA H18 g d 113 o2 := MkA.g3 (p := 0) (t := 0) (hd := 0) mk (fun b φ e => b18 _ _ (nD (s17 _ _ e) et17 (fun _ z => by cases z)) (s17 _ _ e))
          have ed18 := w18.ds (d, []) (by simp)
          have cA : ∀ c ∈ tl (Str.ofString "added"), c < 256 := by decide +kernel
          have rE : RgtE H18 (dcs es ++ [d]) 11 11 (addE d o1 o2 hp g tp) := ⟨⟨etp18, mk18, eo2', eo18, ⟨[], ed18, by decide, (fun q hq => by cases hq)⟩, (by show (Str.ofString "added").length ≤ 100; decide +kernel), (by show (Str.ofString "ab").length ≤ 100; decide +kernel), (by show ∀ c ∈ tl (Str.ofString "ab"), c < 256; decide +kernel)⟩, ehp18, (by show 113 < 256; decide), (by show 98 < 256; decide), ⟨_, .non⟩, (fun a z => by cases z), List.mem_append_right _ (List.mem_singleton.mpr rfl), cA⟩
          have w19 := Wd.entry (e := addE d o1 o2 hp g tp) w18 rE rfl (fun q _ z => by cases z)
          have f1 : mSm (es ++ [addE d o1 o2 hp g tp]) = mSm es ++ [(Sum.inr (Str.ofString "added"), V.str (Str.ofString "ab"))] := by
            unfold mSm mapOf
            rw [List.map_append]
            rfl
          have f2 : mHp (es ++ [addE d o1 o2 hp g tp]) = mHp es ++ [(Sum.inr (Str.ofString "added"), V.ref hp)] := by
            unfold mHp mapOf
            rw [List.map_append]
            rfl
          have f3 : kvsOf (es ++ [addE d o1 o2 hp g tp]) = kvsOf es ++ [(Sum.inr (Str.ofString "added"), V.ref tp)] := by
            unfold kvsOf
            rw [List.map_append]
            rfl
          refine kc _ _ ⟨es ++ [addE d o1 o2 hp g tp], rfl, (fun e he => List.mem_append_left _ he), ?_, by rw [List.length_append]; show _ + 1 ≤ 12; omega, fun e he => ?_, ?_⟩
          · rw [List.map_append]
            refine List.nodup_append.mpr ⟨nod, List.nodup_cons.mpr ⟨List.not_mem_nil, List.nodup_nil⟩, fun y hy b hb w => ?_⟩
            rw [List.mem_singleton.mp hb] at w
            exact nn (by rw [← show y = Str.ofString "added" from w]; exact hy)
          · rcases List.mem_append.mp he with z | z
            · exact (I5.ok e z).1
            · rw [List.mem_singleton.mp z]
              exact add_ok _ _ _ _ _ _
          · rw [f1, f2, f3]
            exact w19
      · rintro σ' H10 ⟨es', rfl, sub, nod', le', ok', w10⟩
        refine ⟨.ref t, rfl, fun x' dx' nx' ndx' ne' => ?_⟩
        obtain ⟨a1, a2, a3⟩ := w10.ask (C := C) nx' ndx' ne' (t := t) (by simp)
        refine ⟨x', dx', t, es', 11, 11, rfl, a1, a2, a3, by omega, ok', fun H11 t3 g11 ex11 et11 nt11 _ => ⟨rfl, ?_⟩⟩
        have w11 := w10.made nx' ndx' ne' g11 ex11 et11 nt11
        have et' := w11.ds (t, kvsOf es') (by simp)
        refine ⟨.ref t, rfl, ?_, t, _, rfl, rfl, et', ?_⟩
        · exact Or.inr (Or.inr (Or.inl ⟨rfl, .inl ⟨_, et'⟩⟩))
        have w12 := Wd.putD (A := [(t3, kvsOf es'), (ms, mSm es'), (mh, mHp es'), (t2, kvsOf es), (sm, mSm es), (hd, mHp es)]) (B := []) (a := t) w11 []
        revert w12
        generalize upd H11 t (.dK []) = H12
        intro w12
        have nodD := w12.nd
        simp only [List.map_append, List.map_cons, List.map_nil, List.cons_append, List.nil_append, List.nodup_cons, List.mem_cons, List.not_mem_nil, or_false, not_or] at nodD
        obtain ⟨⟨_, c1, _⟩, ⟨c2, _⟩, _, ⟨_, c3, _⟩, ⟨c4, _⟩, _⟩ := nodD
        refine ⟨.ref p, rfl, .ref x, rfl, .ref hd, rfl, .ref sm, rfl, ?_⟩
        try delta tNil
        show spRight C [.ref p, .ref x, .ref hd, .ref sm] H12 _ _
        refine w12.right (x := x) (es := es) (C := C) (dx := dx) (t := t2) (by simp) (by simp) (by simp) (by simp) c3 c4 nod (by omega) sub (by omega) (by omega) fun H13 w13 => ⟨_, rfl, ?_⟩
        refine ⟨.ref p, rfl, .ref x', rfl, .ref mh, rfl, .ref ms, rfl, ?_⟩
        try delta tNil
        show spRight C [.ref p, .ref x', .ref mh, .ref ms] H13 _ _
        refine w13.right (x := x') (es := es') (C := C) (dx := dx') (t := t3) (by simp) (by simp) (by simp) (by simp) c1 c2 nod' le' (fun _ h => h) (by omega) (by omega) fun H14 w14 => ⟨_, rfl, ?_⟩
        refine ⟨.ref p, rfl, .ref x, rfl, .ref hd, rfl, .ref sm, rfl, ?_⟩
        try delta tNil
        show spRight C [.ref p, .ref x, .ref hd, .ref sm] H14 _ _
        refine w14.right (x := x) (es := es) (C := C) (dx := dx) (t := t2) (by simp) (by simp) (by simp) (by simp) c3 c4 nod (by omega) sub (by omega) (by omega) fun H15 w15 => ⟨_, rfl, ?_⟩
        exact ⟨back _ (fun q hq => (w15.ks q (List.mem_cons_of_mem _ (List.mem_cons_of_mem _ hq))).1), w15.tab, _, _, _, _, _, _, _, _, _, rfl⟩
    · rintro σ H3 ⟨hS3, tab3, x1, x2, x3, x4, x5, x6, x7, x8, x9, rfl⟩
      exact q _
end
end WB

set_option Elab.async false
set_option linter.all false
set_option maxRecDepth 100000
set_option maxHeartbeats 4000000
namespace WB
open PySem PySem.Spec PyProof.Rows L2 WG
open TL (tl)
theorem df_mk {K : PySem.W.Frag} {h : Heap} {mg : Str → Option Value} {x : Str} {st : Stmt} {ps : List Str} {f : Addr} {oc : Value} {od an : Option Addr} {osl : Array (Option Value)} {kV doc pm cdv ct : Value} (X : K.In h) (G : h.Ns mainGlobals mg)
    (a : PySem.W.nsIn K mainGlobals x = some (some (.ref f))) (l : K.lookup f = some ⟨oc, od, .func (PySem.W.fnOf x x (defArgs st) (defBody st) (defScope st) .none kV doc pm an cdv ct), osl⟩)
    (c : PySem.W.codeIn K cdv x = true) (k : PySem.W.keepIn K (.ref f) = true)
    (b : ∀ (kV doc pm : Value) (an : Option Addr) (cdv ct : Value) (us : List Value), us.length = ps.length → bindArgs (PySem.W.fnOf x x (defArgs st) (defBody st) (defScope st) .none kV doc pm an cdv ct) ⟨us, []⟩ = pure (ps.zip us)) :
    Df K mg x st ps f (PySem.W.fnOf x x (defArgs st) (defBody st) (defScope st) .none kV doc pm an cdv ct) := by
  have F := fun_mk (st := st) l c k
  exact ⟨F, F.binds b, PySem.W.mg_of X G a⟩
theorem all_mk {l : PySem.W.OpenLaw} {w : World} {K : PySem.W.Frag} {h : Heap} {mg : Str → Option Value} {fa T : Addr} (X : K.In h) (G : h.Ns mainGlobals mg) (hfa : mg "law" = some (.ref fa))
    {fCell : Addr} {odCell anCell : Option Addr} {slCell : Array (Option Value)} {ocCell kVCell dcCell pmCell cdCell ctCell : Value} {fPot : Addr} {odPot anPot : Option Addr} {slPot : Array (Option Value)} {ocPot kVPot dcPot pmPot cdPot ctPot : Value} {fDraw : Addr} {odDraw anDraw : Option Addr} {slDraw : Array (Option Value)} {ocDraw kVDraw dcDraw pmDraw cdDraw ctDraw : Value} {fSigns : Addr} {odSigns anSigns : Option Addr} {slSigns : Array (Option Value)} {ocSigns kVSigns dcSigns pmSigns cdSigns ctSigns : Value} {fText : Addr} {odText anText : Option Addr} {slText : Array (Option Value)} {ocText kVText dcText pmText cdText ctText : Value} {fName : Addr} {odName anName : Option Addr} {slName : Array (Option Value)} {ocName kVName dcName pmName cdName ctName : Value} {fSmp : Addr} {odSmp anSmp : Option Addr} {slSmp : Array (Option Value)} {ocSmp kVSmp dcSmp pmSmp cdSmp ctSmp : Value} {fOdd : Addr} {odOdd anOdd : Option Addr} {slOdd : Array (Option Value)} {ocOdd kVOdd dcOdd pmOdd cdOdd ctOdd : Value} {fTable : Addr} {odTable anTable : Option Addr} {slTable : Array (Option Value)} {ocTable kVTable dcTable pmTable cdTable ctTable : Value} {fOther : Addr} {odOther anOther : Option Addr} {slOther : Array (Option Value)} {ocOther kVOther dcOther pmOther cdOther ctOther : Value} {fAsk : Addr} {odAsk anAsk : Option Addr} {slAsk : Array (Option Value)} {ocAsk kVAsk dcAsk pmAsk cdAsk ctAsk : Value} {fKinds : Addr} {odKinds anKinds : Option Addr} {slKinds : Array (Option Value)} {ocKinds kVKinds dcKinds pmKinds cdKinds ctKinds : Value} {fWho : Addr} {odWho anWho : Option Addr} {slWho : Array (Option Value)} {ocWho kVWho dcWho pmWho cdWho ctWho : Value} {fRefused : Addr} {odRefused anRefused : Option Addr} {slRefused : Array (Option Value)} {ocRefused kVRefused dcRefused pmRefused cdRefused ctRefused : Value} {fLMade : Addr} {odLMade anLMade : Option Addr} {slLMade : Array (Option Value)} {ocLMade kVLMade dcLMade pmLMade cdLMade ctLMade : Value} {fMRight : Addr} {odMRight anMRight : Option Addr} {slMRight : Array (Option Value)} {ocMRight kVMRight dcMRight pmMRight cdMRight ctMRight : Value} {fNRight : Addr} {odNRight anNRight : Option Addr} {slNRight : Array (Option Value)} {ocNRight kVNRight dcNRight pmNRight cdNRight ctNRight : Value} {fRight : Addr} {odRight anRight : Option Addr} {slRight : Array (Option Value)} {ocRight kVRight dcRight pmRight cdRight ctRight : Value} {fWithin : Addr} {odWithin anWithin : Option Addr} {slWithin : Array (Option Value)} {ocWithin kVWithin dcWithin pmWithin cdWithin ctWithin : Value} {fIsName : Addr} {odIsName anIsName : Option Addr} {slIsName : Array (Option Value)} {ocIsName kVIsName dcIsName pmIsName cdIsName ctIsName : Value} {fSample : Addr} {odSample anSample : Option Addr} {slSample : Array (Option Value)} {ocSample kVSample dcSample pmSample cdSample ctSample : Value} {fKind : Addr} {odKind anKind : Option Addr} {slKind : Array (Option Value)} {ocKind kVKind dcKind pmKind cdKind ctKind : Value} {fMakes : Addr} {odMakes anMakes : Option Addr} {slMakes : Array (Option Value)} {ocMakes kVMakes dcMakes pmMakes cdMakes ctMakes : Value} {CU BE : Addr} {nmU qU : Str} {NU : Addr} {bsU : List Value} {snU : List Str} {subU : List Value} {abU : Bool} {colU : Option Bool} {ddU : Option Addr} {m0 m1 m2 m3 m5 : Option Value} {TD : Addr} {odTD : Option Addr} {ocTD : Value} {tTD : Tok} {nTD : Nat} {slTD : Array (Option Value)} {fE : Addr} {odE anE : Option Addr} {slE : Array (Option Value)} {ocE kVE dcE pmE cdE ctE : Value} {fOwn cO : Addr} {odOwn anOwn : Option Addr} {slOwn : Array (Option Value)} {ocOwn kVOwn dcOwn pmOwn ctOwn : Value} {CMk : Addr} {nmMk qMk : Str} {NMk : Addr} {bsMk : List Value} {snMk : List Str} {subMk : List Value} {abMk : Bool} {colMk : Option Bool} {ddMk : Option Addr} {nMk0 nMk1 nMk2 nMk3 nMk5 : Option Value} {fEMk : Addr} {odEMk anEMk : Option Addr} {slEMk : Array (Option Value)} {ocEMk kVEMk dcEMk pmEMk cdEMk ctEMk : Value} {CNn : Addr} {nmNn qNn : Str} {NNn : Addr} {bsNn : List Value} {snNn : List Str} {subNn : List Value} {abNn : Bool} {colNn : Option Bool} {ddNn : Option Addr} {nNn0 nNn1 nNn2 nNn3 nNn5 : Option Value} {fENn : Addr} {odENn anENn : Option Addr} {slENn : Array (Option Value)} {ocENn kVENn dcENn pmENn cdENn ctENn : Value} {C1 C2 C3 C4 C5 C6 C7 C8 C9 : Addr} {C : Addr} {fI : Addr} {odI anI : Option Addr} {slI : Array (Option Value)} {ocI kVI dcI pmI cdI ctI : Value} {fNA : Addr} {odNA anNA : Option Addr} {slNA : Array (Option Value)} {ocNA kVNA dcNA pmNA cdNA ctNA : Value} {fEN : Addr} {odEN anEN : Option Addr} {slEN : Array (Option Value)} {ocEN kVEN dcEN pmEN cdEN ctEN : Value} {fSA : Addr} {odSA anSA : Option Addr} {slSA : Array (Option Value)} {ocSA kVSA dcSA pmSA cdSA ctSA : Value} {fMA : Addr} {odMA anMA : Option Addr} {slMA : Array (Option Value)} {ocMA kVMA dcMA pmMA cdMA ctMA : Value} {u1 u2 u3 : Tok} {fLaw : Addr} {odLaw anLaw : Option Addr} {slLaw : Array (Option Value)} {ocLaw kVLaw dcLaw pmLaw cdLaw ctLaw : Value}
    (aCell : PySem.W.nsIn K mainGlobals "_law_cell" = some (some (.ref fCell)))
    (lCell : K.lookup fCell = some ⟨ocCell, odCell, .func (PySem.W.fnOf "_law_cell" "_law_cell" (defArgs sCell) (defBody sCell) (defScope sCell) .none kVCell dcCell pmCell anCell cdCell ctCell), slCell⟩)
    (cCell : PySem.W.codeIn K cdCell "_law_cell" = true)
    (kCell : PySem.W.keepIn K (.ref fCell) = true)
    (aPot : PySem.W.nsIn K mainGlobals "_law_pot" = some (some (.ref fPot)))
    (lPot : K.lookup fPot = some ⟨ocPot, odPot, .func (PySem.W.fnOf "_law_pot" "_law_pot" (defArgs sPot) (defBody sPot) (defScope sPot) .none kVPot dcPot pmPot anPot cdPot ctPot), slPot⟩)
    (cPot : PySem.W.codeIn K cdPot "_law_pot" = true)
    (kPot : PySem.W.keepIn K (.ref fPot) = true)
    (aDraw : PySem.W.nsIn K mainGlobals "_law_draw" = some (some (.ref fDraw)))
    (lDraw : K.lookup fDraw = some ⟨ocDraw, odDraw, .func (PySem.W.fnOf "_law_draw" "_law_draw" (defArgs sDraw) (defBody sDraw) (defScope sDraw) .none kVDraw dcDraw pmDraw anDraw cdDraw ctDraw), slDraw⟩)
    (cDraw : PySem.W.codeIn K cdDraw "_law_draw" = true)
    (kDraw : PySem.W.keepIn K (.ref fDraw) = true)
    (aSigns : PySem.W.nsIn K mainGlobals "_law_signs" = some (some (.ref fSigns)))
    (lSigns : K.lookup fSigns = some ⟨ocSigns, odSigns, .func (PySem.W.fnOf "_law_signs" "_law_signs" (defArgs sSigns) (defBody sSigns) (defScope sSigns) .none kVSigns dcSigns pmSigns anSigns cdSigns ctSigns), slSigns⟩)
    (cSigns : PySem.W.codeIn K cdSigns "_law_signs" = true)
    (kSigns : PySem.W.keepIn K (.ref fSigns) = true)
    (aText : PySem.W.nsIn K mainGlobals "_law_text" = some (some (.ref fText)))
    (lText : K.lookup fText = some ⟨ocText, odText, .func (PySem.W.fnOf "_law_text" "_law_text" (defArgs sText) (defBody sText) (defScope sText) .none kVText dcText pmText anText cdText ctText), slText⟩)
    (cText : PySem.W.codeIn K cdText "_law_text" = true)
    (kText : PySem.W.keepIn K (.ref fText) = true)
    (aName : PySem.W.nsIn K mainGlobals "_law_name" = some (some (.ref fName)))
    (lName : K.lookup fName = some ⟨ocName, odName, .func (PySem.W.fnOf "_law_name" "_law_name" (defArgs st_name) (defBody st_name) (defScope st_name) .none kVName dcName pmName anName cdName ctName), slName⟩)
    (cName : PySem.W.codeIn K cdName "_law_name" = true)
    (kName : PySem.W.keepIn K (.ref fName) = true)
    (aSmp : PySem.W.nsIn K mainGlobals "_law_sample" = some (some (.ref fSmp)))
    (lSmp : K.lookup fSmp = some ⟨ocSmp, odSmp, .func (PySem.W.fnOf "_law_sample" "_law_sample" (defArgs st_sample) (defBody st_sample) (defScope st_sample) .none kVSmp dcSmp pmSmp anSmp cdSmp ctSmp), slSmp⟩)
    (cSmp : PySem.W.codeIn K cdSmp "_law_sample" = true)
    (kSmp : PySem.W.keepIn K (.ref fSmp) = true)
    (aOdd : PySem.W.nsIn K mainGlobals "_law_odd" = some (some (.ref fOdd)))
    (lOdd : K.lookup fOdd = some ⟨ocOdd, odOdd, .func (PySem.W.fnOf "_law_odd" "_law_odd" (defArgs st_odd) (defBody st_odd) (defScope st_odd) .none kVOdd dcOdd pmOdd anOdd cdOdd ctOdd), slOdd⟩)
    (cOdd : PySem.W.codeIn K cdOdd "_law_odd" = true)
    (kOdd : PySem.W.keepIn K (.ref fOdd) = true)
    (aTable : PySem.W.nsIn K mainGlobals "_law_table" = some (some (.ref fTable)))
    (lTable : K.lookup fTable = some ⟨ocTable, odTable, .func (PySem.W.fnOf "_law_table" "_law_table" (defArgs st_table) (defBody st_table) (defScope st_table) .none kVTable dcTable pmTable anTable cdTable ctTable), slTable⟩)
    (cTable : PySem.W.codeIn K cdTable "_law_table" = true)
    (kTable : PySem.W.keepIn K (.ref fTable) = true)
    (aOther : PySem.W.nsIn K mainGlobals "_law_is_other" = some (some (.ref fOther)))
    (lOther : K.lookup fOther = some ⟨ocOther, odOther, .func (PySem.W.fnOf "_law_is_other" "_law_is_other" (defArgs st_is_other) (defBody st_is_other) (defScope st_is_other) .none kVOther dcOther pmOther anOther cdOther ctOther), slOther⟩)
    (cOther : PySem.W.codeIn K cdOther "_law_is_other" = true)
    (kOther : PySem.W.keepIn K (.ref fOther) = true)
    (aAsk : PySem.W.nsIn K mainGlobals "_law_ask" = some (some (.ref fAsk)))
    (lAsk : K.lookup fAsk = some ⟨ocAsk, odAsk, .func (PySem.W.fnOf "_law_ask" "_law_ask" (defArgs st_ask) (defBody st_ask) (defScope st_ask) .none kVAsk dcAsk pmAsk anAsk cdAsk ctAsk), slAsk⟩)
    (cAsk : PySem.W.codeIn K cdAsk "_law_ask" = true)
    (kAsk : PySem.W.keepIn K (.ref fAsk) = true)
    (aKinds : PySem.W.nsIn K mainGlobals "_law_kinds" = some (some (.ref fKinds)))
    (lKinds : K.lookup fKinds = some ⟨ocKinds, odKinds, .func (PySem.W.fnOf "_law_kinds" "_law_kinds" (defArgs st_kinds) (defBody st_kinds) (defScope st_kinds) .none kVKinds dcKinds pmKinds anKinds cdKinds ctKinds), slKinds⟩)
    (cKinds : PySem.W.codeIn K cdKinds "_law_kinds" = true)
    (kKinds : PySem.W.keepIn K (.ref fKinds) = true)
    (aWho : PySem.W.nsIn K mainGlobals "_law_who" = some (some (.ref fWho)))
    (lWho : K.lookup fWho = some ⟨ocWho, odWho, .func (PySem.W.fnOf "_law_who" "_law_who" (defArgs st_who) (defBody st_who) (defScope st_who) .none kVWho dcWho pmWho anWho cdWho ctWho), slWho⟩)
    (cWho : PySem.W.codeIn K cdWho "_law_who" = true)
    (kWho : PySem.W.keepIn K (.ref fWho) = true)
    (aRefused : PySem.W.nsIn K mainGlobals "_law_refused" = some (some (.ref fRefused)))
    (lRefused : K.lookup fRefused = some ⟨ocRefused, odRefused, .func (PySem.W.fnOf "_law_refused" "_law_refused" (defArgs st_refused) (defBody st_refused) (defScope st_refused) .none kVRefused dcRefused pmRefused anRefused cdRefused ctRefused), slRefused⟩)
    (cRefused : PySem.W.codeIn K cdRefused "_law_refused" = true)
    (kRefused : PySem.W.keepIn K (.ref fRefused) = true)
    (aLMade : PySem.W.nsIn K mainGlobals "_law_made" = some (some (.ref fLMade)))
    (lLMade : K.lookup fLMade = some ⟨ocLMade, odLMade, .func (PySem.W.fnOf "_law_made" "_law_made" (defArgs st_made) (defBody st_made) (defScope st_made) .none kVLMade dcLMade pmLMade anLMade cdLMade ctLMade), slLMade⟩)
    (cLMade : PySem.W.codeIn K cdLMade "_law_made" = true)
    (kLMade : PySem.W.keepIn K (.ref fLMade) = true)
    (aMRight : PySem.W.nsIn K mainGlobals "_law_made_right" = some (some (.ref fMRight)))
    (lMRight : K.lookup fMRight = some ⟨ocMRight, odMRight, .func (PySem.W.fnOf "_law_made_right" "_law_made_right" (defArgs st_made_right) (defBody st_made_right) (defScope st_made_right) .none kVMRight dcMRight pmMRight anMRight cdMRight ctMRight), slMRight⟩)
    (cMRight : PySem.W.codeIn K cdMRight "_law_made_right" = true)
    (kMRight : PySem.W.keepIn K (.ref fMRight) = true)
    (aNRight : PySem.W.nsIn K mainGlobals "_law_names_right" = some (some (.ref fNRight)))
    (lNRight : K.lookup fNRight = some ⟨ocNRight, odNRight, .func (PySem.W.fnOf "_law_names_right" "_law_names_right" (defArgs st_names_right) (defBody st_names_right) (defScope st_names_right) .none kVNRight dcNRight pmNRight anNRight cdNRight ctNRight), slNRight⟩)
    (cNRight : PySem.W.codeIn K cdNRight "_law_names_right" = true)
    (kNRight : PySem.W.keepIn K (.ref fNRight) = true)
    (aRight : PySem.W.nsIn K mainGlobals "_law_right" = some (some (.ref fRight)))
    (lRight : K.lookup fRight = some ⟨ocRight, odRight, .func (PySem.W.fnOf "_law_right" "_law_right" (defArgs st_right) (defBody st_right) (defScope st_right) .none kVRight dcRight pmRight anRight cdRight ctRight), slRight⟩)
    (cRight : PySem.W.codeIn K cdRight "_law_right" = true)
    (kRight : PySem.W.keepIn K (.ref fRight) = true)
    (aWithin : PySem.W.nsIn K mainGlobals "is_text_within" = some (some (.ref fWithin)))
    (lWithin : K.lookup fWithin = some ⟨ocWithin, odWithin, .func (PySem.W.fnOf "is_text_within" "is_text_within" (defArgs st_is_text_within) (defBody st_is_text_within) (defScope st_is_text_within) .none kVWithin dcWithin pmWithin anWithin cdWithin ctWithin), slWithin⟩)
    (cWithin : PySem.W.codeIn K cdWithin "is_text_within" = true)
    (kWithin : PySem.W.keepIn K (.ref fWithin) = true)
    (aIsName : PySem.W.nsIn K mainGlobals "is_name" = some (some (.ref fIsName)))
    (lIsName : K.lookup fIsName = some ⟨ocIsName, odIsName, .func (PySem.W.fnOf "is_name" "is_name" (defArgs st_is_name) (defBody st_is_name) (defScope st_is_name) .none kVIsName dcIsName pmIsName anIsName cdIsName ctIsName), slIsName⟩)
    (cIsName : PySem.W.codeIn K cdIsName "is_name" = true)
    (kIsName : PySem.W.keepIn K (.ref fIsName) = true)
    (aSample : PySem.W.nsIn K mainGlobals "is_sample" = some (some (.ref fSample)))
    (lSample : K.lookup fSample = some ⟨ocSample, odSample, .func (PySem.W.fnOf "is_sample" "is_sample" (defArgs st_is_sample) (defBody st_is_sample) (defScope st_is_sample) .none kVSample dcSample pmSample anSample cdSample ctSample), slSample⟩)
    (cSample : PySem.W.codeIn K cdSample "is_sample" = true)
    (kSample : PySem.W.keepIn K (.ref fSample) = true)
    (aKind : PySem.W.nsIn K mainGlobals "kind_of" = some (some (.ref fKind)))
    (lKind : K.lookup fKind = some ⟨ocKind, odKind, .func (PySem.W.fnOf "kind_of" "kind_of" (defArgs st_kind_of) (defBody st_kind_of) (defScope st_kind_of) .none kVKind dcKind pmKind anKind cdKind ctKind), slKind⟩)
    (cKind : PySem.W.codeIn K cdKind "kind_of" = true)
    (kKind : PySem.W.keepIn K (.ref fKind) = true)
    (aMakes : PySem.W.nsIn K mainGlobals "makes_of" = some (some (.ref fMakes)))
    (lMakes : K.lookup fMakes = some ⟨ocMakes, odMakes, .func (PySem.W.fnOf "makes_of" "makes_of" (defArgs st_makes_of) (defBody st_makes_of) (defScope st_makes_of) .none kVMakes dcMakes pmMakes anMakes cdMakes ctMakes), slMakes⟩)
    (cMakes : PySem.W.codeIn K cdMakes "makes_of" = true)
    (kMakes : PySem.W.keepIn K (.ref fMakes) = true)
    (aB : PySem.W.nsIn K mainGlobals "BenchError" = some (some (.ref BE)))
    (aN : PySem.W.nsIn K mainGlobals "Unmade" = some (some (.ref CU)))
    (xN : K.lookup CU = some (excClassObj nmU qU CU NU bsU [.type "ValueError", .type "Exception", .type "BaseException", .type "object"] true snU subU abU colU ddU m0 m1 m2 m3 m5 "ValueError.__new__"))
    (aE : PySem.W.findIn K (.ref CU) "__init__" = some (some (.ref fE)))
    (lE : K.lookup fE = some ⟨ocE, odE, .func (PySem.W.fnOf "__init__" "Unmade.__init__" (defArgs st_err) (defBody st_err) (defScope st_err) (.ref TD) kVE dcE pmE anE cdE ctE), slE⟩)
    (cE : PySem.W.codeIn K cdE "Unmade.__init__" = true)
    (kE : PySem.W.keepIn K (.ref fE) = true)
    (lTD : K.lookup TD = some ⟨ocTD, odTD, .seq [.str (Str.ofString "") tTD].toArray nTD, slTD⟩)
    (tE : PySem.W.typeIn K (.ref fE) = some (.type "function"))
    (saN : PySem.W.findIn K (.ref CU) "__setattr__" = some (some (.builtin "object.__setattr__")))
    (gaN : PySem.W.findIn K (.ref CU) "__getattribute__" = some (some (.builtin "BaseException.__getattribute__")))
    (ggN : PySem.W.findIn K (.ref CU) "__getattr__" = some none)
    (nfN : PySem.W.findIn K (.ref CU) "why" = some none)
    (hcN : PySem.W.findIn K (.ref CU) "__class__" = some (some (.builtin "object.__class__")))
    (kN : PySem.W.keepIn K (.ref CU) = true)
    (eN : PySem.W.subIn K (.ref CU) (.type "BaseException") = some true)
    (tN : PySem.W.typeIn K (.ref CU) = some (.type "type"))
    (hdN : PySem.W.hasDictIn K CU = true)
    (sN : PySem.W.subIn K (.ref CU) (.ref CU) = some true)
    (spN : PySem.W.specialIn K (.builtin "object.__class__") "__get__" = some (some (.builtin "getset_descriptor.__get__")))
    (tkN : PySem.W.takesIn K (.builtin "object.__class__") = some true)
    (moN : PySem.W.mroIn K CU (.type "object") = some true)
    (tB : PySem.W.typeIn K (.ref BE) = some (.type "type"))
    (hdB : PySem.W.hasDictIn K BE = true)
    (sB : PySem.W.subIn K (.ref CU) (.ref BE) = some false)
    (sV : PySem.W.subIn K (.ref CU) (.type "ValueError") = some true)
    (aOwn : PySem.W.nsIn K mainGlobals "_law_own" = some (some (.ref fOwn)))
    (lOwn : K.lookup fOwn = some ⟨ocOwn, odOwn, .func (PySem.W.fnOf "_law_own" "_law_own" (defArgs st_own) (defBody st_own) (defScope st_own) .none kVOwn dcOwn pmOwn anOwn (.ref cO) ctOwn), slOwn⟩)
    (cOwn : PySem.W.codeIn K (.ref cO) "_law_own" = true)
    (kOwn : PySem.W.keepIn K (.ref fOwn) = true)
    (tabK : K.lookup T = none)
    (tabH : PySem.W.codeHdIn K cO T = true)
    (aMk : PySem.W.nsIn K mainGlobals "NoMaker" = some (some (.ref CMk)))
    (xMk : K.lookup CMk = some (excClassObj nmMk qMk CMk NMk bsMk [.ref BE, .type "ValueError", .type "Exception", .type "BaseException", .type "object"] true snMk subMk abMk colMk ddMk nMk0 nMk1 nMk2 nMk3 nMk5 "ValueError.__new__"))
    (aEMk : PySem.W.findIn K (.ref CMk) "__init__" = some (some (.ref fEMk)))
    (lEMk : K.lookup fEMk = some ⟨ocEMk, odEMk, .func (PySem.W.fnOf "__init__" "NoMaker.__init__" (defArgs st_NoMaker_init) (defBody st_NoMaker_init) (defScope st_NoMaker_init) .none kVEMk dcEMk pmEMk anEMk cdEMk ctEMk), slEMk⟩)
    (cEMk : PySem.W.codeIn K cdEMk "NoMaker.__init__" = true)
    (kEMk : PySem.W.keepIn K (.ref fEMk) = true)
    (tEMk : PySem.W.typeIn K (.ref fEMk) = some (.type "function"))
    (saMk : PySem.W.findIn K (.ref CMk) "__setattr__" = some (some (.builtin "object.__setattr__")))
    (gaMk : PySem.W.findIn K (.ref CMk) "__getattribute__" = some (some (.builtin "BaseException.__getattribute__")))
    (ggMk : PySem.W.findIn K (.ref CMk) "__getattr__" = some none)
    (nfMk : PySem.W.findIn K (.ref CMk) "who" = some none)
    (hcMk : PySem.W.findIn K (.ref CMk) "__class__" = some (some (.builtin "object.__class__")))
    (kMk : PySem.W.keepIn K (.ref CMk) = true)
    (eMk : PySem.W.subIn K (.ref CMk) (.type "BaseException") = some true)
    (tMk : PySem.W.typeIn K (.ref CMk) = some (.type "type"))
    (hdMk : PySem.W.hasDictIn K CMk = true)
    (sMk : PySem.W.subIn K (.ref CMk) (.ref CMk) = some true)
    (moMk : PySem.W.mroIn K CMk (.type "object") = some true)
    (aNn : PySem.W.nsIn K mainGlobals "NoName" = some (some (.ref CNn)))
    (xNn : K.lookup CNn = some (excClassObj nmNn qNn CNn NNn bsNn [.ref BE, .type "ValueError", .type "Exception", .type "BaseException", .type "object"] true snNn subNn abNn colNn ddNn nNn0 nNn1 nNn2 nNn3 nNn5 "ValueError.__new__"))
    (aENn : PySem.W.findIn K (.ref CNn) "__init__" = some (some (.ref fENn)))
    (lENn : K.lookup fENn = some ⟨ocENn, odENn, .func (PySem.W.fnOf "__init__" "NoName.__init__" (defArgs st_NoName_init) (defBody st_NoName_init) (defScope st_NoName_init) .none kVENn dcENn pmENn anENn cdENn ctENn), slENn⟩)
    (cENn : PySem.W.codeIn K cdENn "NoName.__init__" = true)
    (kENn : PySem.W.keepIn K (.ref fENn) = true)
    (tENn : PySem.W.typeIn K (.ref fENn) = some (.type "function"))
    (saNn : PySem.W.findIn K (.ref CNn) "__setattr__" = some (some (.builtin "object.__setattr__")))
    (gaNn : PySem.W.findIn K (.ref CNn) "__getattribute__" = some (some (.builtin "BaseException.__getattribute__")))
    (ggNn : PySem.W.findIn K (.ref CNn) "__getattr__" = some none)
    (nfNn : PySem.W.findIn K (.ref CNn) "who" = some none)
    (hcNn : PySem.W.findIn K (.ref CNn) "__class__" = some (some (.builtin "object.__class__")))
    (kNn : PySem.W.keepIn K (.ref CNn) = true)
    (eNn : PySem.W.subIn K (.ref CNn) (.type "BaseException") = some true)
    (tNn : PySem.W.typeIn K (.ref CNn) = some (.type "type"))
    (hdNn : PySem.W.hasDictIn K CNn = true)
    (sNn : PySem.W.subIn K (.ref CNn) (.ref CNn) = some true)
    (moNn : PySem.W.mroIn K CNn (.type "object") = some true)
    (eB : PySem.W.subIn K (.ref BE) (.type "BaseException") = some true)
    (sNB : PySem.W.subIn K (.ref CNn) (.ref BE) = some true)
    (sNV : PySem.W.subIn K (.ref CNn) (.type "ValueError") = some true)
    (oa1 : PySem.W.nsIn K mainGlobals "BadDefault" = some (some (.ref C1)))
    (oh1 : PySem.W.hasDictIn K C1 = true)
    (ot1 : PySem.W.typeIn K (.ref C1) = some (.type "type"))
    (os1 : PySem.W.subIn K (.ref CNn) (.ref C1) = some false)
    (oa2 : PySem.W.nsIn K mainGlobals "Clash" = some (some (.ref C2)))
    (oh2 : PySem.W.hasDictIn K C2 = true)
    (ot2 : PySem.W.typeIn K (.ref C2) = some (.type "type"))
    (os2 : PySem.W.subIn K (.ref CNn) (.ref C2) = some false)
    (oa3 : PySem.W.nsIn K mainGlobals "Fault" = some (some (.ref C3)))
    (oh3 : PySem.W.hasDictIn K C3 = true)
    (ot3 : PySem.W.typeIn K (.ref C3) = some (.type "type"))
    (os3 : PySem.W.subIn K (.ref CNn) (.ref C3) = some false)
    (oa4 : PySem.W.nsIn K mainGlobals "NoCommand" = some (some (.ref C4)))
    (oh4 : PySem.W.hasDictIn K C4 = true)
    (ot4 : PySem.W.typeIn K (.ref C4) = some (.type "type"))
    (os4 : PySem.W.subIn K (.ref CNn) (.ref C4) = some false)
    (oa5 : PySem.W.nsIn K mainGlobals "NoMaker" = some (some (.ref C5)))
    (oh5 : PySem.W.hasDictIn K C5 = true)
    (ot5 : PySem.W.typeIn K (.ref C5) = some (.type "type"))
    (os5 : PySem.W.subIn K (.ref CNn) (.ref C5) = some false)
    (oa6 : PySem.W.nsIn K mainGlobals "NoOption" = some (some (.ref C6)))
    (oh6 : PySem.W.hasDictIn K C6 = true)
    (ot6 : PySem.W.typeIn K (.ref C6) = some (.type "type"))
    (os6 : PySem.W.subIn K (.ref CNn) (.ref C6) = some false)
    (oa7 : PySem.W.nsIn K mainGlobals "NoPlace" = some (some (.ref C7)))
    (oh7 : PySem.W.hasDictIn K C7 = true)
    (ot7 : PySem.W.typeIn K (.ref C7) = some (.type "type"))
    (os7 : PySem.W.subIn K (.ref CNn) (.ref C7) = some false)
    (oa8 : PySem.W.nsIn K mainGlobals "NoRow" = some (some (.ref C8)))
    (oh8 : PySem.W.hasDictIn K C8 = true)
    (ot8 : PySem.W.typeIn K (.ref C8) = some (.type "type"))
    (os8 : PySem.W.subIn K (.ref CNn) (.ref C8) = some false)
    (oa9 : PySem.W.nsIn K mainGlobals "Unmade" = some (some (.ref C9)))
    (oh9 : PySem.W.hasDictIn K C9 = true)
    (ot9 : PySem.W.typeIn K (.ref C9) = some (.type "type"))
    (os9 : PySem.W.subIn K (.ref CNn) (.ref C9) = some false)
    (aC : PySem.W.nsIn K mainGlobals "Makers" = some (some (.ref C)))
    (aI : PySem.W.findIn K (.ref C) "__init__" = some (some (.ref fI)))
    (lI : K.lookup fI = some ⟨ocI, odI, .func (PySem.W.fnOf "__init__" "Makers.__init__" (defArgs st_minit) (defBody st_minit) (defScope st_minit) .none kVI dcI pmI anI cdI ctI), slI⟩)
    (cI : PySem.W.codeIn K cdI "Makers.__init__" = true)
    (kI : PySem.W.keepIn K (.ref fI) = true)
    (iI : PySem.W.isFn K (.ref fI) = true)
    (aNA : PySem.W.findIn K (.ref C) "names" = some (some (.ref fNA)))
    (lNA : K.lookup fNA = some ⟨ocNA, odNA, .func (PySem.W.fnOf "names" "Makers.names" (defArgs st_mnames) (defBody st_mnames) (defScope st_mnames) .none kVNA dcNA pmNA anNA cdNA ctNA), slNA⟩)
    (cNA : PySem.W.codeIn K cdNA "Makers.names" = true)
    (kNA : PySem.W.keepIn K (.ref fNA) = true)
    (iNA : PySem.W.isFn K (.ref fNA) = true)
    (aEN : PySem.W.findIn K (.ref C) "entry" = some (some (.ref fEN)))
    (lEN : K.lookup fEN = some ⟨ocEN, odEN, .func (PySem.W.fnOf "entry" "Makers.entry" (defArgs st_Makers_entry) (defBody st_Makers_entry) (defScope st_Makers_entry) .none kVEN dcEN pmEN anEN cdEN ctEN), slEN⟩)
    (cEN : PySem.W.codeIn K cdEN "Makers.entry" = true)
    (kEN : PySem.W.keepIn K (.ref fEN) = true)
    (iEN : PySem.W.isFn K (.ref fEN) = true)
    (aSA : PySem.W.findIn K (.ref C) "sample" = some (some (.ref fSA)))
    (lSA : K.lookup fSA = some ⟨ocSA, odSA, .func (PySem.W.fnOf "sample" "Makers.sample" (defArgs st_Makers_sample) (defBody st_Makers_sample) (defScope st_Makers_sample) .none kVSA dcSA pmSA anSA cdSA ctSA), slSA⟩)
    (cSA : PySem.W.codeIn K cdSA "Makers.sample" = true)
    (kSA : PySem.W.keepIn K (.ref fSA) = true)
    (iSA : PySem.W.isFn K (.ref fSA) = true)
    (aMA : PySem.W.findIn K (.ref C) "made" = some (some (.ref fMA)))
    (lMA : K.lookup fMA = some ⟨ocMA, odMA, .func (PySem.W.fnOf "made" "Makers.made" (defArgs st_Makers_made) (defBody st_Makers_made) (defScope st_Makers_made) .none kVMA dcMA pmMA anMA cdMA ctMA), slMA⟩)
    (cMA : PySem.W.codeIn K cdMA "Makers.made" = true)
    (kMA : PySem.W.keepIn K (.ref fMA) = true)
    (iMA : PySem.W.isFn K (.ref fMA) = true)
    (pgC : PySem.W.plainGet K C Str.empty = true)
    (hdC : PySem.W.hasDictIn K C = true)
    (poC : PySem.W.plainOver K C = true)
    (saC : PySem.W.findIn K (.ref C) "__setattr__" = some (some (.builtin "object.__setattr__")))
    (nhC : PySem.W.findIn K (.ref C) "table" = some none)
    (mkC : PySem.W.makesIn K C = true)
    (kC : PySem.W.keepIn K (.ref C) = true)
    (v1 : PySem.W.nsIn K mainGlobals "MOST_NAME_SIGNS" = some (some (.int 10 u1)))
    (v2 : PySem.W.nsIn K mainGlobals "NAME_SIGNS" = some (some (.str nameSet u2)))
    (v3 : PySem.W.nsIn K mainGlobals "DIVIDER" = some (some (.str (Str.ofString "--") u3)))
    (z_len : PySem.W.nsIn K mainGlobals "len" = some none)
    (z_max : PySem.W.nsIn K mainGlobals "max" = some none)
    (z_min : PySem.W.nsIn K mainGlobals "min" = some none)
    (z_divmod : PySem.W.nsIn K mainGlobals "divmod" = some none)
    (z_range : PySem.W.nsIn K mainGlobals "range" = some none)
    (z_str : PySem.W.nsIn K mainGlobals "str" = some none)
    (z_int : PySem.W.nsIn K mainGlobals "int" = some none)
    (z_isinstance : PySem.W.nsIn K mainGlobals "isinstance" = some none)
    (z_ValueError : PySem.W.nsIn K mainGlobals "ValueError" = some none)
    (z_sorted : PySem.W.nsIn K mainGlobals "sorted" = some none)
    (z_list : PySem.W.nsIn K mainGlobals "list" = some none)
    (z_dict : PySem.W.nsIn K mainGlobals "dict" = some none)
    (z_all : PySem.W.nsIn K mainGlobals "all" = some none)
    (z_repr : PySem.W.nsIn K mainGlobals "repr" = some none)
    (aLaw : PySem.W.nsIn K mainGlobals "law" = some (some (.ref fLaw)))
    (lLaw : K.lookup fLaw = some ⟨ocLaw, odLaw, .func (PySem.W.fnOf "law" "law" (defArgs st_law) (defBody st_law) (defScope st_law) .none kVLaw dcLaw pmLaw anLaw cdLaw ctLaw), slLaw⟩)
    (cLaw : PySem.W.codeIn K cdLaw "law" = true)
    (kLaw : PySem.W.keepIn K (.ref fLaw) = true) :
    ∃ (fd : FuncData) (c cd : Addr), K.lookup T = none ∧ PySem.W.codeHdIn K c T = true ∧ (∀ (s : Shared) (v : Value), BindsTo s fd ⟨[v], []⟩ [("_law_script", v)]) ∧ ∀ base : Heap, K.In base → base.Ns mainGlobals mg → LamX.TabB base mg c T → GOk l.prog w K mg base CX0 9 fa fd ["_law_script"] (spLaw K T) := by
  have e := hfa.symm.trans (PySem.W.mg_of X G aLaw)
  cases e
  have g0 : ∀ {x : Str}, PySem.W.nsIn K mainGlobals x = some none → mg x = none := fun {x} z => PySem.W.mg_none_of X G z
  have DCell := df_mk (st := sCell) (ps := ["_law_script", "_law_k"]) X G aCell lCell cCell kCell fun _ _ _ _ _ _ us hl => match us, hl with | [_, _], _ => rfl
  have DPot := df_mk (st := sPot) (ps := ["_law_script", "_law_k"]) X G aPot lPot cPot kPot fun _ _ _ _ _ _ us hl => match us, hl with | [_, _], _ => rfl
  have DDraw := df_mk (st := sDraw) (ps := ["_law_pot_here", "_law_many"]) X G aDraw lDraw cDraw kDraw fun _ _ _ _ _ _ us hl => match us, hl with | [_, _], _ => rfl
  have DSigns := df_mk (st := sSigns) (ps := []) X G aSigns lSigns cSigns kSigns fun _ _ _ _ _ _ us hl => match us, hl with | [], _ => rfl
  have DText := df_mk (st := sText) (ps := ["_law_pot_here", "_law_most", "_law_signs_here"]) X G aText lText cText kText fun _ _ _ _ _ _ us hl => match us, hl with | [_, _, _], _ => rfl
  have DName := df_mk (st := st_name) (ps := ["_law_pot_here"]) X G aName lName cName kName fun _ _ _ _ _ _ us hl => match us, hl with | [_], _ => rfl
  have DSmp := df_mk (st := st_sample) (ps := ["_law_pot_here", "_law_bad"]) X G aSmp lSmp cSmp kSmp fun _ _ _ _ _ _ us hl => match us, hl with | [_, _], _ => rfl
  have DOdd := df_mk (st := st_odd) (ps := ["_law_pot_here", "_law_bad"]) X G aOdd lOdd cOdd kOdd fun _ _ _ _ _ _ us hl => match us, hl with | [_, _], _ => rfl
  have DTable := df_mk (st := st_table) (ps := ["_law_pot_here"]) X G aTable lTable cTable kTable fun _ _ _ _ _ _ us hl => match us, hl with | [_], _ => rfl
  have DOther := df_mk (st := st_is_other) (ps := ["_law_e"]) X G aOther lOther cOther kOther fun _ _ _ _ _ _ us hl => match us, hl with | [_], _ => rfl
  have DAsk := df_mk (st := st_ask) (ps := ["_law_makers", "_law_way", "_law_name_here"]) X G aAsk lAsk cAsk kAsk fun _ _ _ _ _ _ us hl => match us, hl with | [_, _, _], _ => rfl
  have DKinds := df_mk (st := st_kinds) (ps := ["_law_makers", "_law_way", "_law_name_here"]) X G aKinds lKinds cKinds kKinds fun _ _ _ _ _ _ us hl => match us, hl with | [_, _, _], _ => rfl
  have DWho := df_mk (st := st_who) (ps := ["_law_makers", "_law_way", "_law_name_here"]) X G aWho lWho cWho kWho fun _ _ _ _ _ _ us hl => match us, hl with | [_, _, _], _ => rfl
  have DRefused := df_mk (st := st_refused) (ps := ["_law_makers", "_law_way", "_law_name_here"]) X G aRefused lRefused cRefused kRefused fun _ _ _ _ _ _ us hl => match us, hl with | [_, _, _], _ => rfl
  have DLMade := df_mk (st := st_made) (ps := ["_law_makers", "_law_name_here", "_law_word"]) X G aLMade lLMade cLMade kLMade fun _ _ _ _ _ _ us hl => match us, hl with | [_, _, _], _ => rfl
  have DMRight := df_mk (st := st_made_right) (ps := ["_law_makers", "_law_held", "_law_name_here", "_law_word"]) X G aMRight lMRight cMRight kMRight fun _ _ _ _ _ _ us hl => match us, hl with | [_, _, _, _], _ => rfl
  have DNRight := df_mk (st := st_names_right) (ps := ["_law_makers", "_law_due"]) X G aNRight lNRight cNRight kNRight fun _ _ _ _ _ _ us hl => match us, hl with | [_, _], _ => rfl
  have DRight := df_mk (st := st_right) (ps := ["_law_pot_here", "_law_makers", "_law_held", "_law_samples"]) X G aRight lRight cRight kRight fun _ _ _ _ _ _ us hl => match us, hl with | [_, _, _, _], _ => rfl
  have DWithin := df_mk (st := st_is_text_within) (ps := ["value", "most"]) X G aWithin lWithin cWithin kWithin fun _ _ _ _ _ _ us hl => match us, hl with | [_, _], _ => rfl
  have DIsName := df_mk (st := st_is_name) (ps := ["value"]) X G aIsName lIsName cIsName kIsName fun _ _ _ _ _ _ us hl => match us, hl with | [_], _ => rfl
  have DSample := df_mk (st := st_is_sample) (ps := ["value", "maker"]) X G aSample lSample cSample kSample fun _ _ _ _ _ _ us hl => match us, hl with | [_, _], _ => rfl
  have DKind := df_mk (st := st_kind_of) (ps := ["word"]) X G aKind lKind cKind kKind fun _ _ _ _ _ _ us hl => match us, hl with | [_], _ => rfl
  have DMakes := df_mk (st := st_makes_of) (ps := ["maker", "word"]) X G aMakes lMakes cMakes kMakes fun _ _ _ _ _ _ us hl => match us, hl with | [_, _], _ => rfl
  have FLaw := fun_mk (st := st_law) lLaw cLaw kLaw
  have FE : ErrD K fE _ := ⟨⟨_, _, _, _, _, _, _, _, _, _, rfl, lE, cE, .inr ⟨by simp, TD, _, _, _, rfl, lTD, rfl, .cons ⟨_, rfl⟩ .nil⟩, .inl rfl⟩, kE⟩
  have TE : ErrT K mg "Unmade" CU fE _ := ⟨⟨⟨nmU, qU, NU, bsU, _, snU, subU, abU, colU, ddU, m0, m1, m2, m3, m5, xN, rfl⟩, saN, eN, tN, kN⟩, aE, tE, nfN, PySem.W.mg_of X G aN, err_b2 FE⟩
  have CT : CaughtT K CU BE := ⟨⟨gaN, ggN, eN, hdN⟩, ⟨gaN, ggN, eN, hdN, hcN, spN, tkN, moN⟩, PySem.W.exm_ref eN hdN tN sN, kit_subT (by decide +kernel) sV, kit_subR hdB tB sB sN⟩
  have FMk := fun_mk (st := st_NoMaker_init) lEMk cEMk kEMk
  have bMk := FMk.binds (ps := ["self", "who"]) fun _ _ _ _ _ _ us hl => match us, hl with | [_, _], _ => rfl
  have TMk : ErrM K mg "NoMaker" CMk fEMk _ := ⟨⟨⟨nmMk, qMk, NMk, bsMk, _, snMk, subMk, abMk, colMk, ddMk, nMk0, nMk1, nMk2, nMk3, nMk5, xMk, rfl⟩, saMk, eMk, tMk, kMk⟩, aEMk, tEMk, nfMk, PySem.W.mg_of X G aMk, bMk⟩
  have FNn := fun_mk (st := st_NoName_init) lENn cENn kENn
  have bNn := FNn.binds (ps := ["self", "who"]) fun _ _ _ _ _ _ us hl => match us, hl with | [_, _], _ => rfl
  have TNn : ErrM K mg "NoName" CNn fENn _ := ⟨⟨⟨nmNn, qNn, NNn, bsNn, _, snNn, subNn, abNn, colNn, ddNn, nNn0, nNn1, nNn2, nNn3, nNn5, xNn, rfl⟩, saNn, eNn, tNn, kNn⟩, aENn, tENn, nfNn, PySem.W.mg_of X G aNn, bNn⟩
  have DOwn := df_mk (st := st_own) (ps := ["_law_kept", "_law_bad", "_law_odd_here"]) X G aOwn lOwn cOwn kOwn fun _ _ _ _ _ _ us hl => match us, hl with | [_, _, _], _ => rfl
  have TC : ExcC K CNn := ⟨gaNn, ggNn, eNn, hdNn, hcNn, spN, tkN, moNn⟩
  have CM : CaughtM K CNn BE := ⟨⟨gaNn, ggNn, eNn, hdNn⟩, TC, PySem.W.exm_ref eNn hdNn tNn sNn, PySem.W.exm_ref eB hdB tB sNB, kit_subT (by decide +kernel) sNV, kit_subR hdNn tNn sNn sNn⟩
  have OO : Others K mg CNn C1 C2 C3 C4 C5 C6 C7 C8 C9 := ⟨PySem.W.mg_of X G oa1, PySem.W.mg_of X G oa2, PySem.W.mg_of X G oa3, PySem.W.mg_of X G oa4, PySem.W.mg_of X G oa5, PySem.W.mg_of X G oa6, PySem.W.mg_of X G oa7, PySem.W.mg_of X G oa8, PySem.W.mg_of X G oa9, fun c hc => by
    simp only [List.mem_cons, List.not_mem_nil, or_false] at hc
    rcases hc with rfl | rfl | rfl | rfl | rfl | rfl | rfl | rfl | rfl
    · exact kit_subR oh1 ot1 os1 sNn
    · exact kit_subR oh2 ot2 os2 sNn
    · exact kit_subR oh3 ot3 os3 sNn
    · exact kit_subR oh4 ot4 os4 sNn
    · exact kit_subR oh5 ot5 os5 sNn
    · exact kit_subR oh6 ot6 os6 sNn
    · exact kit_subR oh7 ot7 os7 sNn
    · exact kit_subR oh8 ot8 os8 sNn
    · exact kit_subR oh9 ot9 os9 sNn⟩
  have TT : ClsT K C := ⟨⟨pgC, hdC, poC, saC⟩, nhC⟩
  have FI := fun_mk (st := st_minit) lI cI kI
  have bI := FI.binds (ps := ["self", "table"]) fun _ _ _ _ _ _ us hl => match us, hl with | [_, _], _ => rfl
  have FNA := fun_mk (st := st_mnames) lNA cNA kNA
  have bNA := FNA.binds (ps := ["self"]) fun _ _ _ _ _ _ us hl => match us, hl with | [_], _ => rfl
  have FEN := fun_mk (st := st_Makers_entry) lEN cEN kEN
  have bEN := FEN.binds (ps := ["self", "name"]) fun _ _ _ _ _ _ us hl => match us, hl with | [_, _], _ => rfl
  have FSA := fun_mk (st := st_Makers_sample) lSA cSA kSA
  have bSA := FSA.binds (ps := ["self", "name"]) fun _ _ _ _ _ _ us hl => match us, hl with | [_, _], _ => rfl
  have FMA := fun_mk (st := st_Makers_made) lMA cMA kMA
  have bMA := FMA.binds (ps := ["self", "name", "word"]) fun _ _ _ _ _ _ us hl => match us, hl with | [_, _, _], _ => rfl
  refine ⟨PySem.W.fnOf "law" "law" (defArgs st_law) (defBody st_law) (defScope st_law) .none kVLaw dcLaw pmLaw anLaw cdLaw ctLaw, cO, cO, tabK, tabH, fun s v => ?_, fun base _ _ tb => ?_⟩
  · exact .of_eq rfl
  · have GIN := ok_inner (P := l.prog) (w := w) (base := base) (k := 0) FE TE
    have GIN1 := ok_inner (P := l.prog) (w := w) (base := base) (k := 1) FE TE
    have GMk := ok_makes (k := 0) DMakes.F GIN TE CT
    have GSa := ok_sample (k := 0) DSample.F DKind DMakes GMk (g0 z_len) (PySem.W.mg_of X G v3) (g0 z_isinstance) (g0 z_str)
    have GI := ok_minit (k := 0) FI FMk TMk TT DWithin DIsName DSample GSa (g0 z_dict) (g0 z_len) (g0 z_str) (g0 z_isinstance) (g0 z_all) (PySem.W.mg_of X G v1) (PySem.W.mg_of X G v2)
    have mE : Meth K C "entry" fEN := ⟨aEN, iEN, kEN⟩
    have mS : Meth K C "sample" fSA := ⟨aSA, iSA, kSA⟩
    have mM : Meth K C "made" fMA := ⟨aMA, iMA, kMA⟩
    have mN : Meth K C "names" fNA := ⟨aNA, iNA, kNA⟩
    have GE0 := ok_entry (P := l.prog) (w := w) (base := base) (k := 0) FEN FNn TNn TT
    have GE1 := ok_entry (P := l.prog) (w := w) (base := base) (k := 1) FEN FNn TNn TT
    have GE3 := ok_entry (P := l.prog) (w := w) (base := base) (k := 3) FEN FNn TNn TT
    have GS0 := ok_msample (k := 0) FSA TT mE GE0 bEN
    have GS3 := ok_msample (k := 3) FSA TT mE GE3 bEN
    have GM0 := ok_mmade (k := 0) FMA TT mE GE0 bEN GIN
    have GM1 := ok_mmade (k := 1) FMA TT mE GE1 bEN GIN1
    have GO : ∀ cls d, WG.FnP l.prog w K mg base 5 fOther _ ["_law_e"] (ZC cls d) (spOther CNn cls d) := fun cls d => ok_other DOther.F OO TC (g0 z_isinstance) cls d
    have GA := ok_ask (k := 0) DAsk.F TT mS GS0 bSA mM GM0 bMA
    have GKi := ok_kinds (k := 0) DKinds.F DAsk GA DOther GO TNn CM (PySem.W.mg_of X G aB) (g0 z_isinstance) (g0 z_ValueError)
    have GWh := ok_who (k := 0) DWho.F DAsk GA TNn CM
    have GRef := ok_refused (k := 0) DRefused.F DKinds GKi DWho GWh
    have GLm := ok_lmade (k := 1) DLMade.F TT mM GM1 bMA TE CT
    have GMr := ok_mr (k := 1) DMRight.F DLMade GLm (g0 z_len) (g0 z_int) (g0 z_list) (g0 z_repr) (g0 z_isinstance)
    have GNr := ok_nr (P := l.prog) (w := w) (base := base) (k := 5) DNRight.F TT mN FNA bNA (g0 z_sorted) (g0 z_list) (g0 z_isinstance)
    have GR := ok_right (CU := CU) (k := 0) DRight.F DDraw DSigns DText DNRight GNr DRefused GRef DMRight GMr TT mS GS3 bSA (g0 z_divmod) (g0 z_len) (g0 z_range) (g0 z_sorted) (g0 z_isinstance) (g0 z_str) (g0 z_all)
    have GOw6 := ok_own (P := l.prog) (w := w) (k := 6) lOwn cOwn tb
    have GOw7 := ok_own (P := l.prog) (w := w) (k := 7) lOwn cOwn tb
    have GSm := ok_lsample (P := l.prog) (w := w) (base := base) (k := 4) DSmp.F DDraw DText (g0 z_divmod) (g0 z_len) (g0 z_range) (g0 z_int)
    have GT := ok_table (k := 4) DTable.F DDraw DName DOdd GOw6 DOwn.g DOwn.F.kp DOwn.b DSmp GSm (g0 z_divmod) (g0 z_len) (g0 z_range)
    exact ok_law (k := 0) FLaw DCell DPot DTable GT ⟨mkC, aI, iI, kC⟩ GI (PySem.W.mg_of X G aC) bI GOw7 DOwn.g DOwn.F.kp DOwn.b DRight GR (g0 z_len) (g0 z_max) (g0 z_min) (g0 z_range) (g0 z_dict)
end WB

open PySem PySem.W PyProof.Rows
set_option maxRecDepth 100000
set_option Elab.async false
set_option maxHeartbeats 0 in
theorem PySem.Challenge.cw_wordbench_k35_whole_tables_of_makers_holds : PySem.Challenge.rw_wordbench_k35_whole_tables_of_makers.Holds := by
  w_on; o_law; k_head; (case hw => w_witness2)
  k_fill
  refine WG.gwalk_ofT (l := PySem.Challenge.rw_wordbench_k35_whole_tables_of_makers) (n := 63) (k := 9) (x := "_law_script") (CX := fun _ => L2.CX0) (sp := fun w T => WB.spLaw _ T) rfl (by decide) rfl ⟨rfl, by decide, by decide⟩ (fun w h Y => PySem.W.km_in_of Y) (fun w h Y => PySem.W.km_tabs_of Y _ (.head _)) ?F (fun _ _ a ns hl hT hS => ⟨a, ns, rfl, hT, hS, hl, fun _ => rfl⟩) (fun _ _ _ _ _ h => h)
  case F =>
    intro w mg fa h KX G hmg
    refine' WB.all_mk KX G hmg ?aCell ?lCell ?cCell ?kCell ?aPot ?lPot ?cPot ?kPot ?aDraw ?lDraw ?cDraw ?kDraw ?aSigns ?lSigns ?cSigns ?kSigns ?aText ?lText ?cText ?kText ?aName ?lName ?cName ?kName ?aSmp ?lSmp ?cSmp ?kSmp ?aOdd ?lOdd ?cOdd ?kOdd ?aTable ?lTable ?cTable ?kTable ?aOther ?lOther ?cOther ?kOther ?aAsk ?lAsk ?cAsk ?kAsk ?aKinds ?lKinds ?cKinds ?kKinds ?aWho ?lWho ?cWho ?kWho ?aRefused ?lRefused ?cRefused ?kRefused ?aLMade ?lLMade ?cLMade ?kLMade ?aMRight ?lMRight ?cMRight ?kMRight ?aNRight ?lNRight ?cNRight ?kNRight ?aRight ?lRight ?cRight ?kRight ?aWithin ?lWithin ?cWithin ?kWithin ?aIsName ?lIsName ?cIsName ?kIsName ?aSample ?lSample ?cSample ?kSample ?aKind ?lKind ?cKind ?kKind ?aMakes ?lMakes ?cMakes ?kMakes ?aB ?aN ?xN ?aE ?lE ?cE ?kE ?lTD ?tE ?saN ?gaN ?ggN ?nfN ?hcN ?kN ?eN ?tN ?hdN ?sN ?spN ?tkN ?moN ?tB ?hdB ?sB ?sV ?aOwn ?lOwn ?cOwn ?kOwn ?tabK ?tabH ?aMk ?xMk ?aEMk ?lEMk ?cEMk ?kEMk ?tEMk ?saMk ?gaMk ?ggMk ?nfMk ?hcMk ?kMk ?eMk ?tMk ?hdMk ?sMk ?moMk ?aNn ?xNn ?aENn ?lENn ?cENn ?kENn ?tENn ?saNn ?gaNn ?ggNn ?nfNn ?hcNn ?kNn ?eNn ?tNn ?hdNn ?sNn ?moNn ?eB ?sNB ?sNV ?oa1 ?oh1 ?ot1 ?os1 ?oa2 ?oh2 ?ot2 ?os2 ?oa3 ?oh3 ?ot3 ?os3 ?oa4 ?oh4 ?ot4 ?os4 ?oa5 ?oh5 ?ot5 ?os5 ?oa6 ?oh6 ?ot6 ?os6 ?oa7 ?oh7 ?ot7 ?os7 ?oa8 ?oh8 ?ot8 ?os8 ?oa9 ?oh9 ?ot9 ?os9 ?aC ?aI ?lI ?cI ?kI ?iI ?aNA ?lNA ?cNA ?kNA ?iNA ?aEN ?lEN ?cEN ?kEN ?iEN ?aSA ?lSA ?cSA ?kSA ?iSA ?aMA ?lMA ?cMA ?kMA ?iMA ?pgC ?hdC ?poC ?saC ?nhC ?mkC ?kC ?v1 ?v2 ?v3 ?z_len ?z_max ?z_min ?z_divmod ?z_range ?z_str ?z_int ?z_isinstance ?z_ValueError ?z_sorted ?z_list ?z_dict ?z_all ?z_repr ?aLaw ?lLaw ?cLaw ?kLaw
    (case aCell => k_is)
    (case lCell => k_is)
    (case cCell => k_is)
    (case kCell => k_is)
    (case aPot => k_is)
    (case lPot => k_is)
    (case cPot => k_is)
    (case kPot => k_is)
    (case aDraw => k_is)
    (case lDraw => k_is)
    (case cDraw => k_is)
    (case kDraw => k_is)
    (case aSigns => k_is)
    (case lSigns => k_is)
    (case cSigns => k_is)
    (case kSigns => k_is)
    (case aText => k_is)
    (case lText => k_is)
    (case cText => k_is)
    (case kText => k_is)
    (case aName => k_is)
    (case lName => k_is)
    (case cName => k_is)
    (case kName => k_is)
    (case aSmp => k_is)
    (case lSmp => k_is)
    (case cSmp => k_is)
    (case kSmp => k_is)
    (case aOdd => k_is)
    (case lOdd => k_is)
    (case cOdd => k_is)
    (case kOdd => k_is)
    (case aTable => k_is)
    (case lTable => k_is)
    (case cTable => k_is)
    (case kTable => k_is)
    (case aOther => k_is)
    (case lOther => k_is)
    (case cOther => k_is)
    (case kOther => k_is)
    (case aAsk => k_is)
    (case lAsk => k_is)
    (case cAsk => k_is)
    (case kAsk => k_is)
    (case aKinds => k_is)
    (case lKinds => k_is)
    (case cKinds => k_is)
    (case kKinds => k_is)
    (case aWho => k_is)
    (case lWho => k_is)
    (case cWho => k_is)
    (case kWho => k_is)
    (case aRefused => k_is)
    (case lRefused => k_is)
    (case cRefused => k_is)
    (case kRefused => k_is)
    (case aLMade => k_is)
    (case lLMade => k_is)
    (case cLMade => k_is)
    (case kLMade => k_is)
    (case aMRight => k_is)
    (case lMRight => k_is)
    (case cMRight => k_is)
    (case kMRight => k_is)
    (case aNRight => k_is)
    (case lNRight => k_is)
    (case cNRight => k_is)
    (case kNRight => k_is)
    (case aRight => k_is)
    (case lRight => k_is)
    (case cRight => k_is)
    (case kRight => k_is)
    (case aWithin => k_is)
    (case lWithin => k_is)
    (case cWithin => k_is)
    (case kWithin => k_is)
    (case aIsName => k_is)
    (case lIsName => k_is)
    (case cIsName => k_is)
    (case kIsName => k_is)
    (case aSample => k_is)
    (case lSample => k_is)
    (case cSample => k_is)
    (case kSample => k_is)
    (case aKind => k_is)
    (case lKind => k_is)
    (case cKind => k_is)
    (case kKind => k_is)
    (case aMakes => k_is)
    (case lMakes => k_is)
    (case cMakes => k_is)
    (case kMakes => k_is)
    (case aB => k_is)
    (case aN => k_is)
    (case xN => k_is)
    (case aE => k_is)
    (case lE => k_is)
    (case cE => k_is)
    (case kE => k_is)
    (case lTD => k_is)
    (case tE => k_is)
    (case saN => k_is)
    (case gaN => k_is)
    (case ggN => k_is)
    (case nfN => k_is)
    (case hcN => k_is)
    (case kN => k_is)
    (case eN => k_is)
    (case tN => k_is)
    (case hdN => k_is)
    (case sN => k_is)
    (case spN => k_is)
    (case tkN => k_is)
    (case moN => k_is)
    (case tB => k_is)
    (case hdB => k_is)
    (case sB => k_is)
    (case sV => k_is)
    (case aOwn => k_is)
    (case lOwn => k_is)
    (case cOwn => k_is)
    (case kOwn => k_is)
    (case tabK => first | k_is | exact rfl | decide +kernel)
    (case tabH => first | k_is | exact rfl | decide +kernel)
    (case aMk => k_is)
    (case xMk => k_is)
    (case aEMk => k_is)
    (case lEMk => k_is)
    (case cEMk => k_is)
    (case kEMk => k_is)
    (case tEMk => k_is)
    (case saMk => k_is)
    (case gaMk => k_is)
    (case ggMk => k_is)
    (case nfMk => k_is)
    (case hcMk => k_is)
    (case kMk => k_is)
    (case eMk => k_is)
    (case tMk => k_is)
    (case hdMk => k_is)
    (case sMk => k_is)
    (case moMk => k_is)
    (case aNn => k_is)
    (case xNn => k_is)
    (case aENn => k_is)
    (case lENn => k_is)
    (case cENn => k_is)
    (case kENn => k_is)
    (case tENn => k_is)
    (case saNn => k_is)
    (case gaNn => k_is)
    (case ggNn => k_is)
    (case nfNn => k_is)
    (case hcNn => k_is)
    (case kNn => k_is)
    (case eNn => k_is)
    (case tNn => k_is)
    (case hdNn => k_is)
    (case sNn => k_is)
    (case moNn => k_is)
    (case eB => k_is)
    (case sNB => k_is)
    (case sNV => k_is)
    (case oa1 => k_is)
    (case oh1 => k_is)
    (case ot1 => k_is)
    (case os1 => k_is)
    (case oa2 => k_is)
    (case oh2 => k_is)
    (case ot2 => k_is)
    (case os2 => k_is)
    (case oa3 => k_is)
    (case oh3 => k_is)
    (case ot3 => k_is)
    (case os3 => k_is)
    (case oa4 => k_is)
    (case oh4 => k_is)
    (case ot4 => k_is)
    (case os4 => k_is)
    (case oa5 => k_is)
    (case oh5 => k_is)
    (case ot5 => k_is)
    (case os5 => k_is)
    (case oa6 => k_is)
    (case oh6 => k_is)
    (case ot6 => k_is)
    (case os6 => k_is)
    (case oa7 => k_is)
    (case oh7 => k_is)
    (case ot7 => k_is)
    (case os7 => k_is)
    (case oa8 => k_is)
    (case oh8 => k_is)
    (case ot8 => k_is)
    (case os8 => k_is)
    (case oa9 => k_is)
    (case oh9 => k_is)
    (case ot9 => k_is)
    (case os9 => k_is)
    (case aC => k_is)
    (case aI => k_is)
    (case lI => k_is)
    (case cI => k_is)
    (case kI => k_is)
    (case iI => k_is)
    (case aNA => k_is)
    (case lNA => k_is)
    (case cNA => k_is)
    (case kNA => k_is)
    (case iNA => k_is)
    (case aEN => k_is)
    (case lEN => k_is)
    (case cEN => k_is)
    (case kEN => k_is)
    (case iEN => k_is)
    (case aSA => k_is)
    (case lSA => k_is)
    (case cSA => k_is)
    (case kSA => k_is)
    (case iSA => k_is)
    (case aMA => k_is)
    (case lMA => k_is)
    (case cMA => k_is)
    (case kMA => k_is)
    (case iMA => k_is)
    (case pgC => k_is)
    (case hdC => k_is)
    (case poC => k_is)
    (case saC => k_is)
    (case nhC => k_is)
    (case mkC => k_is)
    (case kC => k_is)
    (case v1 => k_is)
    (case v2 => k_is)
    (case v3 => k_is)
    (case z_len => k_is)
    (case z_max => k_is)
    (case z_min => k_is)
    (case z_divmod => k_is)
    (case z_range => k_is)
    (case z_str => k_is)
    (case z_int => k_is)
    (case z_isinstance => k_is)
    (case z_ValueError => k_is)
    (case z_sorted => k_is)
    (case z_list => k_is)
    (case z_dict => k_is)
    (case z_all => k_is)
    (case z_repr => k_is)
    (case aLaw => k_is)
    (case lLaw => k_is)
    (case cLaw => k_is)
    (case kLaw => k_is)
