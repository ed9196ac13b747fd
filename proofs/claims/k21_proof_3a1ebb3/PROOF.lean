import PyProof.Rows.All
import Wide.All
import OpenK.AllK
import Wide.FinOn
import PySem.Challenge.RW_wordbench_k21_kinds_of_words
import HandS.ForMost
import HandS.IsInst
set_option Elab.async false
set_option linter.all false
set_option maxRecDepth 100000
set_option maxHeartbeats 4000000
namespace WB
open PySem PySem.Spec PyProof.Rows L2
def topS (i : Nat) : Stmt := PySem.Challenge.pw_wordbench_k21_kinds_of_words.main.body.getD i (.Pass ⟨0, 0, 0, 0⟩)
abbrev sKindOf : Stmt := topS 2
abbrev sCell : Stmt := topS 4
abbrev sPot : Stmt := topS 5
abbrev sDraw : Stmt := topS 6
abbrev sSigns : Stmt := topS 7
abbrev sText : Stmt := topS 8
abbrev sWord : Stmt := topS 9
abbrev sKind : Stmt := topS 10
abbrev sLaw : Stmt := topS 11
/-- a def of the top: its object, how it binds, its name -/
structure Df (K : PySem.W.Frag) (mg : Str → Option Value) (x : Str) (st : Stmt) (ps : List Str) (f : Addr) (fd : FuncData) : Prop where
  F : Fun K x x st f fd
  b : Binds K fd ps []
  g : mg x = some (.ref f)
theorem scCell : FnScope ["_law_script", "_law_k"] ["_law_script", "_law_k"] (defScope sCell) := ⟨rfl, rfl, rfl, by decide +kernel, rfl, by decide +kernel, by decide +kernel⟩
theorem scPot : FnScope ["_law_script", "_law_k", "_law_cell_here"] ["_law_script", "_law_k"] (defScope sPot) := ⟨rfl, rfl, rfl, by decide +kernel, rfl, by decide +kernel, by decide +kernel⟩
theorem scDraw : FnScope ["_law_pot_here", "_law_many", "_law_digit"] ["_law_pot_here", "_law_many"] (defScope sDraw) := ⟨rfl, rfl, rfl, by decide +kernel, rfl, by decide +kernel, by decide +kernel⟩
theorem scSigns : FnScope ["_law_letters"] [] (defScope sSigns) := ⟨rfl, rfl, rfl, by decide +kernel, rfl, by decide +kernel, by decide +kernel⟩
theorem scText : FnScope ["_law_pot_here", "_law_most", "_law_signs_here", "_law_k"] ["_law_pot_here", "_law_most", "_law_signs_here"] (defScope sText) := ⟨rfl, rfl, rfl, by decide +kernel, rfl, by decide +kernel, by decide +kernel⟩
/-! ### heaps -/
theorem same_upd {H : Hp} {p : Addr} {o : HO} (h : H p = none) : Same H (upd H p o) := fun b x e => by
  rw [upd_ne (ne_of_none e h)]
  exact e
/-- all that was tracked but at p is as it was -/
def But (p : Addr) (H H' : Hp) : Prop := ∀ b o, b ≠ p → H b = some o → H' b = some o
theorem But.refl (p : Addr) (H : Hp) : But p H H := fun _ _ _ h => h
theorem But.trans {p : Addr} {H H1 H2 : Hp} (a : But p H H1) (b : But p H1 H2) : But p H H2 := fun c o n h => b c o n (a c o n h)
theorem But.of_same {p : Addr} {H H' : Hp} (a : Same H H') : But p H H' := fun c o _ h => a c o h
theorem But.upd (p : Addr) (H : Hp) (o : HO) : But p H (upd H p o) := fun c u n h => by
  rw [upd_ne n]
  exact h
theorem But.new {p : Addr} {H : Hp} {q : Addr} {o : HO} (h : H q = none) : But p H (L2.upd H q o) := But.of_same (same_upd h)
/-- at p a pot stands -/
def Pot (H : Hp) (p : Addr) : Prop := ∃ a b : Int, H p = some (.lst [.int a, .int b]) ∧ 0 ≤ b ∧ b < 2147483648
theorem Pot.some {H : Hp} {p : Addr} (h : Pot H p) : ∃ o, H p = some o := by
  obtain ⟨a, b, e, _⟩ := h
  exact ⟨_, e⟩
theorem Pot.ne {H : Hp} {p q : Addr} (h : Pot H p) (n : H q = none) : p ≠ q := by
  obtain ⟨a, b, e, _⟩ := h
  exact ne_of_none e n
theorem Pot.new {H : Hp} {p q : Addr} {o : HO} (h : Pot H p) (n : H q = none) : Pot (L2.upd H q o) p := by
  have ne := h.ne n
  obtain ⟨a, b, e, h1, h2⟩ := h
  refine ⟨a, b, ?_, h1, h2⟩
  rw [upd_ne ne]
  exact e
section
variable {P : Program} {w : World} {K : PySem.W.Frag} {mg : Str → Option Value} {base : Heap}
/-! ### _law_cell -/
def spCell (K : PySem.W.Frag) : Sp := fun vs H Q _ => ∃ (a : Addr) (ns : List Int) (k : Int), vs = [.ref a, .int k] ∧ SqL K H a (ns.map V.int) ∧ 0 ≤ k ∧ ∀ z : Int, Q (.int z) H
theorem ok_cell {f : Addr} {fd : FuncData} {k : Nat} (F : Fun K "_law_cell" "_law_cell" sCell f fd) (mL : mg "len" = none) : FnOk P w K mg base CX0 (k + 1) f fd ["_law_script", "_law_k"] (spCell K) := by
  refine F.ok scCell (fun vs H Q E h => ?_) (fun cdv A outer s H vs Q E hr h => ?_)
  · obtain ⟨a, ns, k, rfl, _⟩ := h
    rfl
  · obtain ⟨a, ns, k, rfl, hS, hk, q⟩ := h
    refine ⟨_, pss_one (ps_ret (pe_ifExp (pt_cmpR op_lt (pv 1) (pe_callB call_len_seq (by rfl) mL PySem.boot_len (pa_cons (pv 0) pa_nil)) (nomark _)) (pe_ix ix_list (pv 0) (pv 1) (fun _ _ => rfl)) pe_int)), ?_⟩
    refine ⟨.int k, rfl, .ref a, rfl, a, _, rfl, .inl hS, k, _, rfl, rfl, _, rfl, ite2 (fun e => ?_) (fun e => q 0)⟩
    have e1 := of_decide_eq_true e
    obtain ⟨n, rfl⟩ := Int.eq_ofNat_of_zero_le hk
    rw [List.length_map] at e1
    have hn : n < ns.length := by omega
    exact ⟨.ref a, rfl, .int n, rfl, a, _, _, .int ns[n], rfl, rfl, hS, atI_nat (j := n) (by rw [List.getElem?_map, List.getElem?_eq_getElem hn]; rfl), q _⟩
/-! ### _law_pot -/
def spPot (K : PySem.W.Frag) : Sp := fun vs H Q _ => ∃ (a : Addr) (ns : List Int) (k : Int), vs = [.ref a, .int k] ∧ SqL K H a (ns.map V.int) ∧ 0 ≤ k ∧
  ∀ H' p, Same H H' → H p = none → Pot H' p → Q (.ref p) H'
theorem ok_pot {f fC : Addr} {fd fdC : FuncData} {k : Nat} (F : Fun K "_law_pot" "_law_pot" sPot f fd) (C : Df K mg "_law_cell" sCell ["_law_script", "_law_k"] fC fdC) (mL : mg "len" = none) (mM : mg "max" = none) :
    FnOk P w K mg base CX0 (k + 2) f fd ["_law_script", "_law_k"] (spPot K) := by
  have GC : FnOk P w K mg base CX0 (k + 1) fC fdC ["_law_script", "_law_k"] (spCell K) := ok_cell C.F mL
  refine F.ok scPot (fun vs H Q E h => ?_) (fun cdv A outer s H vs Q E hr h => ?_)
  · obtain ⟨a, ns, k, rfl, _⟩ := h
    rfl
  · obtain ⟨a, ns, k, rfl, hS, hk, q⟩ := h
    refine ⟨_, pss_cons (ps_set (i := 2) scPot.nd rfl (.inl rfl) (pe_call GC hr (by rfl) C.g C.F.kp C.b .nil pass0 (pa_cons (pv 0) (pa_cons (pv 1) pa_nil))))
      (pss_one (ps_ret (pe_lst (pa_cons (pe_callB (call_max2 rfl) (by rfl) mM (by decide +kernel) (pa_cons pe_int (pa_cons (pe_op op_sub (pv 2) (pe_op op_pow pe_int pe_int)) pa_nil)))
        (pa_cons (pe_op op_mod (pe_op op_add (pe_op op_add (pe_op op_mul (pe_op op_mod (pv 2) pe_int) pe_int) (pe_op op_mul pe_int (pv 1))) pe_int) pe_int) pa_nil))))), ?_⟩
    refine ⟨.ref a, rfl, .int k, rfl, a, ns, k, rfl, hS, hk, fun z => ?_⟩
    refine ⟨.int z, rfl, 10, 18, rfl, rfl, ⟨by decide, by decide, by decide⟩, z, _, rfl, rfl, 0, _, rfl, ?_⟩
    refine ⟨.int z, rfl, z, 2147483629, rfl, rfl, (by show (0 : Int) < 2147483629; decide), _, 48271, rfl, rfl, .inr ⟨by decide, by decide⟩, .int k, rfl, 7919, k, rfl, rfl, .inl ⟨by decide, by decide⟩, _, _, rfl, rfl, _, 31, rfl, rfl, _, 2147483629, rfl, rfl, (by show (0 : Int) < 2147483629; decide), ?_⟩
    refine ⟨by show 2 ≤ sizeLine; decide, fun p hp => q _ p (same_upd hp) hp ⟨_, _, upd_same, Int.emod_nonneg _ (by decide), ?_⟩⟩
    exact Int.lt_trans (Int.emod_lt_of_pos _ (by decide)) (by decide)
/-! ### _law_draw -/
def spDraw : Sp := fun vs H Q _ => ∃ (p : Addr) (m : Int), vs = [.ref p, .int m] ∧ Pot H p ∧ 0 < m ∧ m ≤ 1000 ∧ ∀ H' (d : Int), But p H H' → Pot H' p → 0 ≤ d → d < m → Q (.int d) H'
theorem ok_draw {f : Addr} {fd : FuncData} {k : Nat} (F : Fun K "_law_draw" "_law_draw" sDraw f fd) (mD : mg "divmod" = none) : FnOk P w K mg base CX0 (k + 1) f fd ["_law_pot_here", "_law_many"] spDraw := by
  refine F.ok scDraw (fun vs H Q E h => ?_) (fun cdv A outer s H vs Q E hr h => ?_)
  · obtain ⟨p, m, rfl, _⟩ := h
    rfl
  · obtain ⟨p, m, rfl, ⟨a, b, hp, hb0, hb1⟩, hm0, hm1, q⟩ := h
    refine ⟨_, pss_cons (ps_if (pt_cmpR op_gt (pe_ix ix_list (pv 0) pe_int (fun _ _ => rfl)) pe_int (nomark _))
        (pss_cons (ps_asg (pe_callB call_divmod (by rfl) mD (by decide +kernel) (pa_cons (pe_ix ix_list (pv 0) pe_int (fun _ _ => rfl)) (pa_cons (pv 1) pa_nil)))
            (pg_tup rfl (pgs_cons (pg_sub (pv 0) pe_int set_list) (pgs_cons (pg_name (i := 2) scDraw.nd rfl (.inl rfl)) pgs_nil))))
          (pss_one (ps_ret (pv 2)))) pss_nil)
      (pss_cons (ps_asg (pe_op op_mod (pe_op op_add (pe_op op_mul (pe_ix ix_list (pv 0) pe_int (fun _ _ => rfl)) pe_int) pe_int) pe_int) (pg_sub (pv 0) pe_int set_list))
      (pss_one (ps_ret (pe_op op_mod (pe_op op_fdiv (pe_op op_mod (pe_op op_pow (pe_ix ix_list (pv 0) pe_int (fun _ _ => rfl)) pe_int) pe_int) pe_int) (pv 1))))), ?_⟩
    refine ⟨.ref p, rfl, p, _, 0, .int a, rfl, rfl, SqL.of hp, atI_nat (j := 0) rfl, a, 0, rfl, rfl, _, rfl, ite2 (fun e => ?_) (fun e => ?_)⟩
    · refine ⟨.ref p, rfl, p, _, 0, .int a, rfl, rfl, SqL.of hp, atI_nat (j := 0) rfl, .int m, rfl, a, m, rfl, ⟨hm0, by omega⟩, fun t nt => ?_⟩
      have npt : p ≠ t := ne_of_none hp nt
      have hp1 : (upd H t (.tup [.int (a / m), .int (a % m)])) p = some (.lst [.int a, .int b]) := by
        rw [upd_ne npt]
        exact hp
      refine ⟨t, _, rfl, SqT.of upd_same, rfl, _, _, rfl, .ref p, rfl, p, _, 0, 0, rfl, rfl, hp1, rfl, _, _, rfl, rfl, ?_⟩
      refine ⟨.int (a % m), rfl, q _ _ ((But.new nt).trans (But.upd _ _ _)) ⟨a / m, b, upd_same, hb0, hb1⟩ (Int.emod_nonneg _ (by omega)) (Int.emod_lt_of_pos _ hm0)⟩
    · refine ⟨.ref p, rfl, p, _, 1, .int b, rfl, rfl, SqL.of hp, atI_nat (j := 1) rfl, b, 39373, rfl, rfl, .inr ⟨by decide, by decide⟩, _, 8191, rfl, rfl, _, 2147483587, rfl, rfl, (by show (0 : Int) < 2147483587; decide), ?_⟩
      refine ⟨.ref p, rfl, p, _, 1, 1, rfl, rfl, hp, rfl, ?_⟩
      have c0 : 0 ≤ (b * 39373 + 8191) % 2147483587 := Int.emod_nonneg _ (by decide)
      have c1 : (b * 39373 + 8191) % 2147483587 < 2147483587 := Int.emod_lt_of_pos _ (by decide)
      refine ⟨.ref p, rfl, p, _, 1, .int ((b * 39373 + 8191) % 2147483587), rfl, rfl, SqL.of upd_same, atI_nat (j := 1) rfl, (b * 39373 + 8191) % 2147483587, 2, rfl, rfl, ⟨by decide, by decide, by omega⟩, _, 2147483543, rfl, rfl, (by show (0 : Int) < 2147483543; decide), _, 13, rfl, rfl, ⟨by decide, by decide⟩, .int m, rfl, _, m, rfl, rfl, hm0, ?_⟩
      exact q _ _ (But.upd _ _ _) ⟨a, _, upd_same, c0, by omega⟩ (Int.emod_nonneg _ (by omega)) (Int.emod_lt_of_pos _ hm0)
end
end WB

set_option Elab.async false
set_option linter.all false
set_option maxRecDepth 100000
set_option maxHeartbeats 4000000
namespace WB
open PySem PySem.Spec PyProof.Rows L2
section
variable {P : Program} {w : World} {K : PySem.W.Frag} {mg : Str → Option Value} {base : Heap}
/-! ### _law_signs -/
def spSigns : Sp := fun vs H Q _ => vs = [] ∧ ∀ z : Str, 0 < z.length → z.length ≤ 200 → Q (.str z) H
theorem ok_signs {f : Addr} {fd : FuncData} {k : Nat} (F : Fun K "_law_signs" "_law_signs" sSigns f fd) : FnOk P w K mg base CX0 (k + 1) f fd [] spSigns := by
  refine F.ok scSigns (fun vs H Q E h => ?_) (fun cdv A outer s H vs Q E hr h => ?_)
  · obtain ⟨rfl, _⟩ := h
    rfl
  · obtain ⟨rfl, q⟩ := h
    refine ⟨_, pss_cons (ps_set (i := 0) scSigns.nd rfl (.inl rfl) pe_str) (pss_one (ps_ret (pe_op op_add_str (pe_op op_add_str pe_str (pv 0)) (pe_upper (pv 0))))), ?_⟩
    refine ⟨_, rfl, _, _, rfl, rfl, ?_, _, rfl, ⟨_, rfl⟩, _, rfl, rfl, ?_, _, _, rfl, rfl, ?_, q _ ?_ ?_⟩ <;> decide +kernel
/-! ### _law_text -/
def spText : Sp := fun vs H Q _ => ∃ (p : Addr) (m : Int) (z : Str), vs = [.ref p, .int m, .str z] ∧ Pot H p ∧ 0 ≤ m ∧ m ≤ 100 ∧ 0 < z.length ∧ z.length ≤ 200 ∧
  ∀ H' (y : Str), But p H H' → Pot H' p → (y.length : Int) ≤ m → Q (.str y) H'
theorem sum_ones : ∀ ys : List Str, (∀ y ∈ ys, y.length = 1) → (ys.map (·.length)).sum = ys.length
  | [], _ => rfl
  | y :: r, h => by
    rw [List.map_cons, List.sum_cons, sum_ones r fun z hz => h z (List.mem_cons_of_mem _ hz), h y List.mem_cons_self, List.length_cons]
    omega
theorem join_ones (ys : List Str) (h : ∀ y ∈ ys, y.length = 1) : (Txt.join (Str.ofString "") ys).length ≤ ys.length := by
  rw [TL.join_eq]
  have e := StrLaws.join_length_le (Str.ofString "") ys
  rw [sum_ones ys h, show (Str.ofString "").length = 0 from by decide +kernel, Nat.mul_zero] at e
  exact e
theorem ok_text {f fD : Addr} {fd fdD : FuncData} {k : Nat} (F : Fun K "_law_text" "_law_text" sText f fd) (D : Df K mg "_law_draw" sDraw ["_law_pot_here", "_law_many"] fD fdD) (mD : mg "divmod" = none) (mL : mg "len" = none) (mR : mg "range" = none) :
    FnOk P w K mg base CX0 (k + 2) f fd ["_law_pot_here", "_law_most", "_law_signs_here"] spText := by
  have GD : FnOk P w K mg base CX0 (k + 1) fD fdD ["_law_pot_here", "_law_many"] spDraw := ok_draw D.F mD
  refine F.ok scText (fun vs H Q E h => ?_) (fun cdv A outer s H vs Q E hr h => ?_)
  · obtain ⟨p, m, z, rfl, _⟩ := h
    rfl
  · obtain ⟨p, m, z, rfl, hp, hm0, hm1, hz0, hz1, q⟩ := h
    refine ⟨_, pss_one (ps_ret (pe_join pe_str (pe_lc (own := [("_law_k", 3)]) (g := gName 3) (tt := tYes) rfl scText.nd
      (pi_range1 rfl mR (pa_cons (pe_call GD hr (by rfl) D.g D.F.kp D.b .nil pass0 (pa_cons (pv 0) (pa_cons (pe_op op_add (pv 1) pe_int) pa_nil))) pa_nil))
      (blkOk_by (N := ["_law_pot_here", "_law_most", "_law_signs_here", "_law_k"]) (sc := defScope sText) (by decide +kernel))
      (fun _ _ _ _ _ => pg_name (i := 3) scText.nd rfl (Or.inl rfl)) (fun _ _ _ _ _ => pts_nil)
      (fun _ _ _ _ _ => pe_ix ix_str (pv 2) (pe_call GD hr (by rfl) D.g D.F.kp D.b .nil pass0 (pa_cons (pv 0) (pa_cons (pe_callB call_len_str (by rfl) mL PySem.boot_len (pa_cons (pv 2) pa_nil)) pa_nil))) (fun _ _ => rfl))))), ?_⟩
    refine ⟨⟨_, rfl⟩, .ref p, rfl, .int m, rfl, m, 1, rfl, rfl, p, m + 1, rfl, hp, by omega, by omega, fun H1 d b1 p1 d0 d1 => ?_⟩
    refine ⟨d, rfl, by omega, by omega, fun T nT => ?_⟩
    have npT : p ≠ T := p1.ne nT
    refine lc_range (lo := 0) (n := d.toNat) (fun i Hc => But p H1 Hc ∧ Pot Hc p ∧ ∃ ys : List Str, Hc T = some (.lst (ys.map V.str)) ∧ ys.length = i ∧ ∀ y ∈ ys, y.length = 1)
      ⟨But.new nT, p1.new nT, [], upd_same, rfl, fun y hy => by cases hy⟩ (fun i Hc hi ⟨bc, pc, ys, eT, el, e1⟩ => ?_) (fun Hc ⟨bc, pc, ys, eT, el, e1⟩ => ?_)
    · refine ⟨rfl, ?_⟩
      have hzl : z.length ≤ sizeLine := Nat.le_trans hz1 (by decide)
      refine ⟨.str z, rfl, .ref p, rfl, .str z, rfl, z, rfl, hzl, p, z.length, rfl, pc, by omega, by omega, fun H4 j b4 p4 j0 j1 => ?_⟩
      obtain ⟨n, rfl⟩ := Int.eq_ofNat_of_zero_le j0
      have hn : n < z.cps.toList.length := by
        have e : z.cps.toList.length = z.length := by simp [Str.length]
        omega
      have eT4 : H4 T = some (.lst (ys.map V.str)) := b4 T _ npT.symm eT
      refine ⟨z, n, z.cps.toList[n], rfl, rfl, hzl, atI_nat (List.getElem?_eq_getElem hn), ys.map V.str, eT4, ?_, ?_, ?_, ys ++ [⟨#[z.cps.toList[n]]⟩], ?_, ?_, ?_⟩
      · rw [List.length_map, el]
        exact small1000 (by omega)
      · exact fun b o nb e => by
          rw [upd_ne (ne_of_none e nT)]
          exact b4 b o nb (bc b o nb e)
      · obtain ⟨x, y, e, h1, h2⟩ := p4
        refine ⟨x, y, ?_, h1, h2⟩
        rw [upd_ne npT]
        exact e
      · rw [upd_same, List.map_append]
        rfl
      · rw [List.length_append, el]
        rfl
      · intro y hy
        rcases List.mem_append.mp hy with hy | hy
        · exact e1 y hy
        · rw [List.mem_singleton.mp hy]
          rfl
    · refine ⟨_, T, ys, rfl, rfl, .inl (SqL.of eT), ?_, q _ _ (b1.trans bc) pc ?_⟩
      · rw [sum_ones ys e1, show (Str.ofString "").length = 0 from by decide +kernel]
        omega
      · have := join_ones ys e1
        omega
end
end WB

set_option Elab.async false
set_option linter.all false
set_option maxRecDepth 100000
set_option maxHeartbeats 4000000
namespace WB
open PySem PySem.Spec PyProof.Rows L2
open TL (tl)
/-! ### the mathematics -/
def kd (cs : List Nat) : Str := if cs = [45, 45] then Str.ofString "divider" else match cs with
  | 45 :: 45 :: _ => Str.ofString "long"
  | 45 :: _ :: _ => Str.ofString "shorts"
  | _ => Str.ofString "plain"
theorem starts (x y : Str) : Txt.startswith x y = ((tl x).take (tl y).length == tl y) := by
  unfold Txt.startswith
  rw [StrLaws.subAt_eq, List.drop_zero, TL.len_tl y]
  by_cases h : (tl y).length ≤ (tl x).length
  · have e : decide (0 + (tl y).length ≤ x.length) = true := decide_eq_true (by rw [TL.len_tl x]; omega)
    rw [e, Bool.true_and]
  · have e : decide (0 + (tl y).length ≤ x.length) = false := decide_eq_false (by rw [TL.len_tl x]; omega)
    rw [e, Bool.false_and]
    cases q : ((tl x).take (tl y).length == tl y) with
    | false => rfl
    | true =>
      have z := congrArg List.length (eq_of_beq q)
      rw [List.length_take] at z
      omega
theorem eq_lit (x : Str) (s : String) : (V.str x = V.str (Str.ofString s)) ↔ tl x = s.toList.map Char.toNat := by
  rw [← TL.tl_ofString]
  constructor
  · intro h
    rw [V.str.inj h]
  · intro h
    rw [TL.ext_tl h]
/-- how many - stand ahead -/
structure Lead (cs : List Nat) (i : Nat) : Prop where
  le : i ≤ cs.length
  all : ∀ j, j < i → cs[j]? = some 45
  stop : i = cs.length ∨ ∃ c, cs[i]? = some c ∧ c ≠ 45
theorem kd_plain {cs : List Nat} {i : Nat} (h : Lead cs i) (e : i = 0 ∨ cs = [45]) : kd cs = Str.ofString "plain" := by
  rcases e with rfl | rfl
  · rcases h.stop with e | ⟨c, e, n⟩
    · have : cs = [] := List.length_eq_zero_iff.mp e.symm
      subst this
      rfl
    · cases cs with
      | nil => rfl
      | cons x r =>
        have : x = c := Option.some.inj e
        subst this
        unfold kd
        rw [if_neg (by intro z; injection z with z1 z2; exact n z1)]
        split
        · rename_i h1
          injection h1 with h2
          exact absurd h2 n
        · rename_i h1
          injection h1 with h2
          exact absurd h2 n
        · rfl
  · rfl
theorem kd_div : kd [45, 45] = Str.ofString "divider" := rfl
theorem kd_rest {cs : List Nat} {i : Nat} (h : Lead cs i) (e0 : i ≠ 0) (e1 : cs ≠ [45]) (e2 : cs ≠ [45, 45]) : kd cs = if i > 1 then Str.ofString "long" else Str.ofString "shorts" := by
  have h0 := h.all 0 (by omega)
  match cs, h0 with
  | [x], h0 => exact absurd (by rw [Option.some.inj h0]) e1
  | x :: y :: r, h0 =>
    have hx : x = 45 := Option.some.inj h0
    subst hx
    unfold kd
    rw [if_neg e2]
    by_cases c : i > 1
    · have h1 := h.all 1 c
      have hy : y = 45 := Option.some.inj h1
      subst hy
      rw [if_pos c]
      rfl
    · rw [if_neg c]
      have ei : i = 1 := by omega
      subst ei
      rcases h.stop with e | ⟨c', e, n⟩
      · rw [List.length_cons, List.length_cons] at e
        omega
      · have hy : y = c' := Option.some.inj e
        subst hy
        split
        · rename_i h1
          injection h1 with h2 h3
          injection h3 with h4
          exact absurd h4 n
        · rfl
        · rename_i k1 k2
          exact absurd rfl (k2 _ _)
theorem kd_long {cs : List Nat} (h1 : cs ≠ [45, 45]) (h : cs.take 2 = [45, 45]) : kd cs = Str.ofString "long" := by
  match cs, h with
  | x :: y :: r, h =>
    injection h with a b
    injection b with b c
    subst a b
    unfold kd
    rw [if_neg h1]
    rfl
theorem kd_shorts {cs : List Nat} (h2 : cs.take 2 ≠ [45, 45]) (h : cs.take 1 = [45]) (hl : 1 < cs.length) : kd cs = Str.ofString "shorts" := by
  match cs, h, hl with
  | x :: y :: r, h, hl =>
    injection h with a b
    subst a
    have ny : y ≠ 45 := fun c => h2 (by rw [c]; rfl)
    unfold kd
    rw [if_neg (by intro z; injection z with z1 z2; injection z2 with z3; exact ny z3)]
    split
    · rename_i h1
      injection h1 with h2 h3
      injection h3 with h4
      exact absurd h4 ny
    · rfl
    · rename_i k1 k2
      exact absurd rfl (k2 _ _)
theorem kd_short {cs : List Nat} (hl : ¬ 1 < cs.length) : kd cs = Str.ofString "plain" := by
  match cs, hl with
  | [], _ => rfl
  | [x], _ =>
    unfold kd
    rw [if_neg (by intro z; injection z with z1 z2; cases z2)]
    split
    · rename_i h1; injection h1 with a b; cases b
    · rename_i h1; injection h1 with a b; cases b
    · rfl
  | x :: y :: r, hl => exact absurd (by rw [List.length_cons, List.length_cons]; omega) hl
theorem kd_other {cs : List Nat} (h : cs.take 1 ≠ [45]) : kd cs = Str.ofString "plain" := by
  match cs, h with
  | [], _ => rfl
  | x :: r, h =>
    have nx : x ≠ 45 := fun c => h (by rw [c]; rfl)
    unfold kd
    rw [if_neg (by intro z; injection z with z1 z2; exact nx z1)]
    split
    · rename_i h1; injection h1 with a b; exact absurd a nx
    · rename_i h1; injection h1 with a b; exact absurd a nx
    · rfl
theorem starts_lit (x : Str) (s : String) {l : List Nat} (hl : s.toList.map Char.toNat = l) : Txt.startswith x (Str.ofString s) = true ↔ (tl x).take l.length = l := by
  rw [starts, TL.tl_ofString, hl]
  exact ⟨fun h => eq_of_beq h, fun h => beq_iff_eq.mpr h⟩
theorem at_strs (ys : List Str) (d : Int) (h0 : 0 ≤ d) (h1 : d < (ys.length : Int)) : ∃ y ∈ ys, atI (ys.map V.str) d = some (.str y) := by
  obtain ⟨n, rfl⟩ := Int.eq_ofNat_of_zero_le h0
  have hn : n < ys.length := by omega
  exact ⟨ys[n], List.getElem_mem hn, atI_nat (by rw [List.getElem?_map, List.getElem?_eq_getElem hn]; rfl)⟩
theorem at_ints (ys : List Int) (d : Int) (h0 : 0 ≤ d) (h1 : d < (ys.length : Int)) : ∃ y ∈ ys, atI (ys.map V.int) d = some (.int y) := by
  obtain ⟨n, rfl⟩ := Int.eq_ofNat_of_zero_le h0
  have hn : n < ys.length := by omega
  exact ⟨ys[n], List.getElem_mem hn, atI_nat (by rw [List.getElem?_map, List.getElem?_eq_getElem hn]; rfl)⟩
theorem scWord : FnScope ["_law_pot_here", "_law_head", "_law_signs_here"] ["_law_pot_here"] (defScope sWord) := ⟨rfl, rfl, rfl, by decide +kernel, rfl, by decide +kernel, by decide +kernel⟩
theorem scKind : FnScope ["_law_word_here", "_law_many"] ["_law_word_here"] (defScope sKind) := ⟨rfl, rfl, rfl, by decide +kernel, rfl, by decide +kernel, by decide +kernel⟩
theorem scKindOf : FnScope ["word"] ["word"] (defScope sKindOf) := ⟨rfl, rfl, rfl, by decide +kernel, rfl, by decide +kernel, by decide +kernel⟩
section
variable {P : Program} {w : World} {K : PySem.W.Frag} {mg : Str → Option Value} {base : Heap}
/-! ### _law_word -/
def spWord : Sp := fun vs H Q _ => ∃ p : Addr, vs = [.ref p] ∧ Pot H p ∧ ∀ H' (y : Str), But p H H' → Pot H' p → y.length ≤ 60 → Q (.str y) H'
theorem ok_word {f fD fS fT : Addr} {fd fdD fdS fdT : FuncData} {k : Nat} (F : Fun K "_law_word" "_law_word" sWord f fd) (D : Df K mg "_law_draw" sDraw ["_law_pot_here", "_law_many"] fD fdD)
    (S : Df K mg "_law_signs" sSigns [] fS fdS) (T : Df K mg "_law_text" sText ["_law_pot_here", "_law_most", "_law_signs_here"] fT fdT) (mD : mg "divmod" = none) (mL : mg "len" = none) (mR : mg "range" = none) :
    FnOk P w K mg base CX0 (k + 3) f fd ["_law_pot_here"] spWord := by
  have GD : FnOk P w K mg base CX0 (k + 2) fD fdD ["_law_pot_here", "_law_many"] spDraw := ok_draw D.F mD
  have GS : FnOk P w K mg base CX0 (k + 2) fS fdS [] spSigns := ok_signs S.F
  have GT : FnOk P w K mg base CX0 (k + 2) fT fdT ["_law_pot_here", "_law_most", "_law_signs_here"] spText := ok_text T.F D mD mL mR
  refine F.ok scWord (fun vs H Q E h => ?_) (fun cdv A outer s H vs Q E hr h => ?_)
  · obtain ⟨p, rfl, _⟩ := h
    rfl
  · obtain ⟨p, rfl, hp, q⟩ := h
    refine ⟨_, pss_cons (ps_set (i := 1) scWord.nd rfl (.inl rfl) (pe_ix ix_list (pe_lst (pa_cons pe_str (pa_cons pe_str (pa_cons pe_str (pa_cons pe_str (pa_cons pe_str (pa_cons pe_str (pa_cons pe_str (pa_cons pe_str pa_nil)))))))))
        (pe_call GD hr (by rfl) D.g D.F.kp D.b .nil pass0 (pa_cons (pv 0) (pa_cons pe_int pa_nil))) (fun _ _ => rfl)))
      (pss_cons (ps_set (i := 2) scWord.nd rfl (.inl rfl) (pe_ix ix_list (pe_lst (pa_cons (pe_call0 GS hr (by rfl) S.g S.F.kp S.b .nil pass0) (pa_cons pe_str pa_nil)))
        (pe_call GD hr (by rfl) D.g D.F.kp D.b .nil pass0 (pa_cons (pv 0) (pa_cons pe_int pa_nil))) (fun _ _ => rfl)))
      (pss_one (ps_ret (pe_op op_add_str (pv 1) (pe_call GT hr (by rfl) T.g T.F.kp T.b .nil pass0 (pa_cons (pv 0) (pa_cons (pe_ix ix_list (pe_lst (pa_cons pe_int (pa_cons pe_int (pa_cons pe_int pa_nil))))
        (pe_call GD hr (by rfl) D.g D.F.kp D.b .nil pass0 (pa_cons (pv 0) (pa_cons pe_int pa_nil))) (fun _ _ => rfl)) (pa_cons (pv 2) pa_nil)))))))), ?_⟩
    refine ⟨by decide +kernel, fun l1 n1 => ?_⟩
    have p1 := hp.new (o := .lst ([Str.ofString "", Str.ofString "", Str.ofString "-", Str.ofString "--", Str.ofString "---", Str.ofString "--=", Str.ofString "-=", Str.ofString "- "].map V.str)) n1
    have nl1 := hp.ne n1
    refine ⟨.ref p, rfl, p, 8, rfl, p1, by decide, by decide, fun H2 d2 b2 p2 d20 d21 => ?_⟩
    obtain ⟨hd, hdm, hde⟩ := at_strs [Str.ofString "", Str.ofString "", Str.ofString "-", Str.ofString "--", Str.ofString "---", Str.ofString "--=", Str.ofString "-=", Str.ofString "- "] d2 d20 (by show d2 < 8; exact d21)
    have hhd : hd.length ≤ 3 := (by decide +kernel : ∀ y ∈ [Str.ofString "", Str.ofString "", Str.ofString "-", Str.ofString "--", Str.ofString "---", Str.ofString "--=", Str.ofString "-=", Str.ofString "- "], y.length ≤ 3) hd hdm
    refine ⟨l1, _, d2, .str hd, rfl, rfl, SqL.of (b2 _ _ nl1.symm upd_same), hde, rfl, fun z hz0 hz1 => ?_⟩
    refine ⟨by show 2 ≤ sizeLine; decide, fun l2 n2 => ?_⟩
    have p3 := p2.new (o := .lst ([z, Str.ofString "-=a' "].map V.str)) n2
    have nl2 := p2.ne n2
    refine ⟨.ref p, rfl, p, 2, rfl, p3, by decide, by decide, fun H4 d4 b4 p4 d40 d41 => ?_⟩
    obtain ⟨sg, sgm, sge⟩ := at_strs [z, Str.ofString "-=a' "] d4 d40 (by show d4 < 2; exact d41)
    have hsg : 0 < sg.length ∧ sg.length ≤ 200 := by
      rcases List.mem_cons.mp sgm with e | e
      · rw [e]
        exact ⟨hz0, hz1⟩
      · rw [List.mem_singleton.mp e]
        decide +kernel
    refine ⟨l2, _, d4, .str sg, rfl, rfl, SqL.of (b4 _ _ nl2.symm upd_same), sge, .str hd, rfl, .ref p, rfl, by decide +kernel, fun l3 n3 => ?_⟩
    have p5 := p4.new (o := .lst ([(0 : Int), 3, 57].map V.int)) n3
    have nl3 := p4.ne n3
    refine ⟨.ref p, rfl, p, 3, rfl, p5, by decide, by decide, fun H6 d6 b6 p6 d60 d61 => ?_⟩
    obtain ⟨mo, mom, moe⟩ := at_ints [(0 : Int), 3, 57] d6 d60 (by show d6 < 3; exact d61)
    have hmo : 0 ≤ mo ∧ mo ≤ 57 := (by decide : ∀ y ∈ [(0 : Int), 3, 57], 0 ≤ y ∧ y ≤ 57) mo mom
    refine ⟨l3, _, d6, .int mo, rfl, rfl, SqL.of (b6 _ _ nl3.symm upd_same), moe, .str sg, rfl, p, mo, sg, rfl, p6, hmo.1, by omega, hsg.1, hsg.2, fun H7 y b7 p7 hy => ?_⟩
    refine ⟨hd, y, rfl, rfl, Nat.le_trans (show hd.length + y.length ≤ 60 by omega) (by decide), q _ _ ?_ p7 ?_⟩
    · exact (((((((But.new n1).trans b2).trans (But.new n2)).trans b4).trans (But.new n3)).trans b6).trans b7)
    · rw [Str.length_append]
      omega
/-! ### _law_kind -/
def spKind : Sp := fun vs H Q _ => ∃ z : Str, vs = [.str z] ∧ z.length ≤ 60 ∧ ∀ H', Same H H' → Q (.str (kd (tl z))) H'
theorem ok_kind {f : Addr} {fd : FuncData} {k : Nat} (F : Fun K "_law_kind" "_law_kind" sKind f fd) (mL : mg "len" = none) (mI : mg "int" = none) : FnOk P w K mg base CX0 (k + 1) f fd ["_law_word_here"] spKind := by
  refine F.ok scKind (fun vs H Q E h => ?_) (fun cdv A outer s H vs Q E hr h => ?_)
  · obtain ⟨z, rfl, _⟩ := h
    rfl
  · obtain ⟨z, rfl, hz, q⟩ := h
    have hzl : z.length ≤ sizeLine := Nat.le_trans hz (by decide)
    have ez := TL.len_tl z
    refine ⟨_, pss_cons (ps_set (i := 1) scKind.nd rfl (.inl rfl) pe_int)
      (pss_cons (ps_while PassesOwn.never (PW.pt (pw_and (pt_cmpR op_lt (pv 1) (pe_callB call_len_str (by rfl) mL PySem.boot_len (pa_cons (pv 0) pa_nil)) (nomark _)) (pw_and1 (pt_cmpR op_eq (pe_ix ix_str (pv 0) (pv 1) (fun _ _ => rfl)) pe_str (nomark _)))))
        (pss_one (ps_aug (i := 1) scKind.nd rfl (.inl rfl) pe_int ip_add)))
      (pss_cons (ps_if (PW.pt (pw_or (pt_cmpR op_eq (pv 1) pe_int (nomark _)) (pw_or1 (pt_cmpR op_eq (pv 0) pe_str (nomark _))))) (pss_one (ps_ret pe_str)) pss_nil)
      (pss_cons (ps_if (pt_cmpR op_eq (pv 0) pe_str (nomark _)) (pss_one (ps_ret pe_str)) pss_nil)
      (pss_one (ps_ret (pe_ix ix_list (pe_lst (pa_cons pe_str (pa_cons pe_str pa_nil))) (pe_callTy call_int1 (by rfl) mI (by decide +kernel) (pa_cons (pe_cmpR op_gt (pv 1) pe_int (nomark _)) pa_nil)) (fun _ _ => rfl))))))), ?_⟩
    have fin : ∀ i : Nat, Lead (tl z) i → (tSeq (tIfS (tOr (tTest (tOp rEq (tVar 1) (tC (.int 0)))) (tTest (tOp rEq (tVar 0) (tC (.str (Str.ofString "-")))))) (tRet (tC (.str (Str.ofString "plain")))) tNext) (tSeq (tIfS (tTest (tOp rEq (tVar 0) (tC (.str (Str.ofString "--"))))) (tRet (tC (.str (Str.ofString "divider")))) tNext) (tRet (tOp (rIxL K) (tLst (tCons (tC (.str (Str.ofString "shorts"))) (tCons (tC (.str (Str.ofString "long"))) tNil))) (tCB (fun xs H Q => (∃ i, xs = [.int i] ∧ Q (.int i) H) ∨ ∃ k, xs = [.bl k] ∧ Q (.int (if k then 1 else 0)) H) (tCons (tOp (rI0 fun i j => .bl (decide (j < i))) (tVar 1) (tC (.int 1))) tNil)))))) { nx := fun _ H' => Q .non H', rt := Q } [some (.str z), some (.int (i : Int))] H := by
      intro i L
      refine ⟨_, rfl, rfl, _, rfl, ite2 (fun e => ?_) (fun e => ?_)⟩
      · have e1 : i = 0 := by
          have := V.int.inj (of_decide_eq_true e)
          omega
        rw [kd_plain L (.inl e1)] at q
        exact q H (Same.refl H)
      · have e1 : i ≠ 0 := fun c => e (decide_eq_true (by rw [c]; rfl))
        refine ⟨_, rfl, rfl, _, rfl, ite2 (fun e => ?_) (fun e => ?_)⟩
        · have e2 : tl z = [45] := (eq_lit z "-").mp (of_decide_eq_true e)
          rw [kd_plain L (.inr e2)] at q
          exact q H (Same.refl H)
        · have e2 : tl z ≠ [45] := fun c => e (decide_eq_true ((eq_lit z "-").mpr c))
          refine ⟨_, rfl, rfl, _, rfl, ite2 (fun e => ?_) (fun e => ?_)⟩
          · have e3 : tl z = [45, 45] := (eq_lit z "--").mp (of_decide_eq_true e)
            rw [e3] at q
            exact q H (Same.refl H)
          · have e3 : tl z ≠ [45, 45] := fun c => e (decide_eq_true ((eq_lit z "--").mpr c))
            rw [kd_rest L e1 e2 e3] at q
            refine ⟨by decide +kernel, fun l n => ?_⟩
            refine ⟨_, rfl, _, _, rfl, rfl, .inr ⟨_, rfl, ?_⟩⟩
            by_cases c : i > 1
            · rw [if_pos c] at q
              refine ⟨l, _, 1, .str (Str.ofString "long"), rfl, ?_, SqL.of upd_same, atI_nat (j := 1) rfl, ?_⟩
              · rw [decide_eq_true (show (1 : Int) < (i : Int) by omega)]
                rfl
              · exact q _ (same_upd n)
            · rw [if_neg c] at q
              refine ⟨l, _, 0, .str (Str.ofString "shorts"), rfl, ?_, SqL.of upd_same, atI_nat (j := 0) rfl, ?_⟩
              · rw [decide_eq_false (show ¬ (1 : Int) < (i : Int) by omega)]
                rfl
              · exact q _ (same_upd n)
    refine ⟨fun m σ H' => H' = H ∧ ∃ i : Nat, σ = [some (.str z), some (.int (i : Int))] ∧ i + m = (tl z).length ∧ ∀ j, j < i → (tl z)[j]? = some 45, ⟨(tl z).length, rfl, 0, rfl, Nat.zero_add _, fun j hj => absurd hj (Nat.not_lt_zero _)⟩, ?_⟩
    rintro m σ H' ⟨rfl, i, rfl, em, ea⟩
    refine ⟨.int i, rfl, .str z, rfl, z, rfl, hzl, i, z.length, rfl, rfl, _, rfl, ite2 (fun e => ?_) (fun e => ?_)⟩
    · have e1 := of_decide_eq_true e
      have hi : i < (tl z).length := by omega
      refine ⟨.str z, rfl, .int i, rfl, z, i, (tl z)[i], rfl, rfl, hzl, atI_nat (List.getElem?_eq_getElem hi), rfl, _, rfl, ite2 (fun e2 => ?_) (fun e2 => ?_)⟩
      · have e3 : (tl z)[i] = 45 := by
          have := (eq_lit ⟨#[(tl z)[i]]⟩ "-").mp (of_decide_eq_true e2)
          injection this
        refine ⟨fun σ' H'' => H'' = H' ∧ σ' = [some (.str z), some (.int ((i + 1 : Nat) : Int))], fun σ' H'' ⟨a, b⟩ => ⟨m - 1, by omega, a, i + 1, b, by omega, fun j hj => ?_⟩, _, rfl, _, _, rfl, rfl, rfl, rfl⟩
        by_cases c : j < i
        · exact ea j c
        · have : j = i := by omega
          rw [this, List.getElem?_eq_getElem hi, e3]
      · exact fin i ⟨by omega, ea, .inr ⟨_, List.getElem?_eq_getElem hi, fun c => e2 (decide_eq_true ((eq_lit ⟨#[(tl z)[i]]⟩ "-").mpr (by rw [show tl (⟨#[(tl z)[i]]⟩ : Str) = [(tl z)[i]] from rfl, c]; rfl)))⟩⟩
    · have : ¬ ((i : Int) < (z.length : Int)) := fun c => e (decide_eq_true c)
      exact fin i ⟨by omega, ea, .inl (by omega)⟩
/-! ### kind_of -/
def spKindOf : Sp := fun vs H Q _ => ∃ z : Str, vs = [.str z] ∧ z.length ≤ 60 ∧ ∀ H', Same H H' → Q (.str (kd (tl z))) H'
theorem ok_kindOf {f : Addr} {fd : FuncData} {k : Nat} (F : Fun K "kind_of" "kind_of" sKindOf f fd) (mL : mg "len" = none) {u : Tok} (mV : mg "DIVIDER" = some (.str (Str.ofString "--") u)) : FnOk P w K mg base CX0 (k + 1) f fd ["word"] spKindOf := by
  refine F.ok scKindOf (fun vs H Q E h => ?_) (fun cdv A outer s H vs Q E hr h => ?_)
  · obtain ⟨z, rfl, _⟩ := h
    rfl
  · obtain ⟨z, rfl, hz, q⟩ := h
    have hzl : z.length ≤ sizeLine := Nat.le_trans hz (by decide)
    have ez := TL.len_tl z
    refine ⟨_, pss_cons (ps_if (pt_cmpR op_eq (pv 0) (pe_glob (v := .str (Str.ofString "--")) rfl mV ⟨_, rfl⟩) (nomark _)) (pss_one (ps_ret pe_str)) pss_nil)
      (pss_cons (ps_if (pt_val (pe_m1 PySem.F.slot_str_startswith PySem.F.type_str_startswith mt_startswith (pv 0) pe_str)) (pss_one (ps_ret pe_str)) pss_nil)
      (pss_cons (ps_if (PW.pt (pw_and (pt_val (pe_m1 PySem.F.slot_str_startswith PySem.F.type_str_startswith mt_startswith (pv 0) pe_str)) (pw_and1 (pt_cmpR op_gt (pe_callB call_len_str (by rfl) mL PySem.boot_len (pa_cons (pv 0) pa_nil)) pe_int (nomark _))))) (pss_one (ps_ret pe_str)) pss_nil)
      (pss_one (ps_ret pe_str)))), ?_⟩
    refine ⟨_, rfl, rfl, _, rfl, ite2 (fun e => ?_) (fun e => ?_)⟩
    · have e1 : tl z = [45, 45] := (eq_lit z "--").mp (of_decide_eq_true e)
      rw [e1] at q
      exact q H (Same.refl H)
    · have e1 : tl z ≠ [45, 45] := fun c => e (decide_eq_true ((eq_lit z "--").mpr c))
      refine ⟨_, rfl, ⟨_, rfl⟩, _, _, rfl, rfl, _, rfl, ite2 (fun e => ?_) (fun e => ?_)⟩
      · have e2 := (starts_lit z "--" (l := [45, 45]) rfl).mp e
        rw [kd_long e1 e2] at q
        exact q H (Same.refl H)
      · have e2 : (tl z).take 2 ≠ [45, 45] := fun c => e ((starts_lit z "--" (l := [45, 45]) rfl).mpr c)
        refine ⟨_, rfl, ⟨_, rfl⟩, _, _, rfl, rfl, _, rfl, ite2 (fun e => ?_) (fun e => ?_)⟩
        · have e3 := (starts_lit z "-" (l := [45]) rfl).mp e
          refine ⟨_, rfl, z, rfl, hzl, _, _, rfl, rfl, _, rfl, ite2 (fun e => ?_) (fun e => ?_)⟩
          · have e4 := of_decide_eq_true e
            rw [kd_shorts e2 e3 (by omega)] at q
            exact q H (Same.refl H)
          · have e4 : ¬ ((1 : Int) < (z.length : Int)) := fun c => e (decide_eq_true c)
            rw [kd_short (by omega)] at q
            exact q H (Same.refl H)
        · have e3 : (tl z).take 1 ≠ [45] := fun c => e ((starts_lit z "-" (l := [45]) rfl).mpr c)
          rw [kd_other e3] at q
          exact q H (Same.refl H)
end
end WB

set_option Elab.async false
set_option linter.all false
set_option maxRecDepth 100000
set_option maxHeartbeats 4000000
namespace WB
open PySem PySem.Spec PyProof.Rows L2
open TL (tl)
theorem scLaw : FnScope ["_law_script", "_law_words", "_law_word_here", "_law_found", "_law_k"] ["_law_script"] (defScope sLaw) := ⟨rfl, rfl, rfl, by decide +kernel, rfl, by decide +kernel, by decide +kernel⟩
section
variable {P : Program} {w : World} {K : PySem.W.Frag} {mg : Str → Option Value} {base : Heap}
def first14 : List Str := [Str.ofString "", Str.ofString "-", Str.ofString "--", Str.ofString "---", Str.ofString "-=", Str.ofString "--=", Str.ofString "- ", Str.ofString "-- ", Str.ofString " -", Str.ofString " --", Str.ofString "a-", Str.ofString "-a", Str.ofString "--a", Str.ofString "=--"]
theorem first14_short : ∀ y ∈ first14, y.length ≤ 60 := by decide +kernel
def spLaw (K : PySem.W.Frag) : Sp := fun vs H Q _ => ∃ (a : Addr) (ns : List Int), vs = [.ref a] ∧ SqL K H a (ns.map V.int) ∧ ns.length ≤ 63 ∧ ∀ H', Q (.bl true) H'
theorem ok_law {f fC fP fD fS fT fW fK fO : Addr} {fd fdC fdP fdD fdS fdT fdW fdK fdO : FuncData} {u : Tok} (F : Fun K "law" "law" sLaw f fd)
    (C : Df K mg "_law_cell" sCell ["_law_script", "_law_k"] fC fdC) (Po : Df K mg "_law_pot" sPot ["_law_script", "_law_k"] fP fdP) (D : Df K mg "_law_draw" sDraw ["_law_pot_here", "_law_many"] fD fdD)
    (S : Df K mg "_law_signs" sSigns [] fS fdS) (T : Df K mg "_law_text" sText ["_law_pot_here", "_law_most", "_law_signs_here"] fT fdT) (W : Df K mg "_law_word" sWord ["_law_pot_here"] fW fdW)
    (Kd : Df K mg "_law_kind" sKind ["_law_word_here"] fK fdK) (O : Df K mg "kind_of" sKindOf ["word"] fO fdO) (mV : mg "DIVIDER" = some (.str (Str.ofString "--") u))
    (mL : mg "len" = none) (mM : mg "max" = none) (mN : mg "min" = none) (mD : mg "divmod" = none) (mR : mg "range" = none) (mI : mg "int" = none) (mS : mg "str" = none) (mA : mg "isinstance" = none) :
    FnOk P w K mg base CX0 4 f fd ["_law_script"] (spLaw K) := by
  have GP : FnOk P w K mg base CX0 3 fP fdP ["_law_script", "_law_k"] (spPot K) := ok_pot Po.F C mL mM
  have GW : FnOk P w K mg base CX0 3 fW fdW ["_law_pot_here"] spWord := ok_word W.F D S T mD mL mR
  have GK : FnOk P w K mg base CX0 3 fK fdK ["_law_word_here"] spKind := ok_kind Kd.F mL mI
  have GO : FnOk P w K mg base CX0 3 fO fdO ["word"] spKindOf := ok_kindOf O.F mL mV
  refine F.ok scLaw (fun vs H Q E h => ?_) (fun cdv A outer s H vs Q E hr h => ?_)
  · obtain ⟨a, ns, rfl, _⟩ := h
    rfl
  · obtain ⟨a, ns, rfl, hS, hlen, q⟩ := h
    refine ⟨_, pss_cons (ps_set (i := 1) scLaw.nd rfl (.inl rfl) (pe_lst (pa_cons pe_str (pa_cons pe_str (pa_cons pe_str (pa_cons pe_str (pa_cons pe_str (pa_cons pe_str (pa_cons pe_str (pa_cons pe_str (pa_cons pe_str (pa_cons pe_str (pa_cons pe_str (pa_cons pe_str (pa_cons pe_str (pa_cons pe_str pa_nil))))))))))))))))
      (pss_cons (ps_set (i := 1) scLaw.nd rfl (.inl rfl) (pe_op op_cat (pv 1) (pe_lc (own := [("_law_k", 4)]) (g := gName 4) (tt := tYes) rfl scLaw.nd
        (pi_range1 rfl mR (pa_cons (pe_callB (call_min2 rfl) (by rfl) mN (by decide +kernel) (pa_cons (pe_callB call_len_seq (by rfl) mL PySem.boot_len (pa_cons (pv 0) pa_nil)) (pa_cons pe_int pa_nil))) pa_nil))
        (blkOk_by (N := ["_law_script", "_law_words", "_law_word_here", "_law_found", "_law_k"]) (sc := defScope sLaw) (by decide +kernel))
        (fun _ _ _ _ _ => pg_name (i := 4) scLaw.nd rfl (Or.inl rfl)) (fun _ _ _ _ _ => pts_nil)
        (fun _ _ _ _ _ => pe_call GW hr (by rfl) W.g W.F.kp W.b .nil pass0 (pa_cons (pe_call GP hr (by rfl) Po.g Po.F.kp Po.b .nil pass0 (pa_cons (pv 0) (pa_cons (pv 4) pa_nil))) pa_nil)))))
      (pss_cons (ps_for PassesOwn.never rfl (pi_list (pv 1)) (pg_name (i := 2) scLaw.nd rfl (Or.inl rfl))
        (pss_cons (ps_set (i := 3) scLaw.nd rfl (.inl rfl) (pe_call GO hr (by rfl) O.g O.F.kp O.b .nil pass0 (pa_cons (pv 2) pa_nil)))
        (pss_one (ps_if (PW.pt (pw_or (pt_not (pt_val (pe_callB call_isi (by rfl) mA (by decide +kernel) (pa_cons (pv 3) (pa_cons (pe_bltn (v := .ty "str") (by rfl) mS (by decide +kernel) rfl) pa_nil)))))
          (pw_or1 (pt_cmpR op_ne (pv 3) (pe_call GK hr (by rfl) Kd.g Kd.F.kp Kd.b .nil pass0 (pa_cons (pv 2) pa_nil)) (nomark _))))) (pss_one (ps_ret pe_bl)) pss_nil))))
      (pss_one (ps_ret pe_bl)))), ?_⟩
    refine ⟨by decide +kernel, fun l1 n1 => ?_⟩
    have s1 : Same H (upd H l1 (.lst (first14.map V.str))) := same_upd n1
    refine ⟨.ref l1, rfl, .ref a, rfl, a, _, rfl, .inl (s1.seq hS), _, 60, rfl, _, rfl, ?_, ?_, fun l2 n2 => ?_⟩
    · split <;> omega
    · split <;> omega
    have hS1 := s1.seq hS
    generalize eH1 : upd H l1 (.lst (first14.map V.str)) = H1 at s1 hS1
    have n2 : H1 l2 = none := by
      rw [← eH1]
      exact n2
    have el1 : H1 l1 = some (.lst (first14.map V.str)) := by
      rw [← eH1]
      exact upd_same
    have hn : (if (60 : Int) < ((ns.map V.int).length : Nat) then (60 : Int) else ((ns.map V.int).length : Nat)).toNat ≤ 60 := by
      split <;> omega
    refine lc_range (lo := 0) (n := (if (60 : Int) < ((ns.map V.int).length : Nat) then (60 : Int) else ((ns.map V.int).length : Nat)).toNat) (fun i Hc => Same H1 Hc ∧ ∃ ys : List Str, Hc l2 = some (.lst (ys.map V.str)) ∧ ys.length = i ∧ ∀ y ∈ ys, y.length ≤ 60)
      ⟨?_, [], ?_, rfl, fun y hy => by cases hy⟩ (fun i Hc hi ⟨sc, ys, e2, el, e1⟩ => ?_) (fun Hc ⟨sc, ys, e2, el, e1⟩ => ?_)
    · rw [← eH1] at n2 ⊢
      exact same_upd n2
    · exact upd_same
    · refine ⟨rfl, ?_⟩
      refine ⟨.ref a, rfl, .int (0 + (i : Int)), rfl, a, ns, _, rfl, sc.seq hS1, by omega, fun H4 p s4 np p4 => ?_⟩
      refine ⟨p, rfl, p4, fun H5 y b5 p5 hy => ?_⟩
      have npl : l2 ≠ p := ne_of_none e2 np
      have e5 : H5 l2 = some (.lst (ys.map V.str)) := b5 _ _ npl (s4 _ _ e2)
      refine ⟨_, e5, ?_, ?_, ys ++ [y], ?_, ?_, ?_⟩
      · rw [List.length_map, el]
        exact small1000 (by omega)
      · intro b o e
        rw [upd_ne (ne_of_none e n2)]
        exact b5 b o (ne_of_none (sc b o e) np) (s4 b o (sc b o e))
      · rw [upd_same, List.map_append]
        rfl
      · rw [List.length_append, el]
        rfl
      · intro z hz
        rcases List.mem_append.mp hz with hz | hz
        · exact e1 z hz
        · rw [List.mem_singleton.mp hz]
          exact hy
    · refine ⟨l1, l2, first14.map V.str, ys.map V.str, rfl, rfl, sc _ _ el1, e2, ?_, fun l3 n3 => ?_⟩
      · rw [List.length_map, List.length_map, el]
        exact Nat.le_of_lt (small1000 (by show 14 + _ ≤ 1000; omega))
      have e3 : ∀ y ∈ first14 ++ ys, y.length ≤ 60 := fun y hy => by
        rcases List.mem_append.mp hy with hy | hy
        · exact first14_short y hy
        · exact e1 y hy
      have em : first14.map V.str ++ ys.map V.str = (first14 ++ ys).map V.str := (List.map_append ..).symm
      rw [em]
      generalize first14 ++ ys = zs at e3
      generalize eH3 : upd Hc l3 (.lst (zs.map V.str)) = H3
      have el3 : H3 l3 = some (.lst (zs.map V.str)) := by
        rw [← eH3]
        exact upd_same
      refine ⟨.ref l3, rfl, l3, rfl, ⟨_, SqL.of el3⟩, for_list (K := K) (a := l3) (xs := zs.map V.str) (fun i σ H' => Same H3 H' ∧ ∃ x2 x3 x4, σ = [some (.ref a), some (.ref l3), x2, x3, x4]) ⟨Same.refl _, none, none, none, rfl⟩ (fun i σ H' _ ⟨sm, _⟩ => SqL.of (sm _ _ el3)) ?_ ?_⟩
      · rintro i x σ H' hx ⟨sm, x2, x3, x4, rfl⟩
        rw [List.getElem?_map] at hx
        cases ez : zs[i]? with
        | none =>
          rw [ez] at hx
          cases hx
        | some z =>
          rw [ez] at hx
          have exz : x = .str z := (Option.some.inj hx).symm
          subst exz
          have hz : z.length ≤ 60 := e3 z (List.mem_of_getElem? ez)
          refine ⟨.str z, rfl, z, rfl, hz, fun H4 s4 => ?_⟩
          refine ⟨_, rfl, _, _, _, _, true, rfl, ClsV.ty "str", TyX.base (TyOf.str _), kit_ty (by decide +kernel), _, rfl, ?_⟩
          refine ⟨_, rfl, .str z, rfl, z, rfl, hz, fun H5 s5 => ?_⟩
          refine ⟨rfl, _, rfl, iteNS rfl ?_⟩
          exact ⟨(sm.trans s4).trans s5, some (.str z), _, x4, rfl⟩
      · rintro σ H' ⟨sm, x2, x3, x4, rfl⟩
        exact q _
end
/-! ### what the top has written -/
theorem df_mk {K : PySem.W.Frag} {h : Heap} {mg : Str → Option Value} {x : Str} {st : Stmt} {ps : List Str} {f : Addr} {oc : Value} {od an : Option Addr} {osl : Array (Option Value)} {kV doc pm cdv ct : Value} (X : K.In h) (G : h.Ns mainGlobals mg)
    (a : PySem.W.nsIn K mainGlobals x = some (some (.ref f))) (l : K.lookup f = some ⟨oc, od, .func (PySem.W.fnOf x x (defArgs st) (defBody st) (defScope st) .none kV doc pm an cdv ct), osl⟩)
    (c : PySem.W.codeIn K cdv x = true) (k : PySem.W.keepIn K (.ref f) = true)
    (b : ∀ (kV doc pm : Value) (an : Option Addr) (cdv ct : Value) (us : List Value), us.length = ps.length → bindArgs (PySem.W.fnOf x x (defArgs st) (defBody st) (defScope st) .none kV doc pm an cdv ct) ⟨us, []⟩ = pure (ps.zip us)) :
    Df K mg x st ps f (PySem.W.fnOf x x (defArgs st) (defBody st) (defScope st) .none kV doc pm an cdv ct) := by
  have F := fun_mk (st := st) l c k
  exact ⟨F, F.binds b, PySem.W.mg_of X G a⟩
theorem all_mk {l : PySem.W.OpenLaw} {w : World} {K : PySem.W.Frag} {h : Heap} {mg : Str → Option Value} {fa f fC fP fD fS fT fW fK fO : Addr} {u : Tok} (X : K.In h) (G : h.Ns mainGlobals mg) (hfa : mg "law" = some (.ref fa))
    {od1 an1 od2 an2 od3 an3 od4 an4 od5 an5 od6 an6 od7 an7 od8 an8 od9 an9 : Option Addr} {sl1 sl2 sl3 sl4 sl5 sl6 sl7 sl8 sl9 : Array (Option Value)}
    {oc1 kV1 dc1 pm1 cd1 ct1 oc2 kV2 dc2 pm2 cd2 ct2 oc3 kV3 dc3 pm3 cd3 ct3 oc4 kV4 dc4 pm4 cd4 ct4 oc5 kV5 dc5 pm5 cd5 ct5 oc6 kV6 dc6 pm6 cd6 ct6 oc7 kV7 dc7 pm7 cd7 ct7 oc8 kV8 dc8 pm8 cd8 ct8 oc9 kV9 dc9 pm9 cd9 ct9 : Value}
    (a1 : PySem.W.nsIn K mainGlobals "_law_cell" = some (some (.ref fC))) (l1 : K.lookup fC = some ⟨oc1, od1, .func (PySem.W.fnOf "_law_cell" "_law_cell" (defArgs sCell) (defBody sCell) (defScope sCell) .none kV1 dc1 pm1 an1 cd1 ct1), sl1⟩) (c1 : PySem.W.codeIn K cd1 "_law_cell" = true) (k1 : PySem.W.keepIn K (.ref fC) = true)
    (a2 : PySem.W.nsIn K mainGlobals "_law_pot" = some (some (.ref fP))) (l2 : K.lookup fP = some ⟨oc2, od2, .func (PySem.W.fnOf "_law_pot" "_law_pot" (defArgs sPot) (defBody sPot) (defScope sPot) .none kV2 dc2 pm2 an2 cd2 ct2), sl2⟩) (c2 : PySem.W.codeIn K cd2 "_law_pot" = true) (k2 : PySem.W.keepIn K (.ref fP) = true)
    (a3 : PySem.W.nsIn K mainGlobals "_law_draw" = some (some (.ref fD))) (l3 : K.lookup fD = some ⟨oc3, od3, .func (PySem.W.fnOf "_law_draw" "_law_draw" (defArgs sDraw) (defBody sDraw) (defScope sDraw) .none kV3 dc3 pm3 an3 cd3 ct3), sl3⟩) (c3 : PySem.W.codeIn K cd3 "_law_draw" = true) (k3 : PySem.W.keepIn K (.ref fD) = true)
    (a4 : PySem.W.nsIn K mainGlobals "_law_signs" = some (some (.ref fS))) (l4 : K.lookup fS = some ⟨oc4, od4, .func (PySem.W.fnOf "_law_signs" "_law_signs" (defArgs sSigns) (defBody sSigns) (defScope sSigns) .none kV4 dc4 pm4 an4 cd4 ct4), sl4⟩) (c4 : PySem.W.codeIn K cd4 "_law_signs" = true) (k4 : PySem.W.keepIn K (.ref fS) = true)
    (a5 : PySem.W.nsIn K mainGlobals "_law_text" = some (some (.ref fT))) (l5 : K.lookup fT = some ⟨oc5, od5, .func (PySem.W.fnOf "_law_text" "_law_text" (defArgs sText) (defBody sText) (defScope sText) .none kV5 dc5 pm5 an5 cd5 ct5), sl5⟩) (c5 : PySem.W.codeIn K cd5 "_law_text" = true) (k5 : PySem.W.keepIn K (.ref fT) = true)
    (a6 : PySem.W.nsIn K mainGlobals "_law_word" = some (some (.ref fW))) (l6 : K.lookup fW = some ⟨oc6, od6, .func (PySem.W.fnOf "_law_word" "_law_word" (defArgs sWord) (defBody sWord) (defScope sWord) .none kV6 dc6 pm6 an6 cd6 ct6), sl6⟩) (c6 : PySem.W.codeIn K cd6 "_law_word" = true) (k6 : PySem.W.keepIn K (.ref fW) = true)
    (a7 : PySem.W.nsIn K mainGlobals "_law_kind" = some (some (.ref fK))) (l7 : K.lookup fK = some ⟨oc7, od7, .func (PySem.W.fnOf "_law_kind" "_law_kind" (defArgs sKind) (defBody sKind) (defScope sKind) .none kV7 dc7 pm7 an7 cd7 ct7), sl7⟩) (c7 : PySem.W.codeIn K cd7 "_law_kind" = true) (k7 : PySem.W.keepIn K (.ref fK) = true)
    (a8 : PySem.W.nsIn K mainGlobals "kind_of" = some (some (.ref fO))) (l8 : K.lookup fO = some ⟨oc8, od8, .func (PySem.W.fnOf "kind_of" "kind_of" (defArgs sKindOf) (defBody sKindOf) (defScope sKindOf) .none kV8 dc8 pm8 an8 cd8 ct8), sl8⟩) (c8 : PySem.W.codeIn K cd8 "kind_of" = true) (k8 : PySem.W.keepIn K (.ref fO) = true)
    (a9 : PySem.W.nsIn K mainGlobals "law" = some (some (.ref f))) (l9 : K.lookup f = some ⟨oc9, od9, .func (PySem.W.fnOf "law" "law" (defArgs sLaw) (defBody sLaw) (defScope sLaw) .none kV9 dc9 pm9 an9 cd9 ct9), sl9⟩) (c9 : PySem.W.codeIn K cd9 "law" = true) (k9 : PySem.W.keepIn K (.ref f) = true)
    (v1 : PySem.W.nsIn K mainGlobals "DIVIDER" = some (some (.str (Str.ofString "--") u)))
    (z1 : PySem.W.nsIn K mainGlobals "len" = some none) (z2 : PySem.W.nsIn K mainGlobals "max" = some none) (z3 : PySem.W.nsIn K mainGlobals "min" = some none) (z4 : PySem.W.nsIn K mainGlobals "divmod" = some none) (z5 : PySem.W.nsIn K mainGlobals "range" = some none)
    (z6 : PySem.W.nsIn K mainGlobals "int" = some none) (z7 : PySem.W.nsIn K mainGlobals "str" = some none) (z8 : PySem.W.nsIn K mainGlobals "isinstance" = some none) :
    ∃ fd : FuncData, (∀ (s : Shared) (v : Value), BindsTo s fd ⟨[v], []⟩ [("_law_script", v)]) ∧ ∀ base : Heap, K.In base → base.Ns mainGlobals mg → FnOk l.prog w K mg base CX0 4 fa fd ["_law_script"] (spLaw K) := by
  have e := hfa.symm.trans (PySem.W.mg_of X G a9)
  cases e
  have d1 := df_mk (ps := ["_law_script", "_law_k"]) X G a1 l1 c1 k1 fun _ _ _ _ _ _ us hl => match us, hl with | [_, _], _ => rfl
  have d2 := df_mk (ps := ["_law_script", "_law_k"]) X G a2 l2 c2 k2 fun _ _ _ _ _ _ us hl => match us, hl with | [_, _], _ => rfl
  have d3 := df_mk (ps := ["_law_pot_here", "_law_many"]) X G a3 l3 c3 k3 fun _ _ _ _ _ _ us hl => match us, hl with | [_, _], _ => rfl
  have d4 := df_mk (ps := []) X G a4 l4 c4 k4 fun _ _ _ _ _ _ us hl => match us, hl with | [], _ => rfl
  have d5 := df_mk (ps := ["_law_pot_here", "_law_most", "_law_signs_here"]) X G a5 l5 c5 k5 fun _ _ _ _ _ _ us hl => match us, hl with | [_, _, _], _ => rfl
  have d6 := df_mk (ps := ["_law_pot_here"]) X G a6 l6 c6 k6 fun _ _ _ _ _ _ us hl => match us, hl with | [_], _ => rfl
  have d7 := df_mk (ps := ["_law_word_here"]) X G a7 l7 c7 k7 fun _ _ _ _ _ _ us hl => match us, hl with | [_], _ => rfl
  have d8 := df_mk (ps := ["word"]) X G a8 l8 c8 k8 fun _ _ _ _ _ _ us hl => match us, hl with | [_], _ => rfl
  have F9 := fun_mk (st := sLaw) l9 c9 k9
  exact ⟨PySem.W.fnOf "law" "law" (defArgs sLaw) (defBody sLaw) (defScope sLaw) .none kV9 dc9 pm9 an9 cd9 ct9, fun s v => .of_eq rfl, fun base _ _ => ok_law F9 d1 d2 d3 d4 d5 d6 d7 d8 (PySem.W.mg_of X G v1)
    (PySem.W.mg_none_of X G z1) (PySem.W.mg_none_of X G z2) (PySem.W.mg_none_of X G z3) (PySem.W.mg_none_of X G z4) (PySem.W.mg_none_of X G z5) (PySem.W.mg_none_of X G z6) (PySem.W.mg_none_of X G z7) (PySem.W.mg_none_of X G z8)⟩
end WB

open PySem PySem.W PyProof.Rows
set_option maxRecDepth 100000
set_option Elab.async false
set_option maxHeartbeats 0 in
theorem PySem.Challenge.cw_wordbench_k21_kinds_of_words_holds : PySem.Challenge.rw_wordbench_k21_kinds_of_words.Holds := by
  w_on; o_law; k_head; (case hw => w_witness2)
  k_fill
  refine L2.walk_of (l := PySem.Challenge.rw_wordbench_k21_kinds_of_words) (n := 63) (k := 4) (x := "_law_script") (CX := fun _ => L2.CX0) (sp := fun w => WB.spLaw _) rfl (by decide) rfl ⟨rfl, by decide, by decide⟩ (fun w h Y => PySem.W.kIn_of Y) ?F (fun _ _ a ns hl _ hS => ⟨a, ns, rfl, hS, hl, fun _ => rfl⟩) (fun _ _ _ _ _ h => h)
  case F =>
    intro w mg fa h KX G hmg
    refine' WB.all_mk KX G hmg ?a1 ?l1 ?c1 ?k1 ?a2 ?l2 ?c2 ?k2 ?a3 ?l3 ?c3 ?k3 ?a4 ?l4 ?c4 ?k4 ?a5 ?l5 ?c5 ?k5 ?a6 ?l6 ?c6 ?k6 ?a7 ?l7 ?c7 ?k7 ?a8 ?l8 ?c8 ?k8 ?a9 ?l9 ?c9 ?k9 ?v1 ?z1 ?z2 ?z3 ?z4 ?z5 ?z6 ?z7 ?z8
    (case a1 => k_is); (case l1 => k_is); (case c1 => k_is); (case k1 => k_is); (case a2 => k_is); (case l2 => k_is); (case c2 => k_is); (case k2 => k_is); (case a3 => k_is); (case l3 => k_is); (case c3 => k_is); (case k3 => k_is)
    (case a4 => k_is); (case l4 => k_is); (case c4 => k_is); (case k4 => k_is); (case a5 => k_is); (case l5 => k_is); (case c5 => k_is); (case k5 => k_is); (case a6 => k_is); (case l6 => k_is); (case c6 => k_is); (case k6 => k_is)
    (case a7 => k_is); (case l7 => k_is); (case c7 => k_is); (case k7 => k_is); (case a8 => k_is); (case l8 => k_is); (case c8 => k_is); (case k8 => k_is); (case a9 => k_is); (case l9 => k_is); (case c9 => k_is); (case k9 => k_is)
    (case v1 => k_is); (case z1 => k_is); (case z2 => k_is); (case z3 => k_is); (case z4 => k_is); (case z5 => k_is); (case z6 => k_is); (case z7 => k_is); (case z8 => k_is)
