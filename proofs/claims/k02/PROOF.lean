import PyProof.Rows.All
import Wide.All
import OpenK.AllK
import Wide.FinOn
import HandS.ForMost
import HandS.Wide
import HandS.WideBits
import HandS.IsInst
import HandS.Codes
import HandS.Defaults
import PySem.Challenge.RW_oncebuilt_k02_block_sizes_and_sums
set_option Elab.async false
set_option linter.all false
set_option maxRecDepth 100000
set_option maxHeartbeats 4000000
namespace Ob
open PySem PySem.Spec PyProof.Rows L2
/-! ### the text -/
def topS (i : Nat) : Stmt := PySem.Challenge.pw_oncebuilt_k02_block_sizes_and_sums.main.body.getD i (.Pass ⟨0, 0, 0, 0⟩)
abbrev s_block_sizes : Stmt := topS 5
abbrev n_block_sizes : List Str := ["many", "sizes", "rest", "size"]
theorem sc_block_sizes : FnScope n_block_sizes ["many"] (defScope s_block_sizes) := ⟨rfl, rfl, rfl, by decide +kernel, rfl, by decide +kernel, by decide +kernel⟩
abbrev s_total_built : Stmt := topS 6
abbrev n_total_built : List Str := ["many", "total", "size"]
theorem sc_total_built : FnScope n_total_built ["many"] (defScope s_total_built) := ⟨rfl, rfl, rfl, by decide +kernel, rfl, by decide +kernel, by decide +kernel⟩
abbrev s_greatest_power : Stmt := topS 7
abbrev n_greatest_power : List Str := ["number"]
theorem sc_greatest_power : FnScope n_greatest_power ["number"] (defScope s_greatest_power) := ⟨rfl, rfl, rfl, by decide +kernel, rfl, by decide +kernel, by decide +kernel⟩
abbrev s_is_integer : Stmt := topS 8
abbrev n_is_integer : List Str := ["value"]
theorem sc_is_integer : FnScope n_is_integer ["value"] (defScope s_is_integer) := ⟨rfl, rfl, rfl, by decide +kernel, rfl, by decide +kernel, by decide +kernel⟩
abbrev s_check_integer : Stmt := topS 9
abbrev n_check_integer : List Str := ["value"]
theorem sc_check_integer : FnScope n_check_integer ["value"] (defScope s_check_integer) := ⟨rfl, rfl, rfl, by decide +kernel, rfl, by decide +kernel, by decide +kernel⟩
abbrev s_check_number : Stmt := topS 10
abbrev n_check_number : List Str := ["value"]
theorem sc_check_number : FnScope n_check_number ["value"] (defScope s_check_number) := ⟨rfl, rfl, rfl, by decide +kernel, rfl, by decide +kernel, by decide +kernel⟩
abbrev s_l_bag : Stmt := topS 12
abbrev n_l_bag : List Str := ["_law_script", "_law_at", "_law_cell", "_law_great", "_law_primes"]
theorem sc_l_bag : FnScope n_l_bag ["_law_script", "_law_at"] (defScope s_l_bag) := ⟨rfl, rfl, rfl, by decide +kernel, rfl, by decide +kernel, by decide +kernel⟩
abbrev s_l_take : Stmt := topS 13
abbrev n_l_take : List Str := ["_law_bag_here", "_law_count", "_law_digit"]
theorem sc_l_take : FnScope n_l_take ["_law_bag_here", "_law_count"] (defScope s_l_take) := ⟨rfl, rfl, rfl, by decide +kernel, rfl, by decide +kernel, by decide +kernel⟩
abbrev s_l_lowest : Stmt := topS 14
abbrev n_l_lowest : List Str := ["_law_number_here", "_law_found"]
theorem sc_l_lowest : FnScope n_l_lowest ["_law_number_here"] (defScope s_l_lowest) := ⟨rfl, rfl, rfl, by decide +kernel, rfl, by decide +kernel, by decide +kernel⟩
abbrev s_l_total : Stmt := topS 15
abbrev n_l_total : List Str := ["_law_number_here", "_law_found", "_law_factor"]
theorem sc_l_total : FnScope n_l_total ["_law_number_here"] (defScope s_l_total) := ⟨rfl, rfl, rfl, by decide +kernel, rfl, by decide +kernel, by decide +kernel⟩
abbrev s_l_sizes_right : Stmt := topS 16
abbrev n_l_sizes_right : List Str := ["_law_number_here", "_law_sizes", "_law_k", "_law_due"]
theorem sc_l_sizes_right : FnScope n_l_sizes_right ["_law_number_here"] (defScope s_l_sizes_right) := ⟨rfl, rfl, rfl, by decide +kernel, rfl, by decide +kernel, by decide +kernel⟩
abbrev s_l_number : Stmt := topS 17
abbrev n_l_number : List Str := ["_law_bag_here", "_law_power", "_law_some"]
theorem sc_l_number : FnScope n_l_number ["_law_bag_here"] (defScope s_l_number) := ⟨rfl, rfl, rfl, by decide +kernel, rfl, by decide +kernel, by decide +kernel⟩
abbrev s_law : Stmt := topS 18
abbrev n_law : List Str := ["_law_script", "_law_k", "_law_bag_here", "_law_number_here", "_law_small", "_law_one", "_law_told"]
theorem sc_law : FnScope n_law ["_law_script"] (defScope s_law) := ⟨rfl, rfl, rfl, by decide +kernel, rfl, by decide +kernel, by decide +kernel⟩
structure Txt (K : PySem.W.Frag) (mg : Str → Option Value) where
  f_block_sizes : Addr
  d_block_sizes : FuncData
  F_block_sizes : Fun K "block_sizes" "block_sizes" s_block_sizes f_block_sizes d_block_sizes
  b_block_sizes : Binds K d_block_sizes ["many"] []
  g_block_sizes : mg "block_sizes" = some (.ref f_block_sizes)
  f_total_built : Addr
  d_total_built : FuncData
  F_total_built : Fun K "total_built" "total_built" s_total_built f_total_built d_total_built
  b_total_built : Binds K d_total_built ["many"] []
  g_total_built : mg "total_built" = some (.ref f_total_built)
  f_greatest_power : Addr
  d_greatest_power : FuncData
  F_greatest_power : Fun K "greatest_power" "greatest_power" s_greatest_power f_greatest_power d_greatest_power
  b_greatest_power : Binds K d_greatest_power ["number"] []
  g_greatest_power : mg "greatest_power" = some (.ref f_greatest_power)
  f_is_integer : Addr
  d_is_integer : FuncData
  F_is_integer : Fun K "is_integer" "is_integer" s_is_integer f_is_integer d_is_integer
  b_is_integer : Binds K d_is_integer ["value"] []
  g_is_integer : mg "is_integer" = some (.ref f_is_integer)
  f_check_integer : Addr
  d_check_integer : FuncData
  F_check_integer : Fun K "check_integer" "check_integer" s_check_integer f_check_integer d_check_integer
  b_check_integer : Binds K d_check_integer ["value"] []
  g_check_integer : mg "check_integer" = some (.ref f_check_integer)
  f_check_number : Addr
  d_check_number : FuncData
  F_check_number : Fun K "check_number" "check_number" s_check_number f_check_number d_check_number
  b_check_number : Binds K d_check_number ["value"] []
  g_check_number : mg "check_number" = some (.ref f_check_number)
  f_l_bag : Addr
  d_l_bag : FuncData
  F_l_bag : Fun K "_law_bag" "_law_bag" s_l_bag f_l_bag d_l_bag
  b_l_bag : Binds K d_l_bag ["_law_script", "_law_at"] []
  g_l_bag : mg "_law_bag" = some (.ref f_l_bag)
  f_l_take : Addr
  d_l_take : FuncData
  F_l_take : Fun K "_law_take" "_law_take" s_l_take f_l_take d_l_take
  b_l_take : Binds K d_l_take ["_law_bag_here", "_law_count"] []
  g_l_take : mg "_law_take" = some (.ref f_l_take)
  f_l_lowest : Addr
  d_l_lowest : FuncData
  F_l_lowest : Fun K "_law_lowest" "_law_lowest" s_l_lowest f_l_lowest d_l_lowest
  b_l_lowest : Binds K d_l_lowest ["_law_number_here"] []
  g_l_lowest : mg "_law_lowest" = some (.ref f_l_lowest)
  f_l_total : Addr
  d_l_total : FuncData
  F_l_total : Fun K "_law_total" "_law_total" s_l_total f_l_total d_l_total
  b_l_total : Binds K d_l_total ["_law_number_here"] []
  g_l_total : mg "_law_total" = some (.ref f_l_total)
  f_l_sizes_right : Addr
  d_l_sizes_right : FuncData
  F_l_sizes_right : Fun K "_law_sizes_right" "_law_sizes_right" s_l_sizes_right f_l_sizes_right d_l_sizes_right
  b_l_sizes_right : Binds K d_l_sizes_right ["_law_number_here"] []
  g_l_sizes_right : mg "_law_sizes_right" = some (.ref f_l_sizes_right)
  f_l_number : Addr
  d_l_number : FuncData
  F_l_number : Fun K "_law_number" "_law_number" s_l_number f_l_number d_l_number
  b_l_number : Binds K d_l_number ["_law_bag_here"] []
  g_l_number : mg "_law_number" = some (.ref f_l_number)
  z_abs : mg "abs" = none
  z_bool : mg "bool" = none
  z_int : mg "int" = none
  z_isinstance : mg "isinstance" = none
  z_len : mg "len" = none
  z_list : mg "list" = none
  z_min : mg "min" = none
  z_range : mg "range" = none
  z_sum : mg "sum" = none
  u_GREATEST : Value
  v_GREATEST : mg "GREATEST" = some u_GREATEST
  r_GREATEST : RelV (V.int (10 ^ (30 : Nat))) u_GREATEST
/-! ### heaps -/
theorem same_put {H H1 : Hp} {p : Addr} {o : HO} (h : Same H H1) (n : H p = none) : Same H (upd H1 p o) := fun b u e => by
  rw [upd_ne (ne_of_none e n)]
  exact h b u e
theorem same_new {H : Hp} {p : Addr} {o : HO} (n : H p = none) : Same H (upd H p o) := same_put (Same.refl H) n
theorem same_no {H H1 : Hp} {p : Addr} (h : Same H H1) (n : H1 p = none) : H p = none := h.free n
/-- all but p is as it was -/
def But (p : Addr) (H H' : Hp) : Prop := ∀ b o, H b = some o → b ≠ p → H' b = some o
theorem but_refl (p : Addr) (H : Hp) : But p H H := fun _ _ h _ => h
theorem but_trans {p : Addr} {H H1 H2 : Hp} (a : But p H H1) (b : But p H1 H2) : But p H H2 := fun c o h n => b c o (a c o h n) n
theorem but_of_same {p : Addr} {H H1 : Hp} (a : Same H H1) : But p H H1 := fun c o h _ => a c o h
theorem but_upd (p : Addr) (H : Hp) (o : HO) : But p H (upd H p o) := fun b u e n => by
  rw [upd_ne n]
  exact e
theorem but_fresh {p : Addr} {H0 H H1 : Hp} (s : Same H0 H) (n : H0 p = none) (b : But p H H1) : Same H0 H1 := fun c o e => b c o (s c o e) (ne_of_none e n)
/-! ### a bag of digits -/
def Bag (H : Hp) (p : Addr) : Prop := ∃ g m c : Int, H p = some (.lst [.int g, .int m, .int c]) ∧ 0 ≤ g ∧ 0 ≤ m ∧ m < 2147483648
theorem fm0 {a b : Int} (h : 0 < b) : 0 ≤ a.fmod b := by
  rw [Int.fmod_eq_emod_of_nonneg a (by omega)]
  exact Int.emod_nonneg a (by omega)
theorem fm1 {a b : Int} (h : 0 < b) : a.fmod b < b := by
  rw [Int.fmod_eq_emod_of_nonneg a (by omega)]
  exact Int.emod_lt_of_pos a h
theorem nz1 : (2147483647 : Int) ≠ 0 := by decide
theorem nz2 : (2147483629 : Int) ≠ 0 := by decide
section
variable {P : Program} {w : World} {K : PySem.W.Frag} {mg : Str → Option Value} {base : Heap}
def spTake : Sp := fun vs H Q _ => ∃ (p : Addr) (n : Int), vs = [.ref p, .int n] ∧ Bag H p ∧ 0 < n ∧ n.natAbs < 2 ^ 200 ∧
  ∀ r H', 0 ≤ r → r < n → Bag H' p → But p H H' → Q (.int r) H'
theorem ok_take (T : Txt K mg) : FnOk P w K mg base CX0 1 T.f_l_take T.d_l_take ["_law_bag_here", "_law_count"] spTake := by
  refine T.F_l_take.ok sc_l_take (fun vs H Q E h => ?_) (fun cdv A outer s H vs Q E hr h => ?_)
  · obtain ⟨p, n, rfl, _⟩ := h
    rfl
  · obtain ⟨p, n, rfl, ⟨g, m, c, hb, g0, m0, m1⟩, n0, n1, q⟩ := h
    refine ⟨_, (pss_cons (ps_if (pt_cmpR op_gt (pe_ix (r := rIxL K) ix_list (pv 0) pe_int (fun _ _ => rfl)) pe_int (nomark _)) (pss_cons (ps_set (i := 2) sc_l_take.nd rfl (.inl rfl) (pe_op op_modN (pe_ix (r := rIxL K) ix_list (pv 0) pe_int (fun _ _ => rfl)) (pv 1)))
        (pss_cons (ps_asg (pe_op op_fdivW (pe_ix (r := rIxL K) ix_list (pv 0) pe_int (fun _ _ => rfl)) (pv 1)) (pg_sub (pv 0) pe_int set_list))
        (pss_one (ps_ret (pv 2))))) pss_nil)
      (pss_cons (ps_asg (pe_op op_add (pe_ix (r := rIxL K) ix_list (pv 0) pe_int (fun _ _ => rfl)) pe_int) (pg_sub (pv 0) pe_int set_list))
      (pss_cons (ps_asg (pe_op op_modN (pe_op op_add (pe_op op_add (pe_op op_mul (pe_ix (r := rIxL K) ix_list (pv 0) pe_int (fun _ _ => rfl)) pe_int) (pe_op op_mul pe_int (pe_ix (r := rIxL K) ix_list (pv 0) pe_int (fun _ _ => rfl)))) pe_int) pe_int) (pg_sub (pv 0) pe_int set_list))
      (pss_one (ps_ret (pe_op op_modN (pe_op op_modN (pe_op op_pow (pe_op op_fdivW (pe_ix (r := rIxL K) ix_list (pv 0) pe_int (fun _ _ => rfl)) pe_int) pe_int) pe_int) (pv 1))))))), ?_⟩
    have hB : SqL K H p [.int g, .int m, .int c] := .inl (.inl hb)
    refine ⟨_, rfl, p, _, 0, .int g, rfl, rfl, hB, atI_nat (j := 0) rfl, _, _, rfl, rfl, _, rfl, ite2 (fun e => ?_) (fun e => ?_)⟩
    · refine ⟨_, rfl, p, _, 0, .int g, rfl, rfl, hB, atI_nat (j := 0) rfl, _, rfl, _, _, rfl, rfl, (by omega), ?_⟩
      refine ⟨_, rfl, p, _, 0, .int g, rfl, rfl, hB, atI_nat (j := 0) rfl, _, rfl, _, _, rfl, rfl, wide_div n0 n1 (by decide) (by decide), ?_⟩
      refine ⟨_, rfl, p, _, _, 0, rfl, rfl, hb, rfl, ?_⟩
      refine ⟨_, rfl, ?_⟩
      exact q _ _ (fm0 n0) (fm1 n0) ⟨g / n, m, c, upd_same, Int.ediv_nonneg g0 (by omega), m0, m1⟩ (but_upd _ _ _)
    · refine ⟨_, rfl, p, _, 2, .int c, rfl, rfl, hB, atI_nat (j := 2) rfl, _, _, rfl, rfl, ?_⟩
      refine ⟨_, rfl, p, _, _, 2, rfl, rfl, hb, rfl, ?_⟩
      have h2 : upd H p (.lst [.int g, .int m, .int (c + 1)]) p = some (.lst [.int g, .int m, .int (c + 1)]) := upd_same
      have hB2 : SqL K (upd H p (.lst [.int g, .int m, .int (c + 1)])) p [.int g, .int m, .int (c + 1)] := .inl (.inl h2)
      refine ⟨_, rfl, p, _, 1, .int m, rfl, rfl, hB2, atI_nat (j := 1) rfl, _, _, rfl, rfl, .inr ⟨by decide, by decide⟩, _, rfl, p, _, 2, .int (c + 1), rfl, rfl, hB2, atI_nat (j := 2) rfl, _, _, rfl, rfl, .inl ⟨by decide, by decide⟩, _, _, rfl, rfl, _, _, rfl, rfl, _, _, rfl, rfl, nz1, ?_⟩
      refine ⟨_, rfl, p, _, _, 1, rfl, rfl, h2, rfl, ?_⟩
      have m0' := fm0 (a := m * 69621 + 6007 * (c + 1) + 19) (show (0 : Int) < 2147483647 by decide)
      have m1' := fm1 (a := m * 69621 + 6007 * (c + 1) + 19) (show (0 : Int) < 2147483647 by decide)
      refine ⟨_, rfl, p, _, 1, _, rfl, rfl, .inl (.inl upd_same), atI_nat (j := 1) rfl, _, _, rfl, rfl, ⟨by decide, by decide⟩, _, _, rfl, rfl, ⟨by decide, by decide, ?_⟩, _, _, rfl, rfl, nz2, _, rfl, _, _, rfl, rfl, (by omega), ?_⟩
      · omega
      exact q _ _ (fm0 n0) (fm1 n0) ⟨g, _, c + 1, upd_same, g0, m0', by omega⟩ (but_trans (but_upd _ _ _) (but_upd _ _ _))
theorem le3 : 3 ≤ sizeLine := by decide
theorem nz3 : (8 : Int) ≠ 0 := by decide
theorem primes_at (k : Nat) : ∃ v : Int, 0 < v ∧ v < 2147483648 ∧ atI [V.int 2147483629, V.int 2147483587, V.int 2147483579, V.int 2147483563, V.int 2147483549, V.int 2147483543, V.int 2147483497, V.int 2147483489] ((k : Int).fmod 8) = some (.int v) := by
  have e : (k : Int).fmod 8 = ((k % 8 : Nat) : Int) := by
    rw [Int.fmod_eq_emod_of_nonneg _ (by decide)]
    rfl
  have h : k % 8 < 8 := Nat.mod_lt _ (by decide)
  rw [e]
  generalize k % 8 = j at h
  match j, h with
  | 0, _ => exact ⟨_, by decide, by decide, atI_nat (j := 0) rfl⟩
  | 1, _ => exact ⟨_, by decide, by decide, atI_nat (j := 1) rfl⟩
  | 2, _ => exact ⟨_, by decide, by decide, atI_nat (j := 2) rfl⟩
  | 3, _ => exact ⟨_, by decide, by decide, atI_nat (j := 3) rfl⟩
  | 4, _ => exact ⟨_, by decide, by decide, atI_nat (j := 4) rfl⟩
  | 5, _ => exact ⟨_, by decide, by decide, atI_nat (j := 5) rfl⟩
  | 6, _ => exact ⟨_, by decide, by decide, atI_nat (j := 6) rfl⟩
  | 7, _ => exact ⟨_, by decide, by decide, atI_nat (j := 7) rfl⟩
  | n + 8, h => exact absurd h (by omega)
def spBag (K : PySem.W.Frag) : Sp := fun vs H Q _ => ∃ (a : Addr) (ns : List Int) (k : Nat), vs = [.ref a, .int (k : Int)] ∧ SqL K H a (ns.map V.int) ∧ k ≤ 1000 ∧
  ∀ p H', H p = none → Same H H' → Bag H' p → Q (.ref p) H'
theorem ok_bag (T : Txt K mg) : FnOk P w K mg base CX0 1 T.f_l_bag T.d_l_bag ["_law_script", "_law_at"] (spBag K) := by
  refine T.F_l_bag.ok sc_l_bag (fun vs H Q E h => ?_) (fun cdv A outer s H vs Q E hr h => ?_)
  · obtain ⟨a, ns, k, rfl, _⟩ := h
    rfl
  · obtain ⟨a, ns, k, rfl, hS, hk, q⟩ := h
    refine ⟨_, (pss_cons (ps_set (i := 2) sc_l_bag.nd rfl (.inl rfl) pe_int)
      (C8.pss_cut (ps_if (pt_cmpR op_lt (pv 1) (pe_callB call_len_seq (by rfl) T.z_len (by decide +kernel) (pa_cons (pv 0) pa_nil)) (nomark _)) (pss_one (ps_set (i := 2) sc_l_bag.nd rfl (.inl rfl) (pe_ix (r := rIxL K) ix_list (pv 0) (pv 1) (fun _ _ => rfl)))) pss_nil)
      (pss_cons (ps_set (i := 3) sc_l_bag.nd rfl (.inl rfl) pe_int)
      (C8.pss_cut (ps_if (pt_cmpR op_ge (pe_callB call_abs (by rfl) T.z_abs (by decide +kernel) (pa_cons (pv 2) pa_nil)) (pe_op op_pow pe_int pe_int) (nomark _)) (pss_one (ps_set (i := 3) sc_l_bag.nd rfl (.inl rfl) (pe_callB call_abs (by rfl) T.z_abs (by decide +kernel) (pa_cons (pv 2) pa_nil)))) pss_nil)
      (pss_cons (ps_set (i := 4) sc_l_bag.nd rfl (.inl rfl) (pe_lst (pa_cons pe_int (pa_cons pe_int (pa_cons pe_int (pa_cons pe_int (pa_cons pe_int (pa_cons pe_int (pa_cons pe_int (pa_cons pe_int pa_nil))))))))))
      (pss_one (ps_ret (pe_lst (pa_cons (pv 3) (pa_cons (pe_op op_modN (pe_op op_pow (pe_op op_add (pe_op op_add (pe_op op_modN (pv 2) pe_int) (pe_op op_mul pe_int (pv 1))) pe_int) pe_int) (pe_ix (r := rIxL K) ix_list (pv 4) (pe_op op_modN (pv 1) pe_int) (fun _ _ => rfl))) (pa_cons pe_int pa_nil))))))))))), ?_⟩
    refine ⟨fun σ' H' => H' = H ∧ ∃ c : Int, σ' = [some (.ref a), some (.int (k : Int)), some (.int c), none, none], ?_, fun σ' H' hM => ?_⟩
    · refine ⟨_, rfl, _, rfl, a, _, rfl, .inl hS, _, _, rfl, rfl, _, rfl, ite2 (fun e => ?_) (fun e => ?_)⟩
      · have e2 := of_decide_eq_true e
        have e3 : k < ns.length := by
          rw [List.length_map] at e2
          omega
        have e4 : (ns.map V.int)[k]? = some (.int ns[k]) := by
          rw [List.getElem?_map, List.getElem?_eq_getElem e3]
          rfl
        exact ⟨_, rfl, _, rfl, a, _, _, _, rfl, rfl, hS, atI_nat e4, rfl, _, rfl⟩
      · exact ⟨rfl, _, rfl⟩
    · obtain ⟨rfl, c, rfl⟩ := hM
      refine ⟨fun σ'' H'' => H'' = H' ∧ ∃ g : Int, σ'' = [some (.ref a), some (.int (k : Int)), some (.int c), some (.int g), none] ∧ 0 ≤ g, ?_, fun σ'' H'' hM => ?_⟩
      · refine ⟨_, rfl, _, rfl, _, _, rfl, rfl, ⟨by decide, by decide, by decide⟩, _, _, rfl, rfl, _, rfl, ite2 (fun e => ?_) (fun e => ?_)⟩
        · refine ⟨_, rfl, _, rfl, rfl, _, rfl, ?_⟩
          split <;> omega
        · exact ⟨rfl, _, rfl, by decide⟩
      · obtain ⟨rfl, g, rfl, g0⟩ := hM
        refine ⟨by decide, fun o no => ?_⟩
        obtain ⟨v, v0, v1, hv⟩ := primes_at k
        have h0 := fm0 (a := c) (show (0 : Int) < 2147483647 by decide)
        have h1 := fm1 (a := c) (show (0 : Int) < 2147483647 by decide)
        refine ⟨_, rfl, _, rfl, _, _, rfl, rfl, nz1, _, rfl, _, _, rfl, rfl, .inl ⟨by decide, by decide⟩, _, _, rfl, rfl, _, _, rfl, rfl, _, _, rfl, rfl, ⟨by decide, by decide, by omega⟩, _, rfl, _, rfl, _, _, rfl, rfl, nz3, o, _, _, _, rfl, rfl, .inl (.inl upd_same), hv, _, _, rfl, rfl, by omega, ?_⟩
        refine ⟨le3, fun p np => ?_⟩
        have np' : H'' p = none := (same_new no).free np
        exact q _ _ np' (same_put (same_new no) np') ⟨g, _, 0, upd_same, g0, fm0 v0, by have := fm1 (a := (c.fmod 2147483647 + 104711 * (k : Int) + 23) ^ Int.toNat 5) v0; omega⟩
end
end Ob

set_option Elab.async false
set_option linter.all false
set_option maxRecDepth 100000
set_option maxHeartbeats 4000000
namespace Ob
open PySem PySem.Spec PyProof.Rows L2
/-! ### mathematics -/
def szF : Nat → Nat → List Nat
  | 0, _ => []
  | f + 1, n => if n = 0 then [] else 2 ^ n.log2 :: szF f (n - 2 ^ n.log2)
theorem szF_zero (f : Nat) : szF f 0 = [] := by
  cases f with
  | zero => rfl
  | succ f => exact if_pos rfl
theorem szF_pos {f n : Nat} (h : n ≠ 0) : szF (f + 1) n = 2 ^ n.log2 :: szF f (n - 2 ^ n.log2) := if_neg h
theorem log_lo {n : Nat} (h : n ≠ 0) : 2 ^ n.log2 ≤ n := Nat.log2_self_le h
theorem log_hi {n : Nat} : n < 2 ^ (n.log2 + 1) := Nat.lt_log2_self
theorem log_lt {n f : Nat} (h : n ≠ 0) (hf : n < 2 ^ f) : n.log2 < f := (Nat.log2_lt h).mpr hf
theorem rest_lt {n : Nat} (h : n ≠ 0) : n - 2 ^ n.log2 < 2 ^ n.log2 := by
  have a := log_hi (n := n)
  have b := log_lo h
  rw [Nat.pow_succ] at a
  omega
theorem rest_lt' {n f : Nat} (h : n ≠ 0) (hf : n < 2 ^ (f + 1)) : n - 2 ^ n.log2 < 2 ^ f := by
  have a := rest_lt h
  have b := log_lt h hf
  have c : 2 ^ n.log2 ≤ 2 ^ f := Nat.pow_le_pow_right (by decide) (by omega)
  omega
theorem szF_sum : ∀ (f n : Nat), n < 2 ^ f → (szF f n).sum = n
  | 0, n, h => by
    have : n = 0 := by simpa using h
    subst this
    rfl
  | f + 1, n, h => by
    by_cases z : n = 0
    · subst z
      rw [szF_zero]
      rfl
    · rw [szF_pos z, List.sum_cons, szF_sum f _ (rest_lt' z h)]
      have := log_lo z
      omega
theorem szF_len : ∀ (f n : Nat), (szF f n).length ≤ f
  | 0, n => Nat.le_refl _
  | f + 1, n => by
    by_cases z : n = 0
    · subst z
      rw [szF_zero]
      exact Nat.zero_le _
    · rw [szF_pos z, List.length_cons]
      have := szF_len f (n - 2 ^ n.log2)
      omega
theorem szF_mem : ∀ (f n : Nat), n < 2 ^ f → ∀ x ∈ szF f n, (∃ j, j < f ∧ x = 2 ^ j) ∧ x ≤ n
  | 0, n, h, x, hx => by cases hx
  | f + 1, n, h, x, hx => by
    by_cases z : n = 0
    · subst z
      rw [szF_zero] at hx
      cases hx
    · rw [szF_pos z] at hx
      rcases List.mem_cons.mp hx with rfl | hx
      · exact ⟨⟨_, log_lt z h, rfl⟩, log_lo z⟩
      · obtain ⟨⟨j, hj, e⟩, l⟩ := szF_mem f _ (rest_lt' z h) x hx
        exact ⟨⟨j, Nat.lt_succ_of_lt hj, e⟩, Nat.le_trans l (Nat.sub_le _ _)⟩
theorem szF_desc : ∀ (f n : Nat), n < 2 ^ f → (szF f n).Pairwise (fun a b => b < a)
  | 0, n, h => List.Pairwise.nil
  | f + 1, n, h => by
    by_cases z : n = 0
    · subst z
      rw [szF_zero]
      exact List.Pairwise.nil
    · rw [szF_pos z]
      refine List.Pairwise.cons (fun x hx => ?_) (szF_desc f _ (rest_lt' z h))
      have := (szF_mem f _ (rest_lt' z h) x hx).2
      have := rest_lt z
      omega
/-- the sum of the lowest powers, by halves -/
def tot (n : Nat) : Nat := if h : n = 0 then 0 else (n - n / 2) + 2 * tot (n / 2)
termination_by n
decreasing_by omega
theorem tot_zero : tot 0 = 0 := by
  rw [tot]
  exact dif_pos rfl
theorem tot_pos {n : Nat} (h : n ≠ 0) : tot n = (n - n / 2) + 2 * tot (n / 2) := by
  rw [tot]
  exact dif_neg h
theorem tot_all (n : Nat) : tot n = (n - n / 2) + 2 * tot (n / 2) := by
  by_cases h : n = 0
  · subst h
    rw [tot_zero]
  · exact tot_pos h
/-- the lowest power -/
def low (n : Nat) : Nat := if h : n = 0 then 1 else if n % 2 = 0 then 2 * low (n / 2) else 1
termination_by n
decreasing_by omega
theorem low_even {n : Nat} (h : n ≠ 0) (e : n % 2 = 0) : low n = 2 * low (n / 2) := by
  rw [low, dif_neg h, if_pos e]
theorem low_odd {n : Nat} (e : n % 2 = 1) : low n = 1 := by
  rw [low, dif_neg (by omega), if_neg (by omega)]
theorem low_is : ∀ (j n : Nat), n ≠ 0 → n % 2 ^ j = 0 → ¬ n % 2 ^ (j + 1) = 0 → low n = 2 ^ j
  | 0, n, h, _, e => by
    rw [Nat.zero_add, Nat.pow_one] at e
    exact low_odd (by omega)
  | j + 1, n, h, a, b => by
    have e2 : n % 2 = 0 := by
      rw [Nat.pow_succ] at a
      have := Nat.mod_mod_of_dvd n (show 2 ∣ 2 ^ j * 2 from ⟨2 ^ j, Nat.mul_comm _ _⟩)
      rw [a] at this
      omega
    obtain ⟨m, rfl⟩ : ∃ m, n = 2 * m := ⟨n / 2, by omega⟩
    have hm : m ≠ 0 := by omega
    rw [low_even h e2, Nat.mul_div_cancel_left _ (by decide), Nat.pow_succ, Nat.mul_comm]
    have a' : m % 2 ^ j = 0 := by
      rw [Nat.pow_succ, Nat.mul_comm (2 ^ j) 2, Nat.mul_mod_mul_left] at a
      omega
    have b' : ¬ m % 2 ^ (j + 1) = 0 := fun z => by
      rw [Nat.pow_succ, Nat.mul_comm (2 ^ (j + 1)) 2, Nat.mul_mod_mul_left, z] at b
      exact b rfl
    rw [low_is j m hm a' b']
theorem low_pow (j : Nat) : low (2 ^ j) = 2 ^ j := by
  refine low_is j _ (Nat.pos_iff_ne_zero.mp (Nat.two_pow_pos j)) (Nat.mod_self _) fun z => ?_
  rw [Nat.mod_eq_of_lt (Nat.pow_lt_pow_right (by decide) (by omega))] at z
  have := Nat.two_pow_pos j
  omega
theorem tot_step (m : Nat) : tot (m + 1) = tot m + low (m + 1) := by
  induction m using Nat.strongRecOn with
  | ind m ih =>
    rw [tot_all (m + 1)]
    by_cases e : (m + 1) % 2 = 1
    · rw [low_odd e, tot_all m, show (m + 1) / 2 = m / 2 by omega]
      omega
    · rw [low_even (by omega) (by omega)]
      by_cases z : m = 0
      · omega
      · have h := ih (m / 2) (by omega)
        rw [tot_all m, show (m + 1) / 2 = m / 2 + 1 by omega, h]
        omega
theorem tot_sum : ∀ m : Nat, tot m = ((List.range m).map fun i => low (i + 1)).sum
  | 0 => by
    rw [tot_zero]
    rfl
  | m + 1 => by
    rw [tot_step, tot_sum m, List.range_succ, List.map_append, List.sum_append]
    rfl
theorem tot_le (m : Nat) : tot m ≤ m * (m.log2 + 1) := by
  induction m using Nat.strongRecOn with
  | ind m ih =>
    by_cases z : m = 0
    · subst z
      rw [tot_zero]
      exact Nat.zero_le _
    · by_cases o : m = 1
      · subst o
        decide +kernel
      · have h := ih (m / 2) (by omega)
        rw [tot_all m, Nat.log2_def m, if_pos (by omega)]
        have h2 : 2 * (m / 2 * ((m / 2).log2 + 1)) ≤ m * ((m / 2).log2 + 1) := by
          rw [← Nat.mul_assoc]
          exact Nat.mul_le_mul_right _ (by omega)
        rw [Nat.mul_add m _ 1]
        omega
end Ob

set_option Elab.async false
set_option linter.all false
set_option maxRecDepth 100000
set_option maxHeartbeats 4000000
namespace Ob
open PySem PySem.Spec PyProof.Rows L2
theorem ifT {c : Bool} {A B : Prop} (hc : c = true) (h : A) : if c = true then A else B := by
  rw [if_pos hc]
  exact h
theorem ifF {c : Bool} {A B : Prop} (hc : c = false) (h : B) : if c = true then A else B := by
  rw [hc, if_neg Bool.false_ne_true]
  exact h
theorem dF {p : Prop} [Decidable p] (h : ¬ p) : decide p = false := decide_eq_false h
theorem dT {p : Prop} [Decidable p] (h : p) : decide p = true := decide_eq_true h
theorem bits_nat {n : Nat} (h : n ≠ 0) : (Builtin.Int.intBits (n : Int) : Nat) = n.log2 + 1 := by
  unfold Builtin.Int.intBits
  rw [if_neg (show ¬ ((n : Int) == 0) = true by simpa using (show (n : Int) ≠ 0 by omega))]
  rfl
theorem gp_eq {n : Nat} (h : n ≠ 0) : (1 : Int) * 2 ^ (((Builtin.Int.intBits (n : Int) : Nat) : Int) - 1).toNat = ((2 ^ n.log2 : Nat) : Int) := by
  rw [bits_nat h, show (((n.log2 + 1 : Nat) : Int) - 1).toNat = n.log2 by omega, Int.one_mul]
  exact (PySem.W.kbt_cast _).symm
theorem gp_ok {n : Nat} (h : n ≠ 0) (hn : n < 2 ^ 200) : CShl 1 (((Builtin.Int.intBits (n : Int) : Nat) : Int) - 1) := by
  have a := log_lt h hn
  rw [bits_nat h, show (((n.log2 + 1 : Nat) : Int) - 1) = (n.log2 : Int) by omega]
  exact shl_ok (n := 1) (by decide) (by omega)
theorem nat_cast_lt {a : Nat} {n : Nat} (h : n < 2 ^ a) : (n : Int).natAbs < 2 ^ a := h
section
variable {P : Program} {w : World} {K : PySem.W.Frag} {mg : Str → Option Value} {base : Heap}
def spGp : Sp := fun vs H Q _ => ∃ n : Nat, vs = [.int (n : Int)] ∧ n ≠ 0 ∧ n < 2 ^ 200 ∧ Q (.int ((2 ^ n.log2 : Nat) : Int)) H
theorem ok_gp (T : Txt K mg) : FnOk P w K mg base CX0 3 T.f_greatest_power T.d_greatest_power ["number"] spGp := by
  refine T.F_greatest_power.ok sc_greatest_power (fun vs H Q E h => ?_) (fun cdv A outer s H vs Q E hr h => ?_)
  · obtain ⟨n, rfl, _⟩ := h
    rfl
  · obtain ⟨n, rfl, h0, h1, q⟩ := h
    refine ⟨_, (pss_one (ps_ret (pe_op op_shlW pe_int (pe_op op_sub (pe_bits (pv 0)) pe_int)))), ?_⟩
    rw [← gp_eq h0] at q
    exact ⟨_, rfl, _, rfl, _, _, rfl, rfl, _, _, rfl, rfl, gp_ok h0 h1, q⟩
def spIsI : Sp := fun vs H Q _ => ∃ i : Int, vs = [.int i] ∧ Q (.bl true) H
theorem ok_isi (T : Txt K mg) : FnOk P w K mg base CX0 1 T.f_is_integer T.d_is_integer ["value"] spIsI := by
  refine T.F_is_integer.ok sc_is_integer (fun vs H Q E h => ?_) (fun cdv A outer s H vs Q E hr h => ?_)
  · obtain ⟨i, rfl, _⟩ := h
    rfl
  · obtain ⟨i, rfl, q⟩ := h
    refine ⟨_, (pss_one (ps_ret (pe_and (pe_callB call_isi (by rfl) T.z_isinstance (by decide +kernel) (pa_cons (pv 0) (pa_cons (pe_bltn (v := .ty "int") (by rfl) T.z_int (by decide +kernel) rfl) pa_nil))) (pe_one (pe_not (pe_callB call_isi (by rfl) T.z_isinstance (by decide +kernel) (pa_cons (pv 0) (pa_cons (pe_bltn (v := .ty "bool") (by rfl) T.z_bool (by decide +kernel) rfl) pa_nil)))))))), ?_⟩
    refine ⟨_, rfl, .int i, .ty "int", .type "int", .type "int", true, rfl, .ty _, .base (.int _), kit_ty (by decide +kernel), true, rfl, iteT ?_⟩
    exact ⟨_, rfl, .int i, .ty "bool", .type "int", .type "bool", false, rfl, .ty _, .base (.int _), kit_ty (by decide +kernel), false, rfl, q⟩
theorem ok_cki (T : Txt K mg) : FnOk P w K mg base CX0 2 T.f_check_integer T.d_check_integer ["value"] (fun vs H Q _ => ∃ i : Int, vs = [.int i] ∧ Q .non H) := by
  have G_is_integer := ok_isi (P := P) (w := w) (base := base) T
  refine T.F_check_integer.ok sc_check_integer (fun vs H Q E h => ?_) (fun cdv A outer s H vs Q E hr h => ?_)
  · obtain ⟨i, rfl, _⟩ := h
    rfl
  · obtain ⟨i, rfl, q⟩ := h
    refine ⟨_, (pss_one (ps_if (pt_not (pt_val (pe_call G_is_integer (hr.mono (by omega)) rfl T.g_is_integer T.F_is_integer.kp T.b_is_integer .nil pass0 (pa_cons (pv 0) pa_nil)))) (pss_one ps_never) pss_nil)), ?_⟩
    exact ⟨_, rfl, i, rfl, true, rfl, iteF q⟩
def spCheck : Sp := fun vs H Q _ => ∃ n : Nat, vs = [.int (n : Int)] ∧ n ≤ 10 ^ 30 ∧ Q .non H
theorem ok_check (T : Txt K mg) : FnOk P w K mg base CX0 3 T.f_check_number T.d_check_number ["value"] spCheck := by
  have G_check_integer := ok_cki (P := P) (w := w) (base := base) T
  refine T.F_check_number.ok sc_check_number (fun vs H Q E h => ?_) (fun cdv A outer s H vs Q E hr h => ?_)
  · obtain ⟨n, rfl, _⟩ := h
    rfl
  · obtain ⟨n, rfl, h0, q⟩ := h
    have rG := T.r_GREATEST
    refine ⟨_, (pss_cons (ps_expr (pe_call G_check_integer (hr.mono (by omega)) rfl T.g_check_integer T.F_check_integer.kp T.b_check_integer .nil pass0 (pa_cons (pv 0) pa_nil)))
      (pss_one (ps_if (PW.pt (pw_or (pt_cmpR op_lt (pv 0) pe_int (nomark _)) (pw_or1 (pt_cmpR op_gt (pv 0) (pe_glob rfl T.v_GREATEST T.r_GREATEST) (nomark _))))) (pss_one ps_never) pss_nil))), ?_⟩
    refine ⟨_, rfl, (n : Int), rfl, ?_⟩
    refine ⟨_, rfl, _, _, rfl, rfl, _, rfl, ?_⟩
    refine ifF (dF (by omega)) ?_
    refine ⟨_, rfl, _, _, rfl, rfl, _, rfl, ?_⟩
    have h1 : ¬ ((10 : Int) ^ 30 < (n : Int)) := by
      have : (10 : Int) ^ 30 = ((10 ^ 30 : Nat) : Int) := by decide +kernel
      rw [this]
      omega
    exact ifF (dF h1) q

theorem p100 : (10 ^ 30 : Nat) < 2 ^ 100 := by decide +kernel
def toI (l : List Nat) : List Int := l.map fun (x : Nat) => (x : Int)
def toV (l : List Nat) : List V := (toI l).map V.int
def intAt (σ : L2.St) (i : Nat) : Nat := match σ[i]? with
  | some (some (V.int r)) => r.toNat
  | _ => 0
def spSizes : Sp := fun vs H Q _ => ∃ n : Nat, vs = [.int (n : Int)] ∧ n ≤ 10 ^ 30 ∧ ∀ p H', H p = none → Same H H' → H' p = some (.lst (toV (szF 100 n))) → Q (.ref p) H'
theorem ok_sizes (T : Txt K mg) : FnOk P w K mg base CX0 4 T.f_block_sizes T.d_block_sizes ["many"] spSizes := by
  have G_greatest_power := ok_gp (P := P) (w := w) (base := base) T
  have G_check_number := ok_check (P := P) (w := w) (base := base) T
  refine T.F_block_sizes.ok sc_block_sizes (fun vs H Q E h => ?_) (fun cdv A outer s H vs Q E hr h => ?_)
  · obtain ⟨n, rfl, _⟩ := h
    rfl
  · obtain ⟨n, rfl, h0, q⟩ := h
    refine ⟨_, (pss_cons (ps_expr (pe_call G_check_number (hr.mono (by omega)) rfl T.g_check_number T.F_check_number.kp T.b_check_number .nil pass0 (pa_cons (pv 0) pa_nil)))
      (pss_cons (ps_set (i := 1) sc_block_sizes.nd rfl (.inl rfl) (pe_lst pa_nil))
      (pss_cons (ps_set (i := 2) sc_block_sizes.nd rfl (.inl rfl) (pv 0))
      (pss_cons (ps_while PassesOwn.never (pt_cmpR op_gt (pv 2) pe_int (nomark _)) (pss_cons (ps_set (i := 3) sc_block_sizes.nd rfl (.inl rfl) (pe_call G_greatest_power (hr.mono (by omega)) rfl T.g_greatest_power T.F_greatest_power.kp T.b_greatest_power .nil pass0 (pa_cons (pv 2) pa_nil)))
        (pss_cons (ps_expr (pe_bm PySem.F.plainAttrs_list PySem.F.slot_list_append PySem.F.type_list_append mt_append (pv 1) (pa_cons (pv 3) pa_nil)))
        (pss_one (ps_aug (i := 2) sc_block_sizes.nd rfl (.inl rfl) (pv 3) ip_sub)))))
      (pss_one (ps_ret (pv 1))))))), ?_⟩
    refine ⟨_, rfl, n, rfl, h0, ?_⟩
    refine ⟨Nat.zero_le _, fun o no => ?_⟩
    refine ⟨_, rfl, ?_⟩
    refine while_by (fun σ H' => ∃ (rest k : Nat) (acc : List Nat) (y : Option V), σ = [some (.int (n : Int)), some (.ref o), some (.int (rest : Int)), y] ∧ rest < 2 ^ k ∧ acc.length + k ≤ 100 ∧ acc ++ szF k rest = szF 100 n ∧ Same H H' ∧ H' o = some (.lst (toV acc)))
      (fun σ _ => intAt σ 2) ⟨n, 100, [], none, rfl, Nat.lt_of_le_of_lt h0 p100, Nat.le_refl _, rfl, same_new no, upd_same⟩ ?_ ?_
    · rintro σ H' ⟨rest, k, acc, y, rfl, hk, hl, he, hs, ho⟩
      refine ⟨_, rfl, _, _, rfl, rfl, _, rfl, ite2 (fun e => ?_) (fun e => ?_)⟩
      · have e1 := of_decide_eq_true e
        have z : rest ≠ 0 := by omega
        obtain ⟨k, rfl⟩ : ∃ j, k = j + 1 := ⟨k - 1, by
          have := log_lt z hk
          omega⟩
        refine ⟨_, rfl, rest, rfl, z, Nat.lt_of_lt_of_le hk (Nat.pow_le_pow_right (by decide) (by omega)), ?_⟩
        refine ⟨_, rfl, .inl ⟨rfl, _, .inl (.inl ho)⟩, _, rfl, o, _, _, rfl, rfl, ho, ?_, ?_⟩
        · unfold toV toI
          rw [List.length_map, List.length_map]
          exact small1000 (by omega)
        · refine ⟨_, rfl, _, rfl, _, _, rfl, rfl, ?_⟩
          have lo := log_lo z
          have e3 : ((rest : Int) - ((2 ^ rest.log2 : Nat) : Int)) = ((rest - 2 ^ rest.log2 : Nat) : Int) := by omega
          refine ⟨⟨rest - 2 ^ rest.log2, k, acc ++ [2 ^ rest.log2], some (.int ((2 ^ rest.log2 : Nat) : Int)), ?_, rest_lt' z hk, ?_, ?_, same_put hs no, ?_⟩, ?_⟩
          · rw [← e3]
            rfl
          · rw [List.length_append]
            show acc.length + 1 + k ≤ 100
            omega
          · rw [← he, szF_pos z, List.append_assoc]
            rfl
          · rw [upd_same]
            unfold toV toI
            rw [List.map_append, List.map_append]
            rfl
          · show ((rest : Int) - ((2 ^ rest.log2 : Nat) : Int)).toNat < ((rest : Int)).toNat
            have := Nat.two_pow_pos rest.log2
            omega
      · have e1 : rest = 0 := by
          have : ¬ ((0 : Int) < (rest : Int)) := fun z => e (dT z)
          omega
        subst e1
        rw [szF_zero, List.append_nil] at he
        subst he
        exact ⟨_, rfl, q o H' no hs ho⟩
    · rintro σ H' Q1 Q2 m ⟨x, hx, i, j, e1, e2, c, e3, q⟩
      exact ⟨x, hx, i, j, e1, e2, c, e3, m _ _ q⟩
end
end Ob

set_option Elab.async false
set_option linter.all false
set_option maxRecDepth 100000
set_option maxHeartbeats 4000000
namespace Ob
open PySem PySem.Spec PyProof.Rows L2
theorem mono1 {c : TT} {i : Nat} (h : ∀ σ H Q, c σ H Q ↔ c σ H Q) : True := trivial
theorem le2 : 2 ≤ sizeLine := by decide
theorem cdiv_nat (a b : Nat) : ((a : Int) / (b : Int)) = ((a / b : Nat) : Int) := rfl
section
variable {P : Program} {w : World} {K : PySem.W.Frag} {mg : Str → Option Value} {base : Heap}
def spTotal : Sp := fun vs H Q _ => ∃ n : Nat, vs = [.int (n : Int)] ∧ n ≤ 10 ^ 30 ∧ Q (.int (tot n : Int)) H
theorem ok_total (T : Txt K mg) : FnOk P w K mg base CX0 4 T.f_total_built T.d_total_built ["many"] spTotal := by
  have G_check_number := ok_check (P := P) (w := w) (base := base) T
  refine T.F_total_built.ok sc_total_built (fun vs H Q E h => ?_) (fun cdv A outer s H vs Q E hr h => ?_)
  · obtain ⟨n, rfl, _⟩ := h
    rfl
  · obtain ⟨n, rfl, h0, q⟩ := h
    refine ⟨_, (pss_cons (ps_expr (pe_call G_check_number (hr.mono (by omega)) rfl T.g_check_number T.F_check_number.kp T.b_check_number .nil pass0 (pa_cons (pv 0) pa_nil)))
      (pss_cons (ps_set (i := 1) sc_total_built.nd rfl (.inl rfl) pe_int)
      (pss_cons (ps_set (i := 2) sc_total_built.nd rfl (.inl rfl) pe_int)
      (pss_cons (ps_while PassesOwn.never (pt_cmpR op_le (pv 2) (pv 0) (nomark _)) (pss_cons (ps_aug (i := 1) sc_total_built.nd rfl (.inl rfl) (pe_op op_mulX (pv 2) (pe_op op_sub (pe_op op_fdivW (pv 0) (pv 2)) (pe_op op_fdivW (pv 0) (pe_op op_mul pe_int (pv 2))))) ip_add)
        (pss_one (ps_aug (i := 2) sc_total_built.nd rfl (.inl rfl) pe_int iop_mul))))
      (pss_one (ps_ret (pv 1))))))), ?_⟩
    refine ⟨_, rfl, n, rfl, h0, ?_⟩
    have hn := Nat.lt_of_le_of_lt h0 p100
    refine while_by (fun σ H' => H' = H ∧ ∃ (t s : Nat), σ = [some (.int (n : Int)), some (.int (t : Int)), some (.int (s : Int))] ∧ 0 < s ∧ s ≤ 2 * n + 1 ∧ t + s * tot (n / s) = tot n)
      (fun σ _ => n + 1 - intAt σ 2) ⟨rfl, 0, 1, rfl, by decide, by omega, by rw [Nat.div_one]; omega⟩ ?_ ?_
    · rintro σ H' ⟨rfl, t, s, rfl, hs, hs2, he⟩
      refine ⟨_, rfl, _, rfl, _, _, rfl, rfl, _, rfl, ite2 (fun e => ?_) (fun e => ?_)⟩
      · have e1 := of_decide_eq_true e
        have e2 : s ≤ n := by omega
        have hs100 : s < 2 ^ 100 := Nat.lt_of_le_of_lt e2 hn
        refine ⟨_, rfl, _, rfl, _, rfl, _, rfl, _, _, rfl, rfl, wide_div (b := 100) (by omega) (nat_cast_lt hs100) (by decide) (by decide), ?_⟩
        refine ⟨_, rfl, _, rfl, _, _, rfl, rfl, .inl ⟨by decide, by decide⟩, _, _, rfl, rfl, wide_div (b := 101) (by omega) (nat_cast_lt (n := 2 * s) (by omega)) (by decide) (by decide), ?_⟩
        have d1 : n / (2 * s) = n / s / 2 := by rw [Nat.mul_comm, Nat.div_div_eq_div_mul]
        have d2 : n / s ≤ n := Nat.div_le_self _ _
        refine ⟨_, _, rfl, rfl, ?_⟩
        have e3 : ((n : Int) / (s : Int)) - ((n : Int) / (2 * (s : Int))) = ((n / s - n / s / 2 : Nat) : Int) := by
          have a2 : ((n : Int) / (2 * (s : Int))) = ((n / s / 2 : Nat) : Int) := by
            rw [show (2 * (s : Int)) = ((2 * s : Nat) : Int) by omega, ← d1]
            rfl
          rw [a2, cdiv_nat]
          generalize n / s = z
          omega
        refine ⟨_, _, rfl, rfl, mulx_ok (a := 100) (b := 100) (nat_cast_lt hs100) (by rw [e3]; exact nat_cast_lt (by omega)) (by decide), ?_⟩
        refine ⟨_, _, rfl, rfl, ?_⟩
        refine ⟨_, rfl, _, _, rfl, rfl, .inr ⟨by decide, by decide⟩, ?_⟩
        have e4 : ((t : Int) + (s : Int) * (((n : Int) / (s : Int)) - ((n : Int) / (2 * (s : Int))))) = ((t + s * (n / s - n / s / 2) : Nat) : Int) := by
          rw [e3, Int.natCast_add, Int.natCast_mul]
        refine ⟨⟨rfl, t + s * (n / s - n / s / 2), s * 2, ?_, by omega, by omega, ?_⟩, ?_⟩
        · rw [← e4]
          rfl
        · rw [← he, tot_all (n / s), ← Nat.div_div_eq_div_mul, Nat.mul_add, Nat.mul_assoc]
          omega
        · show n + 1 - ((s : Int) * 2).toNat < n + 1 - (s : Int).toNat
          omega
      · have e1 : ¬ s ≤ n := fun z => e (dT (by omega))
        rw [Nat.div_eq_of_lt (by omega), tot_zero] at he
        refine ⟨_, rfl, ?_⟩
        have : t = tot n := by omega
        subst this
        exact q
    · rintro σ H' Q1 Q2 m ⟨x, hx, y, hy, i, j, e1, e2, c, e3, q⟩
      exact ⟨x, hx, y, hy, i, j, e1, e2, c, e3, m _ _ q⟩
def spLow : Sp := fun vs H Q _ => ∃ n : Nat, vs = [.int (n : Int)] ∧ n ≠ 0 ∧ Q (.int (low n : Int)) H
theorem ok_low (T : Txt K mg) : FnOk P w K mg base CX0 3 T.f_l_lowest T.d_l_lowest ["_law_number_here"] spLow := by
  refine T.F_l_lowest.ok sc_l_lowest (fun vs H Q E h => ?_) (fun cdv A outer s H vs Q E hr h => ?_)
  · obtain ⟨n, rfl, _⟩ := h
    rfl
  · obtain ⟨n, rfl, h0, q⟩ := h
    refine ⟨_, (pss_cons (ps_set (i := 1) sc_l_lowest.nd rfl (.inl rfl) pe_int)
      (pss_cons (ps_while PassesOwn.never (pt_cmpR op_eq (pe_op op_modN (pv 0) (pe_op op_mul pe_int (pv 1))) pe_int (nomark _)) (pss_one (ps_set (i := 1) sc_l_lowest.nd rfl (.inl rfl) (pe_op op_mul pe_int (pv 1)))))
      (pss_one (ps_ret (pv 1))))), ?_⟩
    refine while_by (fun σ H' => H' = H ∧ ∃ j : Nat, σ = [some (.int (n : Int)), some (.int ((2 ^ j : Nat) : Int))] ∧ n % 2 ^ j = 0)
      (fun σ _ => n + 1 - intAt σ 1) ⟨rfl, 0, rfl, Nat.mod_one _⟩ ?_ ?_
    · rintro σ H' ⟨rfl, j, rfl, he⟩
      have hp := Nat.two_pow_pos j
      have hle : 2 ^ j ≤ n := Nat.le_of_dvd (by omega) (Nat.dvd_of_mod_eq_zero he)
      refine ⟨_, rfl, _, rfl, _, _, rfl, rfl, .inl ⟨by decide, by decide⟩, _, _, rfl, rfl, (by omega), rfl, _, rfl, ?_⟩
      have e1 : (2 * ((2 ^ j : Nat) : Int)) = ((2 ^ (j + 1) : Nat) : Int) := by
        rw [Nat.pow_succ]
        omega
      have e2 : (n : Int).fmod (2 * ((2 ^ j : Nat) : Int)) = ((n % 2 ^ (j + 1) : Nat) : Int) := by
        rw [e1, Int.fmod_eq_emod_of_nonneg _ (by omega)]
        rfl
      refine ite2 (fun e => ?_) (fun e => ?_)
      · have e3 := V.int.inj (of_decide_eq_true e)
        refine ⟨_, rfl, _, _, rfl, rfl, .inl ⟨by decide, by decide⟩, ?_⟩
        refine ⟨⟨rfl, j + 1, ?_, ?_⟩, ?_⟩
        · rw [← e1]
          rfl
        · have e4 := e2.symm.trans e3
          omega
        · show n + 1 - (2 * ((2 ^ j : Nat) : Int)).toNat < n + 1 - (((2 ^ j : Nat) : Int)).toNat
          omega
      · refine ⟨_, rfl, ?_⟩
        rw [← low_is j n h0 he fun z => e (dT (congrArg V.int (e2.trans (by rw [z]; rfl))))]
        exact q
    · rintro σ H' Q1 Q2 m ⟨x, hx, y, hy, i, j, e1, e2, e3, i', j', e4, e5, e6, e7, c, e8, q⟩
      exact ⟨x, hx, y, hy, i, j, e1, e2, e3, i', j', e4, e5, e6, e7, c, e8, m _ _ q⟩
def spTot2 : Sp := fun vs H Q _ => ∃ n : Nat, vs = [.int (n : Int)] ∧ n ≤ 10 ^ 30 ∧ ∀ H', Same H H' → Q (.int (tot n : Int)) H'
theorem ok_tot2 (T : Txt K mg) : FnOk P w K mg base CX0 3 T.f_l_total T.d_l_total ["_law_number_here"] spTot2 := by
  refine T.F_l_total.ok sc_l_total (fun vs H Q E h => ?_) (fun cdv A outer s H vs Q E hr h => ?_)
  · obtain ⟨n, rfl, _⟩ := h
    rfl
  · obtain ⟨n, rfl, h0, q⟩ := h
    refine ⟨_, (pss_cons (ps_asg (pe_tup (pa_cons pe_int (pa_cons pe_int pa_nil))) (pg_tup (by rfl) (pgs_cons (pg_name (i := 1) sc_l_total.nd rfl (.inl rfl)) (pgs_cons (pg_name (i := 2) sc_l_total.nd rfl (.inl rfl)) pgs_nil))))
      (pss_cons (ps_while PassesOwn.never (pt_cmpR op_gt (pv 0) pe_int (nomark _)) (pss_cons (ps_set (i := 1) sc_l_total.nd rfl (.inl rfl) (pe_op op_add (pv 1) (pe_op op_mulX (pv 2) (pe_op op_sub (pv 0) (pe_op op_fdivW (pv 0) pe_int)))))
        (pss_one (ps_par (i := 0) (j := 2) (by rfl) sc_l_total.nd rfl rfl (by decide) rfl rfl (pa_cons (pe_op op_fdivW (pv 0) pe_int) (pa_cons (pe_op op_mul pe_int (pv 2)) pa_nil)) (by rfl)))))
      (pss_one (ps_ret (pv 1))))), ?_⟩
    have hn := Nat.lt_of_le_of_lt h0 p100
    refine ⟨le2, fun tp ntp => ?_⟩
    refine ⟨tp, _, rfl, .inl (.inl upd_same), rfl, _, _, rfl, _, _, rfl, rfl, ?_⟩
    refine while_by (fun σ H' => Same H H' ∧ ∃ (m t s : Nat), σ = [some (.int (m : Int)), some (.int (t : Int)), some (.int (s : Int))] ∧ s * m ≤ n ∧ t + s * tot m = tot n ∧ m ≤ n)
      (fun σ _ => intAt σ 0) ⟨same_new ntp, n, 0, 1, rfl, by omega, by omega, by omega⟩ ?_ ?_
    · rintro σ H' ⟨hS, m, t, s, rfl, hs, he, hm⟩
      refine ⟨_, rfl, _, _, rfl, rfl, _, rfl, ite2 (fun e => ?_) (fun e => ?_)⟩
      · have e1 := of_decide_eq_true e
        have e2 : 0 < m := by omega
        have hs1 : s ≤ n := Nat.le_trans (Nat.le_mul_of_pos_right s e2) hs
        have hs100 : s < 2 ^ 100 := Nat.lt_of_le_of_lt hs1 hn
        refine ⟨_, rfl, _, rfl, _, rfl, _, rfl, _, _, rfl, rfl, wide_div (b := 2) (by decide) (by decide) (by decide) (by decide), ?_⟩
        refine ⟨_, _, rfl, rfl, ?_⟩
        have e3 : (m : Int) - (m : Int) / 2 = ((m - m / 2 : Nat) : Int) := by omega
        refine ⟨_, _, rfl, rfl, mulx_ok (a := 100) (b := 100) (nat_cast_lt hs100) (by rw [e3]; exact nat_cast_lt (by omega)) (by decide), ?_⟩
        refine ⟨_, _, rfl, rfl, ?_⟩
        refine ⟨_, rfl, _, _, rfl, rfl, wide_div (b := 2) (by decide) (by decide) (by decide) (by decide), _, rfl, _, _, rfl, rfl, .inl ⟨by decide, by decide⟩, ?_⟩
        refine ⟨_, _, rfl, ?_⟩
        have e4 : ((t : Int) + (s : Int) * ((m : Int) - (m : Int) / 2)) = ((t + s * (m - m / 2) : Nat) : Int) := by
          rw [e3, Int.natCast_add, Int.natCast_mul]
        refine ⟨⟨hS, m / 2, t + s * (m - m / 2), 2 * s, ?_, ?_, ?_, by omega⟩, ?_⟩
        · rw [← e4]
          rfl
        · rw [Nat.mul_comm 2 s, Nat.mul_assoc]
          exact Nat.le_trans (Nat.mul_le_mul_left s (by omega)) hs
        · rw [← he, tot_all m, Nat.mul_add, Nat.mul_comm 2 s, Nat.mul_assoc]
          omega
        · show ((m : Int) / 2).toNat < (m : Int).toNat
          omega
      · have e1 : m = 0 := by
          have : ¬ ((0 : Int) < (m : Int)) := fun z => e (dT z)
          omega
        subst e1
        rw [tot_zero] at he
        refine ⟨_, rfl, ?_⟩
        have : t = tot n := by omega
        subst this
        exact q _ hS
    · rintro σ H' Q1 Q2 m ⟨x, hx, i, j, e1, e2, c, e3, q⟩
      exact ⟨x, hx, i, j, e1, e2, c, e3, m _ _ q⟩
end
end Ob

set_option Elab.async false
set_option linter.all false
set_option maxRecDepth 100000
set_option maxHeartbeats 4000000
namespace Ob
open PySem PySem.Spec PyProof.Rows L2
/-! ### a call by keywords alone -/
section
variable {X : Cx} {CX : CXT} {k n : Nat} {f : Addr} {fd : FuncData} {ps ks : List Str} {sp : Sp} {E : XK} {x : Str} {p pos : Pos} {kws : List Keyword} {tk : TA} {g : List Value → List Value → List Value} {gV : List V → List V → List V}
theorem pe_kw0 (F : FnOk X.prog X.w X.K X.mg X.base CX k f fd ps sp) (hr : Room k X.A) (hg : Gl X x) (hm : X.mg x = some (.ref f))
    (hk : PySem.W.keepIn X.K (.ref f) = true) (hb : KBn X.K fd ps 0 ks g gV) (hx : Passes CX X E) (hkw : PK X kws tk)
    (hall : (backToKw pos (keywordEach kws X.env)).all (·.1.isSome) = true := by rfl)
    (hks : (backToKw pos (keywordEach kws X.env)).filterMap (·.1) = ks := by rfl) (hdb : (x == ("__debug__" : Str)) = false := by decide)
    (hpl : ((backTo pos (starEach [] X.env)).any (·.1) || (backToKw pos (keywordEach kws X.env)).any (·.1.isNone)) = false := by rfl) :
    PE X (.Call (.Name x p) [] kws pos) (tCallN 0 ks.length sp gV E tNil tk) :=
  ⟨fun pins s σ H Q I h => wpAny_Call_Name_kw (ld_glob I hg hm (PySem.W.callWith_KW0 (h₀ := X.base) I.ok.mod.kin hk hall
    (thn (hkw.run pos pins s σ H _ I h) fun ws s2 ⟨zs, H2, I2, rz, l1, l2, q2⟩ => ⟨I2.kIn, by rw [hks]; exact run_fnN (us := []) (vs := []) F hr hb hx I2 .nil rz l1 l2 q2⟩) hpl) hdb)⟩
end
theorem kb_one {K : PySem.W.Frag} {x qual : Str} {st : Stmt} {f : Addr} {fd : FuncData} {n : Str} (F : Fun K x qual st f fd)
    (h : ∀ (kV doc pm : Value) (an : Option Addr) (cdv ct v : Value), bindArgs (PySem.W.fnOf x qual (defArgs st) (defBody st) (defScope st) .none kV doc pm an cdv ct) ⟨[], [(n, v)]⟩ = pure [(n, v)]) :
    KBn K fd [n] 0 [n] (fun _ ws => ws) (fun _ zs => zs) := by
  obtain ⟨oc, od, kV, doc, pm, an, cdv, ct, osl, rfl, lk, hcd⟩ := F.ex
  exact ⟨fun s us ws X l1 l2 => match us, ws, l1, l2 with | [], [v], _, _ => .of_eq (h kV doc pm an cdv ct v), fun _ r => r⟩
/-! ### lists of ints, compared -/
theorem dp_ints {K : PySem.W.Frag} {H : Hp} : ∀ l : List Int, DpAll K H (l.map V.int) (l.map PyData.int)
  | [] => .nil
  | x :: l => .cons (.int x) (dp_ints l)
theorem lay_ints : ∀ l : List Int, PyData.canLayAll0 (l.map PyData.int) = true ∧ PyData.depthAll (l.map PyData.int) ≤ 1
  | [] => ⟨rfl, by decide⟩
  | x :: l => by
    obtain ⟨a, b⟩ := lay_ints l
    refine ⟨?_, ?_⟩
    · show PyData.canLayAll0 (PyData.int x :: l.map PyData.int) = true
      simp only [PyData.canLayAll0, PyData.canLay0, a, Bool.and_self]
    · show PyData.depthAll (PyData.int x :: l.map PyData.int) ≤ 1
      simp only [PyData.depthAll, PyData.depth]
      omega
theorem sh_ints (l : List Int) : SeqAt.shaped (.list (l.map PyData.int)) = true := by
  obtain ⟨a, b⟩ := lay_ints l
  unfold SeqAt.shaped
  rw [Bool.and_eq_true]
  refine ⟨?_, decide_eq_true ?_⟩
  · simp only [PyData.canLay0, a]
  · simp only [PyData.depth]
    omega
section
variable {P : Program} {w : World} {K : PySem.W.Frag} {mg : Str → Option Value} {base : Heap}
def spRight : Sp := fun vs H Q _ => ∃ n : Nat, vs = [.int (n : Int)] ∧ n ≤ 10 ^ 30 ∧ ∀ H', Same H H' → Q (.bl true) H'
theorem ok_right (T : Txt K mg) : FnOk P w K mg base CX0 5 T.f_l_sizes_right T.d_l_sizes_right ["_law_number_here"] spRight := by
  have G_block_sizes := ok_sizes (P := P) (w := w) (base := base) T
  have G_l_lowest := ok_low (P := P) (w := w) (base := base) T
  have KB_block_sizes := kb_one (n := "many") T.F_block_sizes fun _ _ _ _ _ _ _ => rfl
  refine T.F_l_sizes_right.ok sc_l_sizes_right (fun vs H Q E h => ?_) (fun cdv A outer s H vs Q E hr h => ?_)
  · obtain ⟨n, rfl, _⟩ := h
    rfl
  · obtain ⟨n, rfl, h0, q⟩ := h
    have hn : n < 2 ^ 100 := Nat.lt_of_le_of_lt h0 p100
    refine ⟨_, (pss_cons (ps_set (i := 1) sc_l_sizes_right.nd rfl (.inl rfl) (pe_call G_block_sizes (hr.mono (by omega)) rfl T.g_block_sizes T.F_block_sizes.kp T.b_block_sizes .nil pass0 (pa_cons (pv 0) pa_nil)))
      (pss_cons (ps_if (PW.pt (pw_or (pt_not (pt_val (pe_callB call_isi (by rfl) T.z_isinstance (by decide +kernel) (pa_cons (pv 1) (pa_cons (pe_bltn (v := .ty "list") (by rfl) T.z_list (by decide +kernel) rfl) pa_nil))))) (pw_or1 (pt_cmpR op_ne (pe_callB (cr_sum rfl) (by rfl) T.z_sum (by decide +kernel) (pa_cons (pv 1) pa_nil)) (pv 0) (nomark _))))) (pss_one (ps_ret pe_bl)) pss_nil)
      (pss_cons (ps_for PassesOwn.never rfl (pi_range1 (by rfl) T.z_range (pa_cons (pe_callB call_len_seq (by rfl) T.z_len (by decide +kernel) (pa_cons (pv 1) pa_nil)) pa_nil)) (pg_name (i := 2) sc_l_sizes_right.nd rfl (.inl rfl)) (pss_cons (ps_if (PW.pt (pw_or (pt_not (pt_val (pe_callB call_isi (by rfl) T.z_isinstance (by decide +kernel) (pa_cons (pe_ix (r := rIxL K) ix_list (pv 1) (pv 2) (fun _ _ => rfl)) (pa_cons (pe_bltn (v := .ty "int") (by rfl) T.z_int (by decide +kernel) rfl) pa_nil))))) (pw_or (pt_val (pe_callB call_isi (by rfl) T.z_isinstance (by decide +kernel) (pa_cons (pe_ix (r := rIxL K) ix_list (pv 1) (pv 2) (fun _ _ => rfl)) (pa_cons (pe_bltn (v := .ty "bool") (by rfl) T.z_bool (by decide +kernel) rfl) pa_nil)))) (pw_or1 (pt_cmpR op_lt (pe_ix (r := rIxL K) ix_list (pv 1) (pv 2) (fun _ _ => rfl)) pe_int (nomark _)))))) (pss_one (ps_ret pe_bl)) pss_nil)
        (pss_cons (ps_if (pt_cmpR op_ne (pe_call G_l_lowest (hr.mono (by omega)) rfl T.g_l_lowest T.F_l_lowest.kp T.b_l_lowest .nil pass0 (pa_cons (pe_ix (r := rIxL K) ix_list (pv 1) (pv 2) (fun _ _ => rfl)) pa_nil)) (pe_ix (r := rIxL K) ix_list (pv 1) (pv 2) (fun _ _ => rfl)) (nomark _)) (pss_one (ps_ret pe_bl)) pss_nil)
        (pss_one (ps_if (PW.pt (pw_and (pt_cmpR op_gt (pv 2) pe_int (nomark _)) (pw_and1 (pt_cmpR op_ge (pe_ix (r := rIxL K) ix_list (pv 1) (pv 2) (fun _ _ => rfl)) (pe_ix (r := rIxL K) ix_list (pv 1) (pe_op op_sub (pv 2) pe_int) (fun _ _ => rfl)) (nomark _))))) (pss_one (ps_ret pe_bl)) pss_nil)))))
      (pss_cons (ps_set (i := 3) sc_l_sizes_right.nd rfl (.inl rfl) (pe_callTy call_list_of (by rfl) T.z_list (by decide +kernel) (pa_cons (pv 1) pa_nil)))
      (pss_cons (ps_expr (pe_bm PySem.F.plainAttrs_list PySem.F.slot_list_append PySem.F.type_list_append mt_append (pv 1) (pa_cons pe_int pa_nil)))
      (pss_one (ps_ret (pe_cmpR (op_eqD hr.units) (pe_kw0 G_block_sizes (hr.mono (by omega)) rfl T.g_block_sizes T.F_block_sizes.kp KB_block_sizes pass0 (pk_cons (pv 0) pk_nil)) (pv 3) (nomark _))))))))), ?_⟩
    refine ⟨_, rfl, n, rfl, h0, fun p H1 np s1 e1 => ?_⟩
    have hB : SqL K H1 p ((toI (szF 100 n)).map V.int) := .inl (.inl e1)
    refine ⟨_, rfl, .ref p, .ty "list", .type "list", .type "list", true, rfl, .ty _, .base (.lst e1), kit_ty (by decide +kernel), true, rfl, iteF ?_⟩
    have hsum : (toI (szF 100 n)).sum = (n : Int) := by
      have h2 := szF_sum 100 n hn
      have h3 : ∀ l : List Nat, (toI l).sum = ((l.sum : Nat) : Int) := fun l => by
        induction l with
        | nil => rfl
        | cons x l ih =>
          show (x : Int) + (toI l).sum = _
          rw [ih, List.sum_cons]
          rfl
      rw [h3, h2]
    refine ⟨_, rfl, p, _, rfl, hB, _, rfl, rfl, _, rfl, ifF (by rw [hsum]; simp) ?_⟩
    have hlen : (szF 100 n).length ≤ 100 := szF_len 100 n
    refine ⟨_, rfl, p, _, rfl, .inl hB, _, rfl, ?_, ?_, ?_⟩
    · omega
    · unfold toI
      rw [List.length_map, List.length_map]
      omega
    have el : (((toI (szF 100 n)).map V.int).length : Int).toNat = (szF 100 n).length := by
      unfold toI
      rw [List.length_map, List.length_map]
      rfl
    rw [el]
    have it : ∀ (i : Nat) (h : i < (szF 100 n).length) (z : Int), z = (i : Int) → atI ((toI (szF 100 n)).map V.int) z = some (.int (((szF 100 n)[i] : Nat) : Int)) := fun i h z e => at_of e (by
      unfold toI
      rw [List.getElem?_map, List.getElem?_map, List.getElem?_eq_getElem h]
      rfl)
    refine for_range (fun i σ H' => H' = H1 ∧ ∃ y, σ = [some (.int (n : Int)), some (.ref p), y, none]) ⟨rfl, _, rfl⟩ ?_ ?_
    · rintro i σ H' hi ⟨rfl, y, rfl⟩
      have m1 := szF_mem 100 n hn _ (List.getElem_mem hi)
      obtain ⟨⟨j, _, ej⟩, hle⟩ := m1
      have hp := Nat.two_pow_pos j
      have z0 : (0 : Int) + (i : Int) = (i : Int) := by omega
      have a1 := it i hi _ z0
      refine ⟨_, rfl, _, rfl, p, _, _, _, rfl, rfl, hB, a1, .int _, .ty "int", .type "int", .type "int", true, rfl, .ty _, .base (.int _), kit_ty (by decide +kernel), true, rfl, iteF ?_⟩
      refine ⟨_, rfl, _, rfl, p, _, _, _, rfl, rfl, hB, a1, .int _, .ty "bool", .type "int", .type "bool", false, rfl, .ty _, .base (.int _), kit_ty (by decide +kernel), false, rfl, iteF ?_⟩
      refine ⟨_, rfl, _, rfl, p, _, _, _, rfl, rfl, hB, a1, _, _, rfl, rfl, _, rfl, ifF (dF (by omega)) ?_⟩
      refine ⟨_, rfl, _, rfl, p, _, _, _, rfl, rfl, hB, a1, _, rfl, by omega, ?_⟩
      refine ⟨_, rfl, _, rfl, p, _, _, _, rfl, rfl, hB, a1, rfl, _, rfl, ifF ?_ ?_⟩
      · rw [ej, low_pow]
        simp
      refine ⟨_, rfl, _, _, rfl, rfl, _, rfl, ite2 (fun e => ?_) (fun e => ?_)⟩
      · have e2 := of_decide_eq_true e
        have e3 : i - 1 < (szF 100 n).length := by omega
        have a2 := it (i - 1) e3 ((0 : Int) + (i : Int) - 1) (by omega)
        have ds := szF_desc 100 n hn
        have lt := List.pairwise_iff_getElem.mp ds (i - 1) i e3 hi (by omega)
        refine ⟨_, rfl, _, rfl, p, _, _, _, rfl, rfl, hB, a1, _, rfl, _, rfl, _, _, rfl, rfl, p, _, _, _, rfl, rfl, hB, a2, _, _, rfl, rfl, _, rfl, ifF (dF (by omega)) ?_⟩
        exact ⟨rfl, _, rfl⟩
      · exact ⟨rfl, _, rfl⟩
    · rintro σ H' ⟨rfl, y, rfl⟩
      refine ⟨_, rfl, p, _, rfl, .inl hB, fun l nl => ?_⟩
      have npl : p ≠ l := ne_of_none e1 nl
      refine ⟨_, rfl, .inl ⟨rfl, _, .inl (.inl (by rw [upd_ne npl]; exact e1))⟩, p, _, _, rfl, rfl, (by rw [upd_ne npl]; exact e1), ?_, ?_⟩
      · unfold toV toI
        rw [List.length_map, List.length_map]
        exact small1000 (by omega)
      · have s2 : Same H (upd H' l (.lst ((toI (szF 100 n)).map V.int))) := same_put s1 (s1.free nl)
        have s3 : Same H (upd (upd H' l (.lst ((toI (szF 100 n)).map V.int))) p (.lst (toV (szF 100 n) ++ [.int 0]))) := same_put s2 np
        refine ⟨_, rfl, rfl, rfl, n, rfl, h0, fun p2 H2 np2 s4 e4 => ?_⟩
        have el2 : H2 l = some (.lst ((toI (szF 100 n)).map V.int)) := s4 _ _ (by rw [upd_ne npl.symm, upd_same])
        refine ⟨_, rfl, _, _, .lst (.inl (.inl e4)) (dp_ints _), .lst (.inl (.inl el2)) (dp_ints _), sh_ints _, sh_ints _, ?_⟩
        rw [SeqAt.eqv_refl _ (SeqAt.canLay_of_shaped (sh_ints _))]
        exact q _ (s3.trans s4)
end
end Ob

set_option Elab.async false
set_option linter.all false
set_option maxRecDepth 100000
set_option maxHeartbeats 4000000
namespace Ob
open PySem PySem.Spec PyProof.Rows L2
theorem but_put {p q : Addr} {H H1 : Hp} {o : HO} (b : But p H H1) (n : H1 q = none) : But p H (upd H1 q o) := fun c u e nc => by
  have e1 := b c u e nc
  rw [upd_ne (ne_of_none e1 n)]
  exact e1
theorem bag_put {p q : Addr} {H : Hp} {o : HO} (b : Bag H p) (n : H q = none) : Bag (upd H q o) p := by
  obtain ⟨g, m, c, e, r⟩ := b
  exact ⟨g, m, c, by rw [upd_ne (ne_of_none e n)]; exact e, r⟩
theorem bag_same {p : Addr} {H H1 : Hp} (b : Bag H p) (s : Same H H1) : Bag H1 p := by
  obtain ⟨g, m, c, e, r⟩ := b
  exact ⟨g, m, c, s _ _ e, r⟩
theorem bag_ne {p q : Addr} {H : Hp} (b : Bag H p) (n : H q = none) : q ≠ p := by
  obtain ⟨g, m, c, e, r⟩ := b
  exact (ne_of_none e n).symm
theorem pow_nat (k : Nat) : (2 : Int) ^ k = ((2 ^ k : Nat) : Int) := (PySem.W.kbt_cast k).symm
theorem p10 : (10 : Int) ^ Int.toNat 30 = ((10 ^ 30 : Nat) : Int) := by decide +kernel
theorem le6 : 6 ≤ sizeLine := by decide
section
variable {P : Program} {w : World} {K : PySem.W.Frag} {mg : Str → Option Value} {base : Heap}
def spNumber : Sp := fun vs H Q _ => ∃ p : Addr, vs = [.ref p] ∧ Bag H p ∧ ∀ (n : Nat) H', n ≤ 10 ^ 30 → Bag H' p → But p H H' → Q (.int (n : Int)) H'
theorem ok_number (T : Txt K mg) : FnOk P w K mg base CX0 4 T.f_l_number T.d_l_number ["_law_bag_here"] spNumber := by
  have G_l_take := ok_take (P := P) (w := w) (base := base) T
  refine T.F_l_number.ok sc_l_number (fun vs H Q E h => ?_) (fun cdv A outer s H vs Q E hr h => ?_)
  · obtain ⟨p, rfl, _⟩ := h
    rfl
  · obtain ⟨p, rfl, hb, q⟩ := h
    refine ⟨_, (pss_cons (ps_set (i := 1) sc_l_number.nd rfl (.inl rfl) (pe_op op_shlW pe_int (pe_call G_l_take (hr.mono (by omega)) rfl T.g_l_take T.F_l_take.kp T.b_l_take .nil pass0 (pa_cons (pv 0) (pa_cons pe_int pa_nil)))))
      (pss_cons (ps_set (i := 2) sc_l_number.nd rfl (.inl rfl) (pe_lst (pa_cons (pe_call G_l_take (hr.mono (by omega)) rfl T.g_l_take T.F_l_take.kp T.b_l_take .nil pass0 (pa_cons (pv 0) (pa_cons pe_int pa_nil))) (pa_cons (pe_call G_l_take (hr.mono (by omega)) rfl T.g_l_take T.F_l_take.kp T.b_l_take .nil pass0 (pa_cons (pv 0) (pa_cons (pe_op op_pow pe_int pe_int) pa_nil))) (pa_cons (pv 1) (pa_cons (pe_op op_sub (pv 1) pe_int) (pa_cons (pe_op op_add (pv 1) pe_int) (pa_cons (pe_op op_pow pe_int pe_int) pa_nil))))))))
      (pss_one (ps_ret (pe_ix (r := rIxL K) ix_list (pv 2) (pe_call G_l_take (hr.mono (by omega)) rfl T.g_l_take T.F_l_take.kp T.b_l_take .nil pass0 (pa_cons (pv 0) (pa_cons pe_int pa_nil))) (fun _ _ => rfl)))))), ?_⟩
    refine ⟨_, rfl, p, _, rfl, hb, by decide, by decide, fun r H1 r0 r1 b1 k1 => ?_⟩
    obtain ⟨r, rfl⟩ := Int.eq_ofNat_of_zero_le r0
    refine ⟨_, _, rfl, rfl, shl_ok (n := 1) (by decide) (by omega), ?_⟩
    have e1 : (1 : Int) * 2 ^ ((r : Int)).toNat = ((2 ^ r : Nat) : Int) := by
      rw [Int.one_mul, Int.toNat_natCast, pow_nat]
    have hp := Nat.two_pow_pos r
    have hp2 : 2 ^ r ≤ 2 ^ 98 := Nat.pow_le_pow_right (by decide) (by omega)
    have e98 : (2 : Nat) ^ 98 < 10 ^ 30 := by decide +kernel
    refine ⟨_, rfl, p, _, rfl, b1, by decide, by decide, fun a H2 a0 a1 b2 k2 => ?_⟩
    refine ⟨_, rfl, _, _, rfl, rfl, ⟨by decide, by decide, by decide⟩, p, _, rfl, b2, by rw [p10]; decide +kernel, by rw [p10]; decide +kernel, fun c H3 c0 c1 b3 k3 => ?_⟩
    refine ⟨_, rfl, _, rfl, _, _, rfl, rfl, _, rfl, _, _, rfl, rfl, _, _, rfl, rfl, ⟨by decide, by decide, by decide⟩, le6, fun o no => ?_⟩
    have b4 := bag_put (o := .lst [V.int a, V.int c, V.int (1 * 2 ^ ((r : Int)).toNat), V.int (1 * 2 ^ ((r : Int)).toNat - 1), V.int (1 * 2 ^ ((r : Int)).toNat + 1), V.int ((10 : Int) ^ Int.toNat 30)]) b3 no
    refine ⟨_, rfl, _, rfl, p, _, rfl, b4, by decide, by decide, fun x H5 x0 x1 b5 k5 => ?_⟩
    have k3' : But p H H3 := but_trans k1 (but_trans k2 k3)
    have k4 : But p H H5 := but_trans (but_put k3' no) k5
    have eo := k5 o _ upd_same (bag_ne b3 no)
    obtain ⟨x, rfl⟩ := Int.eq_ofNat_of_zero_le x0
    rw [p10] at c1
    have fin : ∀ (v : Int), 0 ≤ v → v ≤ ((10 ^ 30 : Nat) : Int) → Q (.int v) H5 := fun v v0 v1 => by
      obtain ⟨v, rfl⟩ := Int.eq_ofNat_of_zero_le v0
      exact q v H5 (by omega) b5 k4
    have hx : x < 6 := by omega
    match x, hx with
    | 0, _ => exact ⟨o, _, _, _, rfl, rfl, .inl (.inl eo), atI_nat (j := 0) rfl, fin _ a0 (by omega)⟩
    | 1, _ => exact ⟨o, _, _, _, rfl, rfl, .inl (.inl eo), atI_nat (j := 1) rfl, fin _ c0 (by omega)⟩
    | 2, _ => exact ⟨o, _, _, _, rfl, rfl, .inl (.inl eo), atI_nat (j := 2) rfl, fin _ (by rw [e1]; omega) (by rw [e1]; omega)⟩
    | 3, _ => exact ⟨o, _, _, _, rfl, rfl, .inl (.inl eo), atI_nat (j := 3) rfl, fin _ (by rw [e1]; omega) (by rw [e1]; omega)⟩
    | 4, _ => exact ⟨o, _, _, _, rfl, rfl, .inl (.inl eo), atI_nat (j := 4) rfl, fin _ (by rw [e1]; omega) (by rw [e1]; omega)⟩
    | 5, _ => exact ⟨o, _, _, _, rfl, rfl, .inl (.inl eo), atI_nat (j := 5) rfl, fin _ (by rw [p10]; omega) (by rw [p10]; omega)⟩
    | x + 6, hx => exact absurd hx (by omega)
theorem toI_sum (l : List Nat) : (toI l).sum = ((l.sum : Nat) : Int) := by
  induction l with
  | nil => rfl
  | cons x l ih =>
    show (x : Int) + (toI l).sum = _
    rw [ih, List.sum_cons]
    rfl
def spLaw (K : PySem.W.Frag) : Sp := fun vs H Q _ => ∃ (a : Addr) (ns : List Int), vs = [.ref a] ∧ SqL K H a (ns.map V.int) ∧ ns.length ≤ 63 ∧ ∀ H', Q (.bl true) H'
theorem ok_law (T : Txt K mg) {f : Addr} {fd : FuncData} (F : Fun K "law" "law" s_law f fd) : FnOk P w K mg base CX0 7 f fd ["_law_script"] (spLaw K) := by
  have G_l_take := ok_take (P := P) (w := w) (base := base) T
  have G_l_bag := ok_bag (P := P) (w := w) (base := base) T
  have G_l_number := ok_number (P := P) (w := w) (base := base) T
  have G_l_sizes_right := ok_right (P := P) (w := w) (base := base) T
  have G_l_total := ok_tot2 (P := P) (w := w) (base := base) T
  have G_l_lowest := ok_low (P := P) (w := w) (base := base) T
  have G_total_built := ok_total (P := P) (w := w) (base := base) T
  have KB_total_built := kb_one (n := "many") T.F_total_built fun _ _ _ _ _ _ _ => rfl
  refine F.ok sc_law (fun vs H Q E h => ?_) (fun cdv A outer s H vs Q E hr h => ?_)
  · obtain ⟨a, ns, rfl, _⟩ := h
    rfl
  · obtain ⟨a, ns, rfl, hS, hlen, q⟩ := h
    refine ⟨_, (pss_cons (ps_for PassesOwn.never rfl (pi_range1 (by rfl) T.z_range (pa_cons (pe_op op_add pe_int (pe_callB (call_min2 rfl) (by rfl) T.z_min (by decide +kernel) (pa_cons pe_int (pa_cons (pe_callB call_len_seq (by rfl) T.z_len (by decide +kernel) (pa_cons (pv 0) pa_nil)) pa_nil)))) pa_nil)) (pg_name (i := 1) sc_law.nd rfl (.inl rfl)) (pss_cons (ps_set (i := 2) sc_law.nd rfl (.inl rfl) (pe_call G_l_bag (hr.mono (by omega)) rfl T.g_l_bag T.F_l_bag.kp T.b_l_bag .nil pass0 (pa_cons (pv 0) (pa_cons (pv 1) pa_nil))))
        (pss_cons (ps_par (i := 3) (j := 4) (by rfl) sc_law.nd rfl rfl (by decide) rfl rfl (pa_cons (pe_call G_l_number (hr.mono (by omega)) rfl T.g_l_number T.F_l_number.kp T.b_l_number .nil pass0 (pa_cons (pv 2) pa_nil)) (pa_cons (pe_call G_l_take (hr.mono (by omega)) rfl T.g_l_take T.F_l_take.kp T.b_l_take .nil pass0 (pa_cons (pv 2) (pa_cons pe_int pa_nil))) pa_nil)) (by rfl))
        (pss_cons (ps_for PassesOwn.never rfl (pi_list (pe_lst (pa_cons (pv 3) (pa_cons (pv 4) (pa_cons pe_int pa_nil))))) (pg_name (i := 5) sc_law.nd rfl (.inl rfl)) (pss_cons (ps_set (i := 6) sc_law.nd rfl (.inl rfl) (pe_call G_total_built (hr.mono (by omega)) rfl T.g_total_built T.F_total_built.kp T.b_total_built .nil pass0 (pa_cons (pv 5) pa_nil)))
          (pss_one (ps_if (PW.pt (pw_or (pt_not (pt_val (pe_call G_l_sizes_right (hr.mono (by omega)) rfl T.g_l_sizes_right T.F_l_sizes_right.kp T.b_l_sizes_right .nil pass0 (pa_cons (pv 5) pa_nil)))) (pw_or (pt_cmpR op_ne (pv 6) (pe_call G_l_total (hr.mono (by omega)) rfl T.g_l_total T.F_l_total.kp T.b_l_total .nil pass0 (pa_cons (pv 5) pa_nil)) (nomark _)) (pw_or1 (pt_val (pe_callB call_isi (by rfl) T.z_isinstance (by decide +kernel) (pa_cons (pv 6) (pa_cons (pe_bltn (v := .ty "bool") (by rfl) T.z_bool (by decide +kernel) rfl) pa_nil)))))))) (pss_one (ps_ret pe_bl)) pss_nil))))
        (pss_one (ps_if (pt_cmpR op_ne (pe_kw0 G_total_built (hr.mono (by omega)) rfl T.g_total_built T.F_total_built.kp KB_total_built pass0 (pk_cons (pv 4) pk_nil)) (pe_callB (cr_sum rfl) (by rfl) T.z_sum (by decide +kernel) (pa_cons (pe_lc (own := [("_law_one", 5)]) (g := gName 5) (tt := tYes) rfl sc_law.nd (pi_range2 (by rfl) T.z_range (pa_cons pe_int (pa_cons (pe_op op_add (pv 4) pe_int) pa_nil))) (blkOk_by (N := n_law) (sc := defScope s_law) (by decide +kernel)) (fun _ _ _ _ _ => (pg_name (i := 5) sc_law.nd rfl (.inl rfl))) (fun _ _ _ _ _ => pts_nil) (fun _ _ _ _ _ => (pe_call G_l_lowest (hr.mono (by omega)) rfl T.g_l_lowest T.F_l_lowest.kp T.b_l_lowest .nil pass0 (pa_cons (pv 5) pa_nil)))) pa_nil)) (nomark _)) (pss_one (ps_ret pe_bl)) pss_nil))))))
      (pss_one (ps_ret pe_bl))), ?_⟩
    refine ⟨_, rfl, a, _, rfl, .inl hS, 5, _, rfl, _, _, rfl, rfl, _, rfl, ?_, ?_, ?_⟩
    · split <;> omega
    · split <;> omega
    generalize hN : ((1 : Int) + (if (((ns.map V.int).length : Nat) : Int) < 5 then (((ns.map V.int).length : Nat) : Int) else 5)).toNat = N
    have hN2 : N ≤ 6 := by
      rw [← hN]
      split <;> omega
    refine for_range (fun i σ H' => Same H H' ∧ ∃ y1 y2 y3 y4 y5 y6, σ = [some (.ref a), y1, y2, y3, y4, y5, y6]) ⟨Same.refl _, _, _, _, _, _, _, rfl⟩ ?_ ?_
    · rintro i σ H' hi ⟨s1, y1, y2, y3, y4, y5, y6, rfl⟩
      refine ⟨_, rfl, _, rfl, a, ns, i, by rw [Int.zero_add]; rfl, s1.seq hS, by omega, fun p H2 np s2 b2 => ?_⟩
      refine ⟨_, rfl, p, rfl, b2, fun n H3 hn b3 k3 => ?_⟩
      refine ⟨_, rfl, p, _, rfl, b3, by decide, by decide, fun m H4 m0 m1 b4 k4 => ?_⟩
      obtain ⟨m, rfl⟩ := Int.eq_ofNat_of_zero_le m0
      have hm : m ≤ 10 ^ 30 := by omega
      have np1 := s1.free np
      have s4 : Same H H4 := fun c o e => k4 c o (k3 c o (s2 c o (s1 c o e)) (ne_of_none e np1)) (ne_of_none e np1)
      refine ⟨_, _, rfl, ?_⟩
      -- the three numbers
      refine ⟨_, rfl, _, rfl, le3, fun o no => ?_⟩
      have s5 : Same H (upd H4 o (.lst [V.int (n : Int), V.int (m : Int), V.int 0])) := same_put s4 (s4.free no)
      refine ⟨o, rfl, ⟨_, .inl (.inl upd_same)⟩, for_list (xs := [V.int (n : Int), V.int (m : Int), V.int 0]) (fun j σ H' => Same (upd H4 o (.lst [V.int (n : Int), V.int (m : Int), V.int 0])) H' ∧ ∃ y5 y6, σ = [some (.ref a), some (.int (0 + (i : Int))), some (.ref p), some (.int (n : Int)), some (.int (m : Int)), y5, y6])
        ⟨Same.refl _, _, _, rfl⟩ (fun j σ H' _ h => .inl (.inl (h.1 _ _ upd_same))) ?_ ?_⟩
      · rintro j x σ H5 hx ⟨s6, z5, z6, rfl⟩
        have hx2 : ∃ v : Nat, x = .int (v : Int) ∧ v ≤ 10 ^ 30 := by
          match j, hx with
          | 0, hx => exact ⟨n, (Option.some.inj hx).symm, hn⟩
          | 1, hx => exact ⟨m, (Option.some.inj hx).symm, hm⟩
          | 2, hx => exact ⟨0, (Option.some.inj hx).symm, by omega⟩
        obtain ⟨v, rfl, hv⟩ := hx2
        refine ⟨_, rfl, v, rfl, hv, ?_⟩
        refine ⟨_, rfl, v, rfl, hv, fun H6 s7 => ⟨true, rfl, iteF ?_⟩⟩
        refine ⟨_, rfl, _, rfl, v, rfl, hv, fun H7 s8 => ?_⟩
        refine ⟨rfl, _, rfl, ifF (by simp) ?_⟩
        refine ⟨_, rfl, .int _, .ty "bool", .type "int", .type "bool", false, rfl, .ty _, .base (.int _), kit_ty (by decide +kernel), false, rfl, iteF ?_⟩
        exact ⟨(s6.trans s7).trans s8, _, _, rfl⟩
      · rintro σ H5 ⟨s6, z5, z6, rfl⟩
        have s7 := s5.trans s6
        refine ⟨_, rfl, rfl, rfl, m, rfl, hm, ?_⟩
        refine ⟨_, rfl, _, _, rfl, rfl, _, _, rfl, ⟨by decide, by decide, by omega, by omega⟩, fun D nD => ?_⟩
        rw [show ((m : Int) + 1 - 1).toNat = m by omega]
        refine lc_range (lo := 1) (n := m) (fun i H' => Same H5 H' ∧ H' D = some (.lst (toV ((List.range i).map fun i => low (i + 1))))) ⟨same_new nD, upd_same⟩ ?_ ?_
        · rintro i H6 hi2 ⟨s8, eD⟩
          refine ⟨rfl, ?_⟩
          refine ⟨_, rfl, i + 1, by rw [Int.add_comm]; rfl, by omega, _, eD, ?_, same_put s8 nD, ?_⟩
          · unfold toV toI
            rw [List.length_map, List.length_map, List.length_map, List.length_range]
            exact small1000 (by omega)
          · rw [upd_same, List.range_succ]
            unfold toV toI
            rw [List.map_append, List.map_append, List.map_append]
            rfl
        · rintro H6 ⟨s8, eD⟩
          refine ⟨D, _, rfl, .inl (.inl eD), rfl, _, rfl, ifF ?_ ?_⟩
          · rw [toI_sum, ← tot_sum]
            simp
          · exact ⟨s7.trans s8, _, _, _, _, _, _, rfl⟩
    · rintro σ H' _
      exact q _
end
end Ob

set_option Elab.async false
set_option linter.all false
set_option maxRecDepth 100000
set_option maxHeartbeats 4000000
namespace Ob
open PySem PySem.Spec PyProof.Rows L2
theorem all_mk {l : PySem.W.OpenLaw} {w : World} {K : PySem.W.Frag} {h : Heap} {mg : Str → Option Value} {fa f0 f1 f2 f3 f4 f5 f6 f7 f8 f9 f10 f11 f12 : Addr} (X : K.In h) (G : h.Ns mainGlobals mg) (hfa : mg "law" = some (.ref fa))
    {od0 an0 od1 an1 od2 an2 od3 an3 od4 an4 od5 an5 od6 an6 od7 an7 od8 an8 od9 an9 od10 an10 od11 an11 od12 an12 : Option Addr} {sl0 sl1 sl2 sl3 sl4 sl5 sl6 sl7 sl8 sl9 sl10 sl11 sl12 : Array (Option Value)} {oc0 kV0 dc0 pm0 cd0 ct0 oc1 kV1 dc1 pm1 cd1 ct1 oc2 kV2 dc2 pm2 cd2 ct2 oc3 kV3 dc3 pm3 cd3 ct3 oc4 kV4 dc4 pm4 cd4 ct4 oc5 kV5 dc5 pm5 cd5 ct5 oc6 kV6 dc6 pm6 cd6 ct6 oc7 kV7 dc7 pm7 cd7 ct7 oc8 kV8 dc8 pm8 cd8 ct8 oc9 kV9 dc9 pm9 cd9 ct9 oc10 kV10 dc10 pm10 cd10 ct10 oc11 kV11 dc11 pm11 cd11 ct11 oc12 kV12 dc12 pm12 cd12 ct12 : Value} {t_GREATEST : Tok}
    (a0 : PySem.W.nsIn K mainGlobals "block_sizes" = some (some (.ref f0))) (l0 : K.lookup f0 = some ⟨oc0, od0, .func (PySem.W.fnOf "block_sizes" "block_sizes" (defArgs s_block_sizes) (defBody s_block_sizes) (defScope s_block_sizes) .none kV0 dc0 pm0 an0 cd0 ct0), sl0⟩) (c0 : PySem.W.codeIn K cd0 "block_sizes" = true) (k0 : PySem.W.keepIn K (.ref f0) = true)
    (a1 : PySem.W.nsIn K mainGlobals "total_built" = some (some (.ref f1))) (l1 : K.lookup f1 = some ⟨oc1, od1, .func (PySem.W.fnOf "total_built" "total_built" (defArgs s_total_built) (defBody s_total_built) (defScope s_total_built) .none kV1 dc1 pm1 an1 cd1 ct1), sl1⟩) (c1 : PySem.W.codeIn K cd1 "total_built" = true) (k1 : PySem.W.keepIn K (.ref f1) = true)
    (a2 : PySem.W.nsIn K mainGlobals "greatest_power" = some (some (.ref f2))) (l2 : K.lookup f2 = some ⟨oc2, od2, .func (PySem.W.fnOf "greatest_power" "greatest_power" (defArgs s_greatest_power) (defBody s_greatest_power) (defScope s_greatest_power) .none kV2 dc2 pm2 an2 cd2 ct2), sl2⟩) (c2 : PySem.W.codeIn K cd2 "greatest_power" = true) (k2 : PySem.W.keepIn K (.ref f2) = true)
    (a3 : PySem.W.nsIn K mainGlobals "is_integer" = some (some (.ref f3))) (l3 : K.lookup f3 = some ⟨oc3, od3, .func (PySem.W.fnOf "is_integer" "is_integer" (defArgs s_is_integer) (defBody s_is_integer) (defScope s_is_integer) .none kV3 dc3 pm3 an3 cd3 ct3), sl3⟩) (c3 : PySem.W.codeIn K cd3 "is_integer" = true) (k3 : PySem.W.keepIn K (.ref f3) = true)
    (a4 : PySem.W.nsIn K mainGlobals "check_integer" = some (some (.ref f4))) (l4 : K.lookup f4 = some ⟨oc4, od4, .func (PySem.W.fnOf "check_integer" "check_integer" (defArgs s_check_integer) (defBody s_check_integer) (defScope s_check_integer) .none kV4 dc4 pm4 an4 cd4 ct4), sl4⟩) (c4 : PySem.W.codeIn K cd4 "check_integer" = true) (k4 : PySem.W.keepIn K (.ref f4) = true)
    (a5 : PySem.W.nsIn K mainGlobals "check_number" = some (some (.ref f5))) (l5 : K.lookup f5 = some ⟨oc5, od5, .func (PySem.W.fnOf "check_number" "check_number" (defArgs s_check_number) (defBody s_check_number) (defScope s_check_number) .none kV5 dc5 pm5 an5 cd5 ct5), sl5⟩) (c5 : PySem.W.codeIn K cd5 "check_number" = true) (k5 : PySem.W.keepIn K (.ref f5) = true)
    (a6 : PySem.W.nsIn K mainGlobals "_law_bag" = some (some (.ref f6))) (l6 : K.lookup f6 = some ⟨oc6, od6, .func (PySem.W.fnOf "_law_bag" "_law_bag" (defArgs s_l_bag) (defBody s_l_bag) (defScope s_l_bag) .none kV6 dc6 pm6 an6 cd6 ct6), sl6⟩) (c6 : PySem.W.codeIn K cd6 "_law_bag" = true) (k6 : PySem.W.keepIn K (.ref f6) = true)
    (a7 : PySem.W.nsIn K mainGlobals "_law_take" = some (some (.ref f7))) (l7 : K.lookup f7 = some ⟨oc7, od7, .func (PySem.W.fnOf "_law_take" "_law_take" (defArgs s_l_take) (defBody s_l_take) (defScope s_l_take) .none kV7 dc7 pm7 an7 cd7 ct7), sl7⟩) (c7 : PySem.W.codeIn K cd7 "_law_take" = true) (k7 : PySem.W.keepIn K (.ref f7) = true)
    (a8 : PySem.W.nsIn K mainGlobals "_law_lowest" = some (some (.ref f8))) (l8 : K.lookup f8 = some ⟨oc8, od8, .func (PySem.W.fnOf "_law_lowest" "_law_lowest" (defArgs s_l_lowest) (defBody s_l_lowest) (defScope s_l_lowest) .none kV8 dc8 pm8 an8 cd8 ct8), sl8⟩) (c8 : PySem.W.codeIn K cd8 "_law_lowest" = true) (k8 : PySem.W.keepIn K (.ref f8) = true)
    (a9 : PySem.W.nsIn K mainGlobals "_law_total" = some (some (.ref f9))) (l9 : K.lookup f9 = some ⟨oc9, od9, .func (PySem.W.fnOf "_law_total" "_law_total" (defArgs s_l_total) (defBody s_l_total) (defScope s_l_total) .none kV9 dc9 pm9 an9 cd9 ct9), sl9⟩) (c9 : PySem.W.codeIn K cd9 "_law_total" = true) (k9 : PySem.W.keepIn K (.ref f9) = true)
    (a10 : PySem.W.nsIn K mainGlobals "_law_sizes_right" = some (some (.ref f10))) (l10 : K.lookup f10 = some ⟨oc10, od10, .func (PySem.W.fnOf "_law_sizes_right" "_law_sizes_right" (defArgs s_l_sizes_right) (defBody s_l_sizes_right) (defScope s_l_sizes_right) .none kV10 dc10 pm10 an10 cd10 ct10), sl10⟩) (c10 : PySem.W.codeIn K cd10 "_law_sizes_right" = true) (k10 : PySem.W.keepIn K (.ref f10) = true)
    (a11 : PySem.W.nsIn K mainGlobals "_law_number" = some (some (.ref f11))) (l11 : K.lookup f11 = some ⟨oc11, od11, .func (PySem.W.fnOf "_law_number" "_law_number" (defArgs s_l_number) (defBody s_l_number) (defScope s_l_number) .none kV11 dc11 pm11 an11 cd11 ct11), sl11⟩) (c11 : PySem.W.codeIn K cd11 "_law_number" = true) (k11 : PySem.W.keepIn K (.ref f11) = true)
    (a12 : PySem.W.nsIn K mainGlobals "law" = some (some (.ref f12))) (l12 : K.lookup f12 = some ⟨oc12, od12, .func (PySem.W.fnOf "law" "law" (defArgs s_law) (defBody s_law) (defScope s_law) .none kV12 dc12 pm12 an12 cd12 ct12), sl12⟩) (c12 : PySem.W.codeIn K cd12 "law" = true) (k12 : PySem.W.keepIn K (.ref f12) = true)
    (z_abs : PySem.W.nsIn K mainGlobals "abs" = some none)
    (z_bool : PySem.W.nsIn K mainGlobals "bool" = some none)
    (z_int : PySem.W.nsIn K mainGlobals "int" = some none)
    (z_isinstance : PySem.W.nsIn K mainGlobals "isinstance" = some none)
    (z_len : PySem.W.nsIn K mainGlobals "len" = some none)
    (z_list : PySem.W.nsIn K mainGlobals "list" = some none)
    (z_min : PySem.W.nsIn K mainGlobals "min" = some none)
    (z_range : PySem.W.nsIn K mainGlobals "range" = some none)
    (z_sum : PySem.W.nsIn K mainGlobals "sum" = some none)
    (v_GREATEST : PySem.W.nsIn K mainGlobals "GREATEST" = some (some (.int (10 ^ (30 : Nat)) t_GREATEST))) :
    ∃ fd : FuncData, (∀ (s : Shared) (v : Value), BindsTo s fd ⟨[v], []⟩ [("_law_script", v)]) ∧ ∀ base : Heap, K.In base → base.Ns mainGlobals mg → FnOk l.prog w K mg base CX0 7 fa fd ["_law_script"] (spLaw K) := by
  have e := hfa.symm.trans (PySem.W.mg_of X G a12)
  cases e
  have F0 := fun_mk (st := s_block_sizes) l0 c0 k0
  have F1 := fun_mk (st := s_total_built) l1 c1 k1
  have F2 := fun_mk (st := s_greatest_power) l2 c2 k2
  have F3 := fun_mk (st := s_is_integer) l3 c3 k3
  have F4 := fun_mk (st := s_check_integer) l4 c4 k4
  have F5 := fun_mk (st := s_check_number) l5 c5 k5
  have F6 := fun_mk (st := s_l_bag) l6 c6 k6
  have F7 := fun_mk (st := s_l_take) l7 c7 k7
  have F8 := fun_mk (st := s_l_lowest) l8 c8 k8
  have F9 := fun_mk (st := s_l_total) l9 c9 k9
  have F10 := fun_mk (st := s_l_sizes_right) l10 c10 k10
  have F11 := fun_mk (st := s_l_number) l11 c11 k11
  have F12 := fun_mk (st := s_law) l12 c12 k12
  let T : Txt K mg := {
    f_block_sizes := f0,
    d_block_sizes := _,
    F_block_sizes := F0,
    b_block_sizes := (F0.binds (ps := ["many"]) fun _ _ _ _ _ _ us hl => match us, hl with | [_], _ => rfl),
    g_block_sizes := PySem.W.mg_of X G a0,
    f_total_built := f1,
    d_total_built := _,
    F_total_built := F1,
    b_total_built := (F1.binds (ps := ["many"]) fun _ _ _ _ _ _ us hl => match us, hl with | [_], _ => rfl),
    g_total_built := PySem.W.mg_of X G a1,
    f_greatest_power := f2,
    d_greatest_power := _,
    F_greatest_power := F2,
    b_greatest_power := (F2.binds (ps := ["number"]) fun _ _ _ _ _ _ us hl => match us, hl with | [_], _ => rfl),
    g_greatest_power := PySem.W.mg_of X G a2,
    f_is_integer := f3,
    d_is_integer := _,
    F_is_integer := F3,
    b_is_integer := (F3.binds (ps := ["value"]) fun _ _ _ _ _ _ us hl => match us, hl with | [_], _ => rfl),
    g_is_integer := PySem.W.mg_of X G a3,
    f_check_integer := f4,
    d_check_integer := _,
    F_check_integer := F4,
    b_check_integer := (F4.binds (ps := ["value"]) fun _ _ _ _ _ _ us hl => match us, hl with | [_], _ => rfl),
    g_check_integer := PySem.W.mg_of X G a4,
    f_check_number := f5,
    d_check_number := _,
    F_check_number := F5,
    b_check_number := (F5.binds (ps := ["value"]) fun _ _ _ _ _ _ us hl => match us, hl with | [_], _ => rfl),
    g_check_number := PySem.W.mg_of X G a5,
    f_l_bag := f6,
    d_l_bag := _,
    F_l_bag := F6,
    b_l_bag := (F6.binds (ps := ["_law_script", "_law_at"]) fun _ _ _ _ _ _ us hl => match us, hl with | [_, _], _ => rfl),
    g_l_bag := PySem.W.mg_of X G a6,
    f_l_take := f7,
    d_l_take := _,
    F_l_take := F7,
    b_l_take := (F7.binds (ps := ["_law_bag_here", "_law_count"]) fun _ _ _ _ _ _ us hl => match us, hl with | [_, _], _ => rfl),
    g_l_take := PySem.W.mg_of X G a7,
    f_l_lowest := f8,
    d_l_lowest := _,
    F_l_lowest := F8,
    b_l_lowest := (F8.binds (ps := ["_law_number_here"]) fun _ _ _ _ _ _ us hl => match us, hl with | [_], _ => rfl),
    g_l_lowest := PySem.W.mg_of X G a8,
    f_l_total := f9,
    d_l_total := _,
    F_l_total := F9,
    b_l_total := (F9.binds (ps := ["_law_number_here"]) fun _ _ _ _ _ _ us hl => match us, hl with | [_], _ => rfl),
    g_l_total := PySem.W.mg_of X G a9,
    f_l_sizes_right := f10,
    d_l_sizes_right := _,
    F_l_sizes_right := F10,
    b_l_sizes_right := (F10.binds (ps := ["_law_number_here"]) fun _ _ _ _ _ _ us hl => match us, hl with | [_], _ => rfl),
    g_l_sizes_right := PySem.W.mg_of X G a10,
    f_l_number := f11,
    d_l_number := _,
    F_l_number := F11,
    b_l_number := (F11.binds (ps := ["_law_bag_here"]) fun _ _ _ _ _ _ us hl => match us, hl with | [_], _ => rfl),
    g_l_number := PySem.W.mg_of X G a11,
    z_abs := PySem.W.mg_none_of X G z_abs,
    z_bool := PySem.W.mg_none_of X G z_bool,
    z_int := PySem.W.mg_none_of X G z_int,
    z_isinstance := PySem.W.mg_none_of X G z_isinstance,
    z_len := PySem.W.mg_none_of X G z_len,
    z_list := PySem.W.mg_none_of X G z_list,
    z_min := PySem.W.mg_none_of X G z_min,
    z_range := PySem.W.mg_none_of X G z_range,
    z_sum := PySem.W.mg_none_of X G z_sum,
    u_GREATEST := _,
    v_GREATEST := PySem.W.mg_of X G v_GREATEST,
    r_GREATEST := ⟨_, rfl⟩ }
  exact ⟨PySem.W.fnOf "law" "law" (defArgs s_law) (defBody s_law) (defScope s_law) .none kV12 dc12 pm12 an12 cd12 ct12, fun s v => .of_eq rfl, fun base _ _ => ok_law T F12⟩
end Ob
open PySem PySem.W PyProof.Rows
set_option maxHeartbeats 0 in
theorem PySem.Challenge.cw_oncebuilt_k02_block_sizes_and_sums_holds : PySem.Challenge.rw_oncebuilt_k02_block_sizes_and_sums.Holds := by
  w_on; o_law; k_head; (case hw => w_witness2)
  k_fill
  refine L2.walk_of (l := PySem.Challenge.rw_oncebuilt_k02_block_sizes_and_sums) (n := 63) (k := 7) (x := "_law_script") (CX := fun _ => L2.CX0) (sp := fun w => Ob.spLaw _) rfl (by decide) rfl ⟨rfl, by decide, by decide⟩ (fun w h Y => PySem.W.kIn_of Y) ?F (fun _ _ a ns hl _ hS => ⟨a, ns, rfl, hS, hl, fun _ => rfl⟩) (fun _ _ _ _ _ h => h)
  case F =>
    intro w mg fa h KX G hmg
    refine' Ob.all_mk KX G hmg ?a0 ?l0 ?c0 ?k0 ?a1 ?l1 ?c1 ?k1 ?a2 ?l2 ?c2 ?k2 ?a3 ?l3 ?c3 ?k3 ?a4 ?l4 ?c4 ?k4 ?a5 ?l5 ?c5 ?k5 ?a6 ?l6 ?c6 ?k6 ?a7 ?l7 ?c7 ?k7 ?a8 ?l8 ?c8 ?k8 ?a9 ?l9 ?c9 ?k9 ?a10 ?l10 ?c10 ?k10 ?a11 ?l11 ?c11 ?k11 ?a12 ?l12 ?c12 ?k12 ?z_abs ?z_bool ?z_int ?z_isinstance ?z_len ?z_list ?z_min ?z_range ?z_sum ?v_GREATEST
    (case a0 => k_is); (case l0 => k_is); (case c0 => k_is); (case k0 => k_is); (case a1 => k_is); (case l1 => k_is); (case c1 => k_is); (case k1 => k_is); (case a2 => k_is); (case l2 => k_is); (case c2 => k_is); (case k2 => k_is); (case a3 => k_is); (case l3 => k_is); (case c3 => k_is); (case k3 => k_is); (case a4 => k_is); (case l4 => k_is); (case c4 => k_is); (case k4 => k_is); (case a5 => k_is); (case l5 => k_is); (case c5 => k_is); (case k5 => k_is); (case a6 => k_is); (case l6 => k_is); (case c6 => k_is); (case k6 => k_is); (case a7 => k_is); (case l7 => k_is); (case c7 => k_is); (case k7 => k_is); (case a8 => k_is); (case l8 => k_is); (case c8 => k_is); (case k8 => k_is); (case a9 => k_is); (case l9 => k_is); (case c9 => k_is); (case k9 => k_is); (case a10 => k_is); (case l10 => k_is); (case c10 => k_is); (case k10 => k_is); (case a11 => k_is); (case l11 => k_is); (case c11 => k_is); (case k11 => k_is); (case a12 => k_is); (case l12 => k_is); (case c12 => k_is); (case k12 => k_is); (case z_abs => k_is); (case z_bool => k_is); (case z_int => k_is); (case z_isinstance => k_is); (case z_len => k_is); (case z_list => k_is); (case z_min => k_is); (case z_range => k_is); (case z_sum => k_is); (case v_GREATEST => k_is)

