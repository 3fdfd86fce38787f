import PyProof.Rows.All
import Wide.All
import OpenK.AllK
import Wide.FinOn
import HandS.ForMost
import HandS.Wide
import HandS.WideBits
import HandS.IsInst
import HandS.Codes
import HandS.Defaults
import PySem.Challenge.RW_oncebuilt_k03_pieces
set_option Elab.async false
set_option linter.all false
set_option maxRecDepth 100000
set_option maxHeartbeats 4000000
namespace Ob
open PySem PySem.Spec PyProof.Rows L2
/-! ### the text -/
def topS (i : Nat) : Stmt := PySem.Challenge.pw_oncebuilt_k03_pieces.main.body.getD i (.Pass ⟨0, 0, 0, 0⟩)
abbrev s_pieces : Stmt := topS 5
abbrev n_pieces : List Str := ["begin", "end", "found", "first", "size"]
theorem sc_pieces : FnScope n_pieces ["begin", "end"] (defScope s_pieces) := ⟨rfl, rfl, rfl, by decide +kernel, rfl, by decide +kernel, by decide +kernel⟩
abbrev s_piece_size : Stmt := topS 6
abbrev n_piece_size : List Str := ["first", "room", "fitting"]
theorem sc_piece_size : FnScope n_piece_size ["first", "room"] (defScope s_piece_size) := ⟨rfl, rfl, rfl, by decide +kernel, rfl, by decide +kernel, by decide +kernel⟩
abbrev s_lowest_power : Stmt := topS 7
abbrev n_lowest_power : List Str := ["number"]
theorem sc_lowest_power : FnScope n_lowest_power ["number"] (defScope s_lowest_power) := ⟨rfl, rfl, rfl, by decide +kernel, rfl, by decide +kernel, by decide +kernel⟩
abbrev s_greatest_power : Stmt := topS 8
abbrev n_greatest_power : List Str := ["number"]
theorem sc_greatest_power : FnScope n_greatest_power ["number"] (defScope s_greatest_power) := ⟨rfl, rfl, rfl, by decide +kernel, rfl, by decide +kernel, by decide +kernel⟩
abbrev s_is_integer : Stmt := topS 9
abbrev n_is_integer : List Str := ["value"]
theorem sc_is_integer : FnScope n_is_integer ["value"] (defScope s_is_integer) := ⟨rfl, rfl, rfl, by decide +kernel, rfl, by decide +kernel, by decide +kernel⟩
abbrev s_check_integer : Stmt := topS 10
abbrev n_check_integer : List Str := ["value"]
theorem sc_check_integer : FnScope n_check_integer ["value"] (defScope s_check_integer) := ⟨rfl, rfl, rfl, by decide +kernel, rfl, by decide +kernel, by decide +kernel⟩
abbrev s_check_number : Stmt := topS 11
abbrev n_check_number : List Str := ["value"]
theorem sc_check_number : FnScope n_check_number ["value"] (defScope s_check_number) := ⟨rfl, rfl, rfl, by decide +kernel, rfl, by decide +kernel, by decide +kernel⟩
abbrev s_l_bag : Stmt := topS 13
abbrev n_l_bag : List Str := ["_law_script", "_law_at", "_law_cell", "_law_great", "_law_primes"]
theorem sc_l_bag : FnScope n_l_bag ["_law_script", "_law_at"] (defScope s_l_bag) := ⟨rfl, rfl, rfl, by decide +kernel, rfl, by decide +kernel, by decide +kernel⟩
abbrev s_l_take : Stmt := topS 14
abbrev n_l_take : List Str := ["_law_bag_here", "_law_many", "_law_digit"]
theorem sc_l_take : FnScope n_l_take ["_law_bag_here", "_law_many"] (defScope s_l_take) := ⟨rfl, rfl, rfl, by decide +kernel, rfl, by decide +kernel, by decide +kernel⟩
abbrev s_l_is_piece : Stmt := topS 15
abbrev n_l_is_piece : List Str := ["_law_first", "_law_size"]
theorem sc_l_is_piece : FnScope n_l_is_piece ["_law_first", "_law_size"] (defScope s_l_is_piece) := ⟨rfl, rfl, rfl, by decide +kernel, rfl, by decide +kernel, by decide +kernel⟩
abbrev s_l_fewest : Stmt := topS 16
abbrev n_l_fewest : List Str := ["_law_low", "_law_high", "_law_counts", "_law_stop", "_law_some", "_law_size"]
theorem sc_l_fewest : FnScope n_l_fewest ["_law_low", "_law_high"] (defScope s_l_fewest) := ⟨rfl, rfl, rfl, by decide +kernel, rfl, by decide +kernel, by decide +kernel⟩
abbrev s_l_right : Stmt := topS 17
abbrev n_l_right : List Str := ["_law_low", "_law_high", "_law_found", "_law_at", "_law_k", "_law_first", "_law_size", "_law_due"]
theorem sc_l_right : FnScope n_l_right ["_law_low", "_law_high"] (defScope s_l_right) := ⟨rfl, rfl, rfl, by decide +kernel, rfl, by decide +kernel, by decide +kernel⟩
abbrev s_l_range : Stmt := topS 18
abbrev n_l_range : List Str := ["_law_bag_here", "_law_some", "_law_low", "_law_more"]
theorem sc_l_range : FnScope n_l_range ["_law_bag_here"] (defScope s_l_range) := ⟨rfl, rfl, rfl, by decide +kernel, rfl, by decide +kernel, by decide +kernel⟩
abbrev s_law : Stmt := topS 19
abbrev n_law : List Str := ["_law_script", "_law_k", "_law_bag_here", "_law_low", "_law_high", "_law_more"]
theorem sc_law : FnScope n_law ["_law_script"] (defScope s_law) := ⟨rfl, rfl, rfl, by decide +kernel, rfl, by decide +kernel, by decide +kernel⟩
structure Txt (K : PySem.W.Frag) (mg : Str → Option Value) where
  f_pieces : Addr
  d_pieces : FuncData
  F_pieces : Fun K "pieces" "pieces" s_pieces f_pieces d_pieces
  b_pieces : Binds K d_pieces ["begin", "end"] []
  g_pieces : mg "pieces" = some (.ref f_pieces)
  f_piece_size : Addr
  d_piece_size : FuncData
  F_piece_size : Fun K "piece_size" "piece_size" s_piece_size f_piece_size d_piece_size
  b_piece_size : Binds K d_piece_size ["first", "room"] []
  g_piece_size : mg "piece_size" = some (.ref f_piece_size)
  f_lowest_power : Addr
  d_lowest_power : FuncData
  F_lowest_power : Fun K "lowest_power" "lowest_power" s_lowest_power f_lowest_power d_lowest_power
  b_lowest_power : Binds K d_lowest_power ["number"] []
  g_lowest_power : mg "lowest_power" = some (.ref f_lowest_power)
  f_greatest_power : Addr
  d_greatest_power : FuncData
  F_greatest_power : Fun K "greatest_power" "greatest_power" s_greatest_power f_greatest_power d_greatest_power
  b_greatest_power : Binds K d_greatest_power ["number"] []
  g_greatest_power : mg "greatest_power" = some (.ref f_greatest_power)
  f_is_integer : Addr
  d_is_integer : FuncData
  F_is_integer : Fun K "is_integer" "is_integer" s_is_integer f_is_integer d_is_integer
  b_is_integer : Binds K d_is_integer ["value"] []
  g_is_integer : mg "is_integer" = some (.ref f_is_integer)
  f_check_integer : Addr
  d_check_integer : FuncData
  F_check_integer : Fun K "check_integer" "check_integer" s_check_integer f_check_integer d_check_integer
  b_check_integer : Binds K d_check_integer ["value"] []
  g_check_integer : mg "check_integer" = some (.ref f_check_integer)
  f_check_number : Addr
  d_check_number : FuncData
  F_check_number : Fun K "check_number" "check_number" s_check_number f_check_number d_check_number
  b_check_number : Binds K d_check_number ["value"] []
  g_check_number : mg "check_number" = some (.ref f_check_number)
  f_l_bag : Addr
  d_l_bag : FuncData
  F_l_bag : Fun K "_law_bag" "_law_bag" s_l_bag f_l_bag d_l_bag
  b_l_bag : Binds K d_l_bag ["_law_script", "_law_at"] []
  g_l_bag : mg "_law_bag" = some (.ref f_l_bag)
  f_l_take : Addr
  d_l_take : FuncData
  F_l_take : Fun K "_law_take" "_law_take" s_l_take f_l_take d_l_take
  b_l_take : Binds K d_l_take ["_law_bag_here", "_law_many"] []
  g_l_take : mg "_law_take" = some (.ref f_l_take)
  f_l_is_piece : Addr
  d_l_is_piece : FuncData
  F_l_is_piece : Fun K "_law_is_piece" "_law_is_piece" s_l_is_piece f_l_is_piece d_l_is_piece
  b_l_is_piece : Binds K d_l_is_piece ["_law_first", "_law_size"] []
  g_l_is_piece : mg "_law_is_piece" = some (.ref f_l_is_piece)
  f_l_fewest : Addr
  d_l_fewest : FuncData
  F_l_fewest : Fun K "_law_fewest" "_law_fewest" s_l_fewest f_l_fewest d_l_fewest
  b_l_fewest : Binds K d_l_fewest ["_law_low", "_law_high"] []
  g_l_fewest : mg "_law_fewest" = some (.ref f_l_fewest)
  f_l_right : Addr
  d_l_right : FuncData
  F_l_right : Fun K "_law_right" "_law_right" s_l_right f_l_right d_l_right
  b_l_right : Binds K d_l_right ["_law_low", "_law_high"] []
  g_l_right : mg "_law_right" = some (.ref f_l_right)
  f_l_range : Addr
  d_l_range : FuncData
  F_l_range : Fun K "_law_range" "_law_range" s_l_range f_l_range d_l_range
  b_l_range : Binds K d_l_range ["_law_bag_here"] []
  g_l_range : mg "_law_range" = some (.ref f_l_range)
  z_abs : mg "abs" = none
  z_bool : mg "bool" = none
  z_int : mg "int" = none
  z_isinstance : mg "isinstance" = none
  z_len : mg "len" = none
  z_list : mg "list" = none
  z_min : mg "min" = none
  z_range : mg "range" = none
  z_tuple : mg "tuple" = none
  u_GREATEST : Value
  v_GREATEST : mg "GREATEST" = some u_GREATEST
  r_GREATEST : RelV (V.int (10 ^ (30 : Nat))) u_GREATEST

/-! ### heaps -/
theorem same_put {H H1 : Hp} {p : Addr} {o : HO} (h : Same H H1) (n : H p = none) : Same H (upd H1 p o) := fun b u e => by
  rw [upd_ne (ne_of_none e n)]
  exact h b u e
theorem same_new {H : Hp} {p : Addr} {o : HO} (n : H p = none) : Same H (upd H p o) := same_put (Same.refl H) n
theorem same_no {H H1 : Hp} {p : Addr} (h : Same H H1) (n : H1 p = none) : H p = none := h.free n
/-- all but p is as it was -/
def But (p : Addr) (H H' : Hp) : Prop := ∀ b o, H b = some o → b ≠ p → H' b = some o
theorem but_refl (p : Addr) (H : Hp) : But p H H := fun _ _ h _ => h
theorem but_trans {p : Addr} {H H1 H2 : Hp} (a : But p H H1) (b : But p H1 H2) : But p H H2 := fun c o h n => b c o (a c o h n) n
theorem but_of_same {p : Addr} {H H1 : Hp} (a : Same H H1) : But p H H1 := fun c o h _ => a c o h
theorem but_upd (p : Addr) (H : Hp) (o : HO) : But p H (upd H p o) := fun b u e n => by
  rw [upd_ne n]
  exact e
theorem but_fresh {p : Addr} {H0 H H1 : Hp} (s : Same H0 H) (n : H0 p = none) (b : But p H H1) : Same H0 H1 := fun c o e => b c o (s c o e) (ne_of_none e n)
/-! ### a bag of digits -/
def Bag (H : Hp) (p : Addr) : Prop := ∃ g m c : Int, H p = some (.lst [.int g, .int m, .int c]) ∧ 0 ≤ g ∧ 0 ≤ m ∧ m < 2147483648
theorem fm0 {a b : Int} (h : 0 < b) : 0 ≤ a.fmod b := by
  rw [Int.fmod_eq_emod_of_nonneg a (by omega)]
  exact Int.emod_nonneg a (by omega)
theorem fm1 {a b : Int} (h : 0 < b) : a.fmod b < b := by
  rw [Int.fmod_eq_emod_of_nonneg a (by omega)]
  exact Int.emod_lt_of_pos a h
theorem nz1 : (2147483647 : Int) ≠ 0 := by decide
theorem nz2 : (2147483629 : Int) ≠ 0 := by decide
section
variable {P : Program} {w : World} {K : PySem.W.Frag} {mg : Str → Option Value} {base : Heap}
def spTake : Sp := fun vs H Q _ => ∃ (p : Addr) (n : Int), vs = [.ref p, .int n] ∧ Bag H p ∧ 0 < n ∧ n.natAbs < 2 ^ 200 ∧
  ∀ r H', 0 ≤ r → r < n → Bag H' p → But p H H' → Q (.int r) H'
theorem ok_take (T : Txt K mg) : FnOk P w K mg base CX0 1 T.f_l_take T.d_l_take ["_law_bag_here", "_law_many"] spTake := by
  refine T.F_l_take.ok sc_l_take (fun vs H Q E h => ?_) (fun cdv A outer s H vs Q E hr h => ?_)
  · obtain ⟨p, n, rfl, _⟩ := h
    rfl
  · obtain ⟨p, n, rfl, ⟨g, m, c, hb, g0, m0, m1⟩, n0, n1, q⟩ := h
    refine ⟨_, (pss_cons (ps_if (pt_cmpR op_gt (pe_ix (r := rIxL K) ix_list (pv 0) pe_int (fun _ _ => rfl)) pe_int (nomark _)) (pss_cons (ps_set (i := 2) sc_l_take.nd rfl (.inl rfl) (pe_op op_modN (pe_ix (r := rIxL K) ix_list (pv 0) pe_int (fun _ _ => rfl)) (pv 1)))
        (pss_cons (ps_asg (pe_op op_fdivW (pe_ix (r := rIxL K) ix_list (pv 0) pe_int (fun _ _ => rfl)) (pv 1)) (pg_sub (pv 0) pe_int set_list))
        (pss_one (ps_ret (pv 2))))) pss_nil)
      (pss_cons (ps_asg (pe_op op_add (pe_ix (r := rIxL K) ix_list (pv 0) pe_int (fun _ _ => rfl)) pe_int) (pg_sub (pv 0) pe_int set_list))
      (pss_cons (ps_asg (pe_op op_modN (pe_op op_add (pe_op op_add (pe_op op_mul (pe_ix (r := rIxL K) ix_list (pv 0) pe_int (fun _ _ => rfl)) pe_int) (pe_op op_mul pe_int (pe_ix (r := rIxL K) ix_list (pv 0) pe_int (fun _ _ => rfl)))) pe_int) pe_int) (pg_sub (pv 0) pe_int set_list))
      (pss_one (ps_ret (pe_op op_modN (pe_op op_modN (pe_op op_pow (pe_op op_fdivW (pe_ix (r := rIxL K) ix_list (pv 0) pe_int (fun _ _ => rfl)) pe_int) pe_int) pe_int) (pv 1))))))), ?_⟩
    have hB : SqL K H p [.int g, .int m, .int c] := .inl (.inl hb)
    refine ⟨_, rfl, p, _, 0, .int g, rfl, rfl, hB, atI_nat (j := 0) rfl, _, _, rfl, rfl, _, rfl, ite2 (fun e => ?_) (fun e => ?_)⟩
    · refine ⟨_, rfl, p, _, 0, .int g, rfl, rfl, hB, atI_nat (j := 0) rfl, _, rfl, _, _, rfl, rfl, (by omega), ?_⟩
      refine ⟨_, rfl, p, _, 0, .int g, rfl, rfl, hB, atI_nat (j := 0) rfl, _, rfl, _, _, rfl, rfl, wide_div n0 n1 (by decide) (by decide), ?_⟩
      refine ⟨_, rfl, p, _, _, 0, rfl, rfl, hb, rfl, ?_⟩
      refine ⟨_, rfl, ?_⟩
      exact q _ _ (fm0 n0) (fm1 n0) ⟨g / n, m, c, upd_same, Int.ediv_nonneg g0 (by omega), m0, m1⟩ (but_upd _ _ _)
    · refine ⟨_, rfl, p, _, 2, .int c, rfl, rfl, hB, atI_nat (j := 2) rfl, _, _, rfl, rfl, ?_⟩
      refine ⟨_, rfl, p, _, _, 2, rfl, rfl, hb, rfl, ?_⟩
      have h2 : upd H p (.lst [.int g, .int m, .int (c + 1)]) p = some (.lst [.int g, .int m, .int (c + 1)]) := upd_same
      have hB2 : SqL K (upd H p (.lst [.int g, .int m, .int (c + 1)])) p [.int g, .int m, .int (c + 1)] := .inl (.inl h2)
      refine ⟨_, rfl, p, _, 1, .int m, rfl, rfl, hB2, atI_nat (j := 1) rfl, _, _, rfl, rfl, .inr ⟨by decide, by decide⟩, _, rfl, p, _, 2, .int (c + 1), rfl, rfl, hB2, atI_nat (j := 2) rfl, _, _, rfl, rfl, .inl ⟨by decide, by decide⟩, _, _, rfl, rfl, _, _, rfl, rfl, _, _, rfl, rfl, nz1, ?_⟩
      refine ⟨_, rfl, p, _, _, 1, rfl, rfl, h2, rfl, ?_⟩
      have m0' := fm0 (a := m * 69621 + 6007 * (c + 1) + 19) (show (0 : Int) < 2147483647 by decide)
      have m1' := fm1 (a := m * 69621 + 6007 * (c + 1) + 19) (show (0 : Int) < 2147483647 by decide)
      refine ⟨_, rfl, p, _, 1, _, rfl, rfl, .inl (.inl upd_same), atI_nat (j := 1) rfl, _, _, rfl, rfl, ⟨by decide, by decide⟩, _, _, rfl, rfl, ⟨by decide, by decide, ?_⟩, _, _, rfl, rfl, nz2, _, rfl, _, _, rfl, rfl, (by omega), ?_⟩
      · omega
      exact q _ _ (fm0 n0) (fm1 n0) ⟨g, _, c + 1, upd_same, g0, m0', by omega⟩ (but_trans (but_upd _ _ _) (but_upd _ _ _))
theorem le3 : 3 ≤ sizeLine := by decide
theorem nz3 : (8 : Int) ≠ 0 := by decide
theorem primes_at (k : Nat) : ∃ v : Int, 0 < v ∧ v < 2147483648 ∧ atI [V.int 2147483629, V.int 2147483587, V.int 2147483579, V.int 2147483563, V.int 2147483549, V.int 2147483543, V.int 2147483497, V.int 2147483489] ((k : Int).fmod 8) = some (.int v) := by
  have e : (k : Int).fmod 8 = ((k % 8 : Nat) : Int) := by
    rw [Int.fmod_eq_emod_of_nonneg _ (by decide)]
    rfl
  have h : k % 8 < 8 := Nat.mod_lt _ (by decide)
  rw [e]
  generalize k % 8 = j at h
  match j, h with
  | 0, _ => exact ⟨_, by decide, by decide, atI_nat (j := 0) rfl⟩
  | 1, _ => exact ⟨_, by decide, by decide, atI_nat (j := 1) rfl⟩
  | 2, _ => exact ⟨_, by decide, by decide, atI_nat (j := 2) rfl⟩
  | 3, _ => exact ⟨_, by decide, by decide, atI_nat (j := 3) rfl⟩
  | 4, _ => exact ⟨_, by decide, by decide, atI_nat (j := 4) rfl⟩
  | 5, _ => exact ⟨_, by decide, by decide, atI_nat (j := 5) rfl⟩
  | 6, _ => exact ⟨_, by decide, by decide, atI_nat (j := 6) rfl⟩
  | 7, _ => exact ⟨_, by decide, by decide, atI_nat (j := 7) rfl⟩
  | n + 8, h => exact absurd h (by omega)
def spBag (K : PySem.W.Frag) : Sp := fun vs H Q _ => ∃ (a : Addr) (ns : List Int) (k : Nat), vs = [.ref a, .int (k : Int)] ∧ SqL K H a (ns.map V.int) ∧ k ≤ 1000 ∧
  ∀ p H', H p = none → Same H H' → Bag H' p → Q (.ref p) H'
theorem ok_bag (T : Txt K mg) : FnOk P w K mg base CX0 1 T.f_l_bag T.d_l_bag ["_law_script", "_law_at"] (spBag K) := by
  refine T.F_l_bag.ok sc_l_bag (fun vs H Q E h => ?_) (fun cdv A outer s H vs Q E hr h => ?_)
  · obtain ⟨a, ns, k, rfl, _⟩ := h
    rfl
  · obtain ⟨a, ns, k, rfl, hS, hk, q⟩ := h
    refine ⟨_, (pss_cons (ps_set (i := 2) sc_l_bag.nd rfl (.inl rfl) pe_int)
      (C8.pss_cut (ps_if (pt_cmpR op_lt (pv 1) (pe_callB call_len_seq (by rfl) T.z_len (by decide +kernel) (pa_cons (pv 0) pa_nil)) (nomark _)) (pss_one (ps_set (i := 2) sc_l_bag.nd rfl (.inl rfl) (pe_ix (r := rIxL K) ix_list (pv 0) (pv 1) (fun _ _ => rfl)))) pss_nil)
      (pss_cons (ps_set (i := 3) sc_l_bag.nd rfl (.inl rfl) pe_int)
      (C8.pss_cut (ps_if (pt_cmpR op_ge (pe_callB call_abs (by rfl) T.z_abs (by decide +kernel) (pa_cons (pv 2) pa_nil)) (pe_op op_pow pe_int pe_int) (nomark _)) (pss_one (ps_set (i := 3) sc_l_bag.nd rfl (.inl rfl) (pe_callB call_abs (by rfl) T.z_abs (by decide +kernel) (pa_cons (pv 2) pa_nil)))) pss_nil)
      (pss_cons (ps_set (i := 4) sc_l_bag.nd rfl (.inl rfl) (pe_lst (pa_cons pe_int (pa_cons pe_int (pa_cons pe_int (pa_cons pe_int (pa_cons pe_int (pa_cons pe_int (pa_cons pe_int (pa_cons pe_int pa_nil))))))))))
      (pss_one (ps_ret (pe_lst (pa_cons (pv 3) (pa_cons (pe_op op_modN (pe_op op_pow (pe_op op_add (pe_op op_add (pe_op op_modN (pv 2) pe_int) (pe_op op_mul pe_int (pv 1))) pe_int) pe_int) (pe_ix (r := rIxL K) ix_list (pv 4) (pe_op op_modN (pv 1) pe_int) (fun _ _ => rfl))) (pa_cons pe_int pa_nil))))))))))), ?_⟩
    refine ⟨fun σ' H' => H' = H ∧ ∃ c : Int, σ' = [some (.ref a), some (.int (k : Int)), some (.int c), none, none], ?_, fun σ' H' hM => ?_⟩
    · refine ⟨_, rfl, _, rfl, a, _, rfl, .inl hS, _, _, rfl, rfl, _, rfl, ite2 (fun e => ?_) (fun e => ?_)⟩
      · have e2 := of_decide_eq_true e
        have e3 : k < ns.length := by
          rw [List.length_map] at e2
          omega
        have e4 : (ns.map V.int)[k]? = some (.int ns[k]) := by
          rw [List.getElem?_map, List.getElem?_eq_getElem e3]
          rfl
        exact ⟨_, rfl, _, rfl, a, _, _, _, rfl, rfl, hS, atI_nat e4, rfl, _, rfl⟩
      · exact ⟨rfl, _, rfl⟩
    · obtain ⟨rfl, c, rfl⟩ := hM
      refine ⟨fun σ'' H'' => H'' = H' ∧ ∃ g : Int, σ'' = [some (.ref a), some (.int (k : Int)), some (.int c), some (.int g), none] ∧ 0 ≤ g, ?_, fun σ'' H'' hM => ?_⟩
      · refine ⟨_, rfl, _, rfl, _, _, rfl, rfl, ⟨by decide, by decide, by decide⟩, _, _, rfl, rfl, _, rfl, ite2 (fun e => ?_) (fun e => ?_)⟩
        · refine ⟨_, rfl, _, rfl, rfl, _, rfl, ?_⟩
          split <;> omega
        · exact ⟨rfl, _, rfl, by decide⟩
      · obtain ⟨rfl, g, rfl, g0⟩ := hM
        refine ⟨by decide, fun o no => ?_⟩
        obtain ⟨v, v0, v1, hv⟩ := primes_at k
        have h0 := fm0 (a := c) (show (0 : Int) < 2147483647 by decide)
        have h1 := fm1 (a := c) (show (0 : Int) < 2147483647 by decide)
        refine ⟨_, rfl, _, rfl, _, _, rfl, rfl, nz1, _, rfl, _, _, rfl, rfl, .inl ⟨by decide, by decide⟩, _, _, rfl, rfl, _, _, rfl, rfl, _, _, rfl, rfl, ⟨by decide, by decide, by omega⟩, _, rfl, _, rfl, _, _, rfl, rfl, nz3, o, _, _, _, rfl, rfl, .inl (.inl upd_same), hv, _, _, rfl, rfl, by omega, ?_⟩
        refine ⟨le3, fun p np => ?_⟩
        have np' : H'' p = none := (same_new no).free np
        exact q _ _ np' (same_put (same_new no) np') ⟨g, _, 0, upd_same, g0, fm0 v0, by have := fm1 (a := (c.fmod 2147483647 + 104711 * (k : Int) + 23) ^ Int.toNat 5) v0; omega⟩
end
theorem but_put {p q : Addr} {H H1 : Hp} {o : HO} (b : But p H H1) (n : H1 q = none) : But p H (upd H1 q o) := fun c u e nc => by
  have e1 := b c u e nc
  rw [upd_ne (ne_of_none e1 n)]
  exact e1
theorem bag_put {p q : Addr} {H : Hp} {o : HO} (b : Bag H p) (n : H q = none) : Bag (upd H q o) p := by
  obtain ⟨g, m, c, e, r⟩ := b
  exact ⟨g, m, c, by rw [upd_ne (ne_of_none e n)]; exact e, r⟩
theorem bag_same {p : Addr} {H H1 : Hp} (b : Bag H p) (s : Same H H1) : Bag H1 p := by
  obtain ⟨g, m, c, e, r⟩ := b
  exact ⟨g, m, c, s _ _ e, r⟩
theorem bag_ne {p q : Addr} {H : Hp} (b : Bag H p) (n : H q = none) : q ≠ p := by
  obtain ⟨g, m, c, e, r⟩ := b
  exact (ne_of_none e n).symm

theorem log_lo {n : Nat} (h : n ≠ 0) : 2 ^ n.log2 ≤ n := Nat.log2_self_le h
theorem log_hi {n : Nat} : n < 2 ^ (n.log2 + 1) := Nat.lt_log2_self
theorem log_lt {n f : Nat} (h : n ≠ 0) (hf : n < 2 ^ f) : n.log2 < f := (Nat.log2_lt h).mpr hf
theorem rest_lt {n : Nat} (h : n ≠ 0) : n - 2 ^ n.log2 < 2 ^ n.log2 := by
  have a := log_hi (n := n)
  have b := log_lo h
  rw [Nat.pow_succ] at a
  omega
theorem rest_lt' {n f : Nat} (h : n ≠ 0) (hf : n < 2 ^ (f + 1)) : n - 2 ^ n.log2 < 2 ^ f := by
  have a := rest_lt h
  have b := log_lt h hf
  have c : 2 ^ n.log2 ≤ 2 ^ f := Nat.pow_le_pow_right (by decide) (by omega)
  omega
/-- the lowest power -/
def low (n : Nat) : Nat := if h : n = 0 then 1 else if n % 2 = 0 then 2 * low (n / 2) else 1
termination_by n
decreasing_by omega
theorem low_even {n : Nat} (h : n ≠ 0) (e : n % 2 = 0) : low n = 2 * low (n / 2) := by
  rw [low, dif_neg h, if_pos e]
theorem low_odd {n : Nat} (e : n % 2 = 1) : low n = 1 := by
  rw [low, dif_neg (by omega), if_neg (by omega)]
theorem low_is : ∀ (j n : Nat), n ≠ 0 → n % 2 ^ j = 0 → ¬ n % 2 ^ (j + 1) = 0 → low n = 2 ^ j
  | 0, n, h, _, e => by
    rw [Nat.zero_add, Nat.pow_one] at e
    exact low_odd (by omega)
  | j + 1, n, h, a, b => by
    have e2 : n % 2 = 0 := by
      rw [Nat.pow_succ] at a
      have := Nat.mod_mod_of_dvd n (show 2 ∣ 2 ^ j * 2 from ⟨2 ^ j, Nat.mul_comm _ _⟩)
      rw [a] at this
      omega
    obtain ⟨m, rfl⟩ : ∃ m, n = 2 * m := ⟨n / 2, by omega⟩
    have hm : m ≠ 0 := by omega
    rw [low_even h e2, Nat.mul_div_cancel_left _ (by decide), Nat.pow_succ, Nat.mul_comm]
    have a' : m % 2 ^ j = 0 := by
      rw [Nat.pow_succ, Nat.mul_comm (2 ^ j) 2, Nat.mul_mod_mul_left] at a
      omega
    have b' : ¬ m % 2 ^ (j + 1) = 0 := fun z => by
      rw [Nat.pow_succ, Nat.mul_comm (2 ^ (j + 1)) 2, Nat.mul_mod_mul_left, z] at b
      exact b rfl
    rw [low_is j m hm a' b']
theorem low_pow (j : Nat) : low (2 ^ j) = 2 ^ j := by
  refine low_is j _ (Nat.pos_iff_ne_zero.mp (Nat.two_pow_pos j)) (Nat.mod_self _) fun z => ?_
  rw [Nat.mod_eq_of_lt (Nat.pow_lt_pow_right (by decide) (by omega))] at z
  have := Nat.two_pow_pos j
  omega

theorem ifT {c : Bool} {A B : Prop} (hc : c = true) (h : A) : if c = true then A else B := by
  rw [if_pos hc]
  exact h
theorem ifF {c : Bool} {A B : Prop} (hc : c = false) (h : B) : if c = true then A else B := by
  rw [hc, if_neg Bool.false_ne_true]
  exact h
theorem dF {p : Prop} [Decidable p] (h : ¬ p) : decide p = false := decide_eq_false h
theorem dT {p : Prop} [Decidable p] (h : p) : decide p = true := decide_eq_true h
theorem bits_nat {n : Nat} (h : n ≠ 0) : (Builtin.Int.intBits (n : Int) : Nat) = n.log2 + 1 := by
  unfold Builtin.Int.intBits
  rw [if_neg (show ¬ ((n : Int) == 0) = true by simpa using (show (n : Int) ≠ 0 by omega))]
  rfl
theorem gp_eq {n : Nat} (h : n ≠ 0) : (1 : Int) * 2 ^ (((Builtin.Int.intBits (n : Int) : Nat) : Int) - 1).toNat = ((2 ^ n.log2 : Nat) : Int) := by
  rw [bits_nat h, show (((n.log2 + 1 : Nat) : Int) - 1).toNat = n.log2 by omega, Int.one_mul]
  exact (PySem.W.kbt_cast _).symm
theorem gp_ok {n : Nat} (h : n ≠ 0) (hn : n < 2 ^ 200) : CShl 1 (((Builtin.Int.intBits (n : Int) : Nat) : Int) - 1) := by
  have a := log_lt h hn
  rw [bits_nat h, show (((n.log2 + 1 : Nat) : Int) - 1) = (n.log2 : Int) by omega]
  exact shl_ok (n := 1) (by decide) (by omega)
theorem nat_cast_lt {a : Nat} {n : Nat} (h : n < 2 ^ a) : (n : Int).natAbs < 2 ^ a := h
theorem pow_nat (k : Nat) : (2 : Int) ^ k = ((2 ^ k : Nat) : Int) := (PySem.W.kbt_cast k).symm
theorem p10 : (10 : Int) ^ Int.toNat 30 = ((10 ^ 30 : Nat) : Int) := by decide +kernel
theorem le6 : 6 ≤ sizeLine := by decide
theorem p100 : (10 ^ 30 : Nat) < 2 ^ 100 := by decide +kernel
def intAt (σ : L2.St) (i : Nat) : Nat := match σ[i]? with
  | some (some (V.int r)) => r.toNat
  | _ => 0
theorem le2 : 2 ≤ sizeLine := by decide
theorem cdiv_nat (a b : Nat) : ((a : Int) / (b : Int)) = ((a / b : Nat) : Int) := rfl

/-! ### a call by keywords alone -/
section
variable {X : Cx} {CX : CXT} {k n : Nat} {f : Addr} {fd : FuncData} {ps ks : List Str} {sp : Sp} {E : XK} {x : Str} {p pos : Pos} {kws : List Keyword} {tk : TA} {g : List Value → List Value → List Value} {gV : List V → List V → List V}
theorem pe_kw0 (F : FnOk X.prog X.w X.K X.mg X.base CX k f fd ps sp) (hr : Room k X.A) (hg : Gl X x) (hm : X.mg x = some (.ref f))
    (hk : PySem.W.keepIn X.K (.ref f) = true) (hb : KBn X.K fd ps 0 ks g gV) (hx : Passes CX X E) (hkw : PK X kws tk)
    (hall : (backToKw pos (keywordEach kws X.env)).all (·.1.isSome) = true := by rfl)
    (hks : (backToKw pos (keywordEach kws X.env)).filterMap (·.1) = ks := by rfl) (hdb : (x == ("__debug__" : Str)) = false := by decide)
    (hpl : ((backTo pos (starEach [] X.env)).any (·.1) || (backToKw pos (keywordEach kws X.env)).any (·.1.isNone)) = false := by rfl) :
    PE X (.Call (.Name x p) [] kws pos) (tCallN 0 ks.length sp gV E tNil tk) :=
  ⟨fun pins s σ H Q I h => wpAny_Call_Name_kw (ld_glob I hg hm (PySem.W.callWith_KW0 (h₀ := X.base) I.ok.mod.kin hk hall
    (thn (hkw.run pos pins s σ H _ I h) fun ws s2 ⟨zs, H2, I2, rz, l1, l2, q2⟩ => ⟨I2.kIn, by rw [hks]; exact run_fnN (us := []) (vs := []) F hr hb hx I2 .nil rz l1 l2 q2⟩) hpl) hdb)⟩
end
theorem kb_one {K : PySem.W.Frag} {x qual : Str} {st : Stmt} {f : Addr} {fd : FuncData} {n : Str} (F : Fun K x qual st f fd)
    (h : ∀ (kV doc pm : Value) (an : Option Addr) (cdv ct v : Value), bindArgs (PySem.W.fnOf x qual (defArgs st) (defBody st) (defScope st) .none kV doc pm an cdv ct) ⟨[], [(n, v)]⟩ = pure [(n, v)]) :
    KBn K fd [n] 0 [n] (fun _ ws => ws) (fun _ zs => zs) := by
  obtain ⟨oc, od, kV, doc, pm, an, cdv, ct, osl, rfl, lk, hcd⟩ := F.ex
  exact ⟨fun s us ws X l1 l2 => match us, ws, l1, l2 with | [], [v], _, _ => .of_eq (h kV doc pm an cdv ct v), fun _ r => r⟩
/-! ### lists of ints, compared -/
theorem dp_ints {K : PySem.W.Frag} {H : Hp} : ∀ l : List Int, DpAll K H (l.map V.int) (l.map PyData.int)
  | [] => .nil
  | x :: l => .cons (.int x) (dp_ints l)
theorem lay_ints : ∀ l : List Int, PyData.canLayAll0 (l.map PyData.int) = true ∧ PyData.depthAll (l.map PyData.int) ≤ 1
  | [] => ⟨rfl, by decide⟩
  | x :: l => by
    obtain ⟨a, b⟩ := lay_ints l
    refine ⟨?_, ?_⟩
    · show PyData.canLayAll0 (PyData.int x :: l.map PyData.int) = true
      simp only [PyData.canLayAll0, PyData.canLay0, a, Bool.and_self]
    · show PyData.depthAll (PyData.int x :: l.map PyData.int) ≤ 1
      simp only [PyData.depthAll, PyData.depth]
      omega
theorem sh_ints (l : List Int) : SeqAt.shaped (.list (l.map PyData.int)) = true := by
  obtain ⟨a, b⟩ := lay_ints l
  unfold SeqAt.shaped
  rw [Bool.and_eq_true]
  refine ⟨?_, decide_eq_true ?_⟩
  · simp only [PyData.canLay0, a]
  · simp only [PyData.depth]
    omega

section
variable {P : Program} {w : World} {K : PySem.W.Frag} {mg : Str → Option Value} {base : Heap}
def spGp : Sp := fun vs H Q _ => ∃ n : Nat, vs = [.int (n : Int)] ∧ n ≠ 0 ∧ n < 2 ^ 200 ∧ Q (.int ((2 ^ n.log2 : Nat) : Int)) H
theorem ok_gp (T : Txt K mg) : FnOk P w K mg base CX0 1 T.f_greatest_power T.d_greatest_power ["number"] spGp := by
  refine T.F_greatest_power.ok sc_greatest_power (fun vs H Q E h => ?_) (fun cdv A outer s H vs Q E hr h => ?_)
  · obtain ⟨n, rfl, _⟩ := h
    rfl
  · obtain ⟨n, rfl, h0, h1, q⟩ := h
    refine ⟨_, (pss_one (ps_ret (pe_op op_shlW pe_int (pe_op op_sub (pe_bits (pv 0)) pe_int)))), ?_⟩
    rw [← gp_eq h0] at q
    exact ⟨_, rfl, _, rfl, _, _, rfl, rfl, _, _, rfl, rfl, gp_ok h0 h1, q⟩
def spIsI : Sp := fun vs H Q _ => ∃ i : Int, vs = [.int i] ∧ Q (.bl true) H
theorem ok_isi (T : Txt K mg) : FnOk P w K mg base CX0 1 T.f_is_integer T.d_is_integer ["value"] spIsI := by
  refine T.F_is_integer.ok sc_is_integer (fun vs H Q E h => ?_) (fun cdv A outer s H vs Q E hr h => ?_)
  · obtain ⟨i, rfl, _⟩ := h
    rfl
  · obtain ⟨i, rfl, q⟩ := h
    refine ⟨_, (pss_one (ps_ret (pe_and (pe_callB call_isi (by rfl) T.z_isinstance (by decide +kernel) (pa_cons (pv 0) (pa_cons (pe_bltn (v := .ty "int") (by rfl) T.z_int (by decide +kernel) rfl) pa_nil))) (pe_one (pe_not (pe_callB call_isi (by rfl) T.z_isinstance (by decide +kernel) (pa_cons (pv 0) (pa_cons (pe_bltn (v := .ty "bool") (by rfl) T.z_bool (by decide +kernel) rfl) pa_nil)))))))), ?_⟩
    refine ⟨_, rfl, .int i, .ty "int", .type "int", .type "int", true, rfl, .ty _, .base (.int _), kit_ty (by decide +kernel), true, rfl, iteT ?_⟩
    exact ⟨_, rfl, .int i, .ty "bool", .type "int", .type "bool", false, rfl, .ty _, .base (.int _), kit_ty (by decide +kernel), false, rfl, q⟩
theorem ok_cki (T : Txt K mg) : FnOk P w K mg base CX0 2 T.f_check_integer T.d_check_integer ["value"] (fun vs H Q _ => ∃ i : Int, vs = [.int i] ∧ Q .non H) := by
  have G_is_integer := ok_isi (P := P) (w := w) (base := base) T
  refine T.F_check_integer.ok sc_check_integer (fun vs H Q E h => ?_) (fun cdv A outer s H vs Q E hr h => ?_)
  · obtain ⟨i, rfl, _⟩ := h
    rfl
  · obtain ⟨i, rfl, q⟩ := h
    refine ⟨_, (pss_one (ps_if (pt_not (pt_val (pe_call G_is_integer (hr.mono (by omega)) rfl T.g_is_integer T.F_is_integer.kp T.b_is_integer .nil pass0 (pa_cons (pv 0) pa_nil)))) (pss_one ps_never) pss_nil)), ?_⟩
    exact ⟨_, rfl, i, rfl, true, rfl, iteF q⟩
def spCheck : Sp := fun vs H Q _ => ∃ n : Nat, vs = [.int (n : Int)] ∧ n ≤ 10 ^ 30 ∧ Q .non H
theorem ok_check (T : Txt K mg) : FnOk P w K mg base CX0 3 T.f_check_number T.d_check_number ["value"] spCheck := by
  have G_check_integer := ok_cki (P := P) (w := w) (base := base) T
  refine T.F_check_number.ok sc_check_number (fun vs H Q E h => ?_) (fun cdv A outer s H vs Q E hr h => ?_)
  · obtain ⟨n, rfl, _⟩ := h
    rfl
  · obtain ⟨n, rfl, h0, q⟩ := h
    have rG := T.r_GREATEST
    refine ⟨_, (pss_cons (ps_expr (pe_call G_check_integer (hr.mono (by omega)) rfl T.g_check_integer T.F_check_integer.kp T.b_check_integer .nil pass0 (pa_cons (pv 0) pa_nil)))
      (pss_one (ps_if (PW.pt (pw_or (pt_cmpR op_lt (pv 0) pe_int (nomark _)) (pw_or1 (pt_cmpR op_gt (pv 0) (pe_glob rfl T.v_GREATEST T.r_GREATEST) (nomark _))))) (pss_one ps_never) pss_nil))), ?_⟩
    refine ⟨_, rfl, (n : Int), rfl, ?_⟩
    refine ⟨_, rfl, _, _, rfl, rfl, _, rfl, ?_⟩
    refine ifF (dF (by omega)) ?_
    refine ⟨_, rfl, _, _, rfl, rfl, _, rfl, ?_⟩
    have h1 : ¬ ((10 : Int) ^ 30 < (n : Int)) := by
      have : (10 : Int) ^ 30 = ((10 ^ 30 : Nat) : Int) := by decide +kernel
      rw [this]
      omega
    exact ifF (dF h1) q


end
end Ob

set_option Elab.async false
set_option linter.all false
set_option maxRecDepth 100000
set_option maxHeartbeats 1000000
namespace Ob
open PySem PySem.Spec PyProof.Rows L2

/-! ### the lowest power by the and of both signs -/
theorem and_parts (a b : Nat) : a &&& b = 2 * (a / 2 &&& b / 2) + (a % 2 &&& b % 2) := by
  have h1 : (a &&& b) / 2 = a / 2 &&& b / 2 := Nat.and_div_two
  have h2 : (a &&& b) % 2 = a % 2 &&& b % 2 := by
    have := Nat.and_mod_two_pow (a := a) (b := b) (n := 1)
    simpa using this
  omega
theorem low_and : ∀ n : Nat, n ≠ 0 → n - (n &&& (n - 1)) = low n := by
  intro n
  induction n using Nat.strongRecOn with
  | ind n ih =>
    intro h
    by_cases e : n % 2 = 0
    · obtain ⟨m, rfl⟩ : ∃ m, n = 2 * m := ⟨n / 2, by omega⟩
      have hm : m ≠ 0 := by omega
      have i := ih m (by omega) hm
      rw [low_even h e, and_parts, show 2 * m / 2 = m by omega, show (2 * m - 1) / 2 = m - 1 by omega, show 2 * m % 2 = 0 by omega, Nat.zero_and, ← i]
      omega
    · rw [low_odd (by omega), and_parts, show (n - 1) / 2 = n / 2 by omega, show (n - 1) % 2 = 0 by omega, Nat.and_zero, Nat.and_self]
      omega
theorem low_bits {n : Nat} (h : n ≠ 0) : Builtin.bitAnd (n : Int) (-(n : Int)) = (low n : Int) := by
  have e1 : (Builtin.bitNot (-(n : Int))).toNat = n - 1 := by
    show (-(-(n : Int)) - 1).toNat = n - 1
    omega
  have e2 : n &&& (n - 1) ≤ n := Nat.and_le_left
  rw [bitAnd_pn (by omega) (by omega), e1, Int.toNat_natCast, ← low_and n h]
  omega
theorem low_spec : ∀ n : Nat, n ≠ 0 → ∃ e, low n = 2 ^ e ∧ n % 2 ^ e = 0 ∧ n % 2 ^ (e + 1) ≠ 0 := by
  intro n
  induction n using Nat.strongRecOn with
  | ind n ih =>
    intro h
    by_cases e : n % 2 = 0
    · obtain ⟨m, rfl⟩ : ∃ m, n = 2 * m := ⟨n / 2, by omega⟩
      have hm : m ≠ 0 := by omega
      obtain ⟨k, e1, e2, e3⟩ := ih m (by omega) hm
      refine ⟨k + 1, ?_, ?_, ?_⟩
      · rw [low_even h e, show 2 * m / 2 = m by omega, e1, Nat.pow_succ, Nat.mul_comm]
      · rw [Nat.pow_succ, Nat.mul_comm (2 ^ k) 2, Nat.mul_mod_mul_left, e2]
      · rw [Nat.pow_succ, Nat.mul_comm (2 ^ (k + 1)) 2, Nat.mul_mod_mul_left]
        omega
    · exact ⟨0, low_odd (by omega), Nat.mod_one _, by rw [Nat.zero_add, Nat.pow_one]; omega⟩
/-! ### pieces -/
def szP (a r : Nat) : Nat := if a = 0 then 2 ^ r.log2 else min (2 ^ r.log2) (low a)
def pcF : Nat → Nat → Nat → List (Nat × Nat)
  | 0, _, _ => []
  | f + 1, a, r => if r = 0 then [] else (a, szP a r) :: pcF f (a + szP a r) (r - szP a r)
def enough (k a r : Nat) : Prop := ∃ m, r < 2 ^ m ∧ (((a = 0 ∨ a % 2 ^ m = 0) ∧ m ≤ k) ∨ ∃ j, a ≠ 0 ∧ a % 2 ^ j = 0 ∧ j ≤ 100 ∧ (100 - j) + m + 1 ≤ k)
theorem mod_le {a i j : Nat} (h : a % 2 ^ j = 0) (l : i ≤ j) : a % 2 ^ i = 0 := by
  have d : 2 ^ i ∣ 2 ^ j := Nat.pow_dvd_pow 2 l
  exact Nat.mod_eq_zero_of_dvd (Nat.dvd_trans d (Nat.dvd_of_mod_eq_zero h))
theorem mod_add {a b i : Nat} (h : a % 2 ^ i = 0) (h2 : b % 2 ^ i = 0) : (a + b) % 2 ^ i = 0 := by
  rw [Nat.add_mod, h, h2]
  simp
theorem odd_up {a e : Nat} (h : a % 2 ^ e = 0) (h2 : a % 2 ^ (e + 1) ≠ 0) : (a + 2 ^ e) % 2 ^ (e + 1) = 0 := by
  obtain ⟨q, rfl⟩ := Nat.dvd_of_mod_eq_zero h
  have hp := Nat.two_pow_pos e
  rw [Nat.pow_succ, Nat.mul_mod_mul_left] at h2
  have h3 : q % 2 = 1 := by
    rcases Nat.mod_two_eq_zero_or_one q with z | z
    · rw [z] at h2
      exact absurd rfl h2
    · exact z
  rw [show 2 ^ e * q + 2 ^ e = 2 ^ e * (q + 1) by rw [Nat.mul_add, Nat.mul_one], Nat.pow_succ, Nat.mul_mod_mul_left, show (q + 1) % 2 = 0 by omega, Nat.mul_zero]
theorem szP_le {a r : Nat} (h : r ≠ 0) : szP a r ≤ r := by
  have l2 := log_lo h
  unfold szP
  split
  · exact l2
  · exact Nat.le_trans (Nat.min_le_left _ _) l2
theorem enough_step {k a r : Nat} (h : enough k a r) (hr : r ≠ 0) (hb : a + r ≤ 2 ^ 100) :
    ∃ k', k = k' + 1 ∧ enough k' (a + szP a r) (r - szP a r) ∧ szP a r ≤ r ∧ 0 < szP a r ∧ ∃ j, szP a r = 2 ^ j ∧ a % 2 ^ j = 0 := by
  obtain ⟨m, hm, hc⟩ := h
  have lo := log_lo hr
  have rl := rest_lt hr
  have ll := log_lt hr hm
  have hp := Nat.two_pow_pos r.log2
  rcases hc with ⟨hz, hk⟩ | ⟨j, ha, hj, hj1, hk⟩
  · have es : szP a r = 2 ^ r.log2 := by
      unfold szP
      by_cases z : a = 0
      · rw [if_pos z]
      · rw [if_neg z]
        obtain ⟨e, e1, e2, e3⟩ := low_spec a z
        rw [e1]
        rcases hz with hz | hz
        · exact absurd hz z
        · have : m ≤ e := by
            refine Nat.le_of_not_lt fun q => e3 (mod_le hz (by omega))
          exact Nat.min_eq_left (Nat.pow_le_pow_right (by decide) (by omega))
    have ad : a % 2 ^ r.log2 = 0 := by
      rcases hz with hz | hz
      · rw [hz]
        exact Nat.zero_mod _
      · exact mod_le hz (by omega)
    rw [es]
    exact ⟨k - 1, by omega, ⟨r.log2, rl, .inl ⟨.inr (mod_add ad (Nat.mod_self _)), by omega⟩⟩, lo, hp, _, rfl, ad⟩
  · obtain ⟨e, e1, e2, e3⟩ := low_spec a ha
    have hje : j ≤ e := Nat.le_of_not_lt fun q => e3 (mod_le hj (by omega))
    by_cases c : 2 ^ e ≤ 2 ^ r.log2
    · have es : szP a r = 2 ^ e := by
        unfold szP
        rw [if_neg ha, e1]
        exact Nat.min_eq_right c
      rw [es]
      have he : e < 100 := by
        have h1 : 2 ^ e < 2 ^ 100 := by omega
        exact (Nat.pow_lt_pow_iff_right (by decide)).mp h1
      have hpe := Nat.two_pow_pos e
      exact ⟨k - 1, by omega, ⟨m, by omega, .inr ⟨e + 1, by omega, odd_up e2 e3, by omega, by omega⟩⟩, by omega, hpe, _, rfl, e2⟩
    · have es : szP a r = 2 ^ r.log2 := by
        unfold szP
        rw [if_neg ha, e1]
        exact Nat.min_eq_left (by omega)
      have hle : r.log2 ≤ e := by
        refine Nat.le_of_not_lt fun q => c (Nat.pow_le_pow_right (by decide) (by omega))
      rw [es]
      exact ⟨k - 1, by omega, ⟨r.log2, rl, .inl ⟨.inr (mod_add (mod_le e2 hle) (Nat.mod_self _)), by omega⟩⟩, lo, hp, _, rfl, mod_le e2 hle⟩
theorem enough_all {a r : Nat} (h : a + r ≤ 10 ^ 30) : enough 201 a r := by
  have h1 : (10 ^ 30 : Nat) < 2 ^ 100 := by decide +kernel
  by_cases z : a = 0
  · exact ⟨100, by omega, .inl ⟨.inl z, by decide⟩⟩
  · exact ⟨100, by omega, .inr ⟨0, z, Nat.mod_one _, by decide, by decide⟩⟩
theorem pcF_zero (f a : Nat) : pcF f a 0 = [] := by
  cases f with
  | zero => rfl
  | succ f => exact if_pos rfl
theorem pcF_pos {f a r : Nat} (h : r ≠ 0) : pcF (f + 1) a r = (a, szP a r) :: pcF f (a + szP a r) (r - szP a r) := if_neg h
theorem pcF_len : ∀ (f a r : Nat), (pcF f a r).length ≤ f
  | 0, _, _ => Nat.le_refl _
  | f + 1, a, r => by
    by_cases h : r = 0
    · subst h
      rw [pcF_zero]
      exact Nat.zero_le _
    · rw [pcF_pos h, List.length_cons]
      have := pcF_len f (a + szP a r) (r - szP a r)
      omega
/-- a right list of pieces from a on, to b -/
def okP : Nat → List (Nat × Nat) → Nat → Prop
  | a, [], b => a = b
  | a, (x, s) :: t, b => x = a ∧ (∃ j, s = 2 ^ j ∧ a % 2 ^ j = 0) ∧ a + s ≤ b ∧ (∀ y s', t.head? = some (y, s') → ¬ (s' = s ∧ a % (2 * s) = 0)) ∧ okP (a + s) t b
/-- two neighbours never make one -/
theorem szP_next {a r : Nat} (hr : r ≠ 0) (h : r - szP a r ≠ 0) : ¬ (szP (a + szP a r) (r - szP a r) = szP a r ∧ a % (2 * szP a r) = 0) := by
  rintro ⟨e1, e2⟩
  have es : szP a r = 2 ^ r.log2 := by
    unfold szP
    by_cases z : a = 0
    · rw [if_pos z]
    · rw [if_neg z]
      obtain ⟨e, f1, f2, f3⟩ := low_spec a z
      rw [f1]
      refine Nat.min_eq_left (Nat.le_of_not_lt fun q => ?_)
      have f4 : szP a r = 2 ^ e := by
        unfold szP
        rw [if_neg z, f1]
        exact Nat.min_eq_right (Nat.le_of_lt q)
      rw [f4, show 2 * 2 ^ e = 2 ^ (e + 1) by rw [Nat.pow_succ, Nat.mul_comm]] at e2
      exact f3 e2
  have rl := rest_lt hr
  have le := szP_le (a := a + szP a r) h
  omega
theorem okP_all : ∀ (k a r : Nat), enough k a r → a + r ≤ 2 ^ 100 → okP a (pcF k a r) (a + r)
  | k, a, r, h, hb => by
    by_cases hr : r = 0
    · subst hr
      rw [pcF_zero]
      exact rfl
    · obtain ⟨k', rfl, h2, s1, s0, j, ej, aj⟩ := enough_step h hr hb
      rw [pcF_pos hr]
      refine ⟨rfl, ⟨j, ej, aj⟩, by omega, fun y s' e => ?_, ?_⟩
      · by_cases z : r - szP a r = 0
        · rw [z, pcF_zero] at e
          cases e
        · cases k' with
          | zero => cases e
          | succ k' =>
            rw [pcF_pos z] at e
            obtain ⟨rfl, rfl⟩ := Prod.mk.inj (Option.some.inj e)
            exact szP_next hr z
      · have := okP_all k' (a + szP a r) (r - szP a r) h2 (by omega)
        rw [show a + szP a r + (r - szP a r) = a + r by omega] at this
        exact this
end Ob

set_option Elab.async false
set_option linter.all false
set_option maxRecDepth 100000
set_option maxHeartbeats 1000000
namespace Ob
open PySem PySem.Spec PyProof.Rows L2

/-! ### the fewest, counted -/
def minL : List Nat → Nat
  | [] => 0
  | x :: l => l.foldl (fun m y => if y < m then y else m) x
def cond (lo i s : Nat) : Prop := s ≤ i + 1 ∧ (lo + 1 + i - s) % s = 0
instance (lo i s : Nat) : Decidable (cond lo i s) := inferInstanceAs (Decidable (_ ∧ _))
def cand (lo i : Nat) (cs : List Nat) (ss : List Nat) : List Nat := ss.filterMap fun s => if s ≤ i + 1 ∧ (lo + 1 + i - s) % s = 0 then some (cs.getD (i + 1 - s) 0 + 1) else none
def sizes7 : List Nat := [1, 2, 4, 8, 16, 32, 64]
def dp (lo : Nat) : Nat → List Nat
  | 0 => [0]
  | i + 1 => (fun l => l ++ [minL (cand lo i l sizes7)]) (dp lo i)
def lowF : Nat → Nat → Nat
  | 0, _ => 1
  | f + 1, n => if n % 2 = 0 then 2 * lowF f (n / 2) else 1
def szF7 (a r : Nat) : Nat := if a = 0 then 2 ^ r.log2 else min (2 ^ r.log2) (lowF 8 a)
def lenF : Nat → Nat → Nat → Nat
  | 0, _, _ => 0
  | f + 1, a, r => if r = 0 then 0 else lenF f (a + szF7 a r) (r - szF7 a r) + 1
theorem few1 : (List.range 25).all (fun lo => (List.range 64).map (fun m => lenF 201 lo m) == dp lo 63) = true := by decide +kernel
theorem few2 : (List.range 25).all (fun lo => (List.range 64).map (fun m => lenF 201 (lo + 25) m) == dp (lo + 25) 63) = true := by decide +kernel
theorem few3 : (List.range 25).all (fun lo => (List.range 64).map (fun m => lenF 201 (lo + 50) m) == dp (lo + 50) 63) = true := by decide +kernel
theorem few4 : (List.range 25).all (fun lo => (List.range 64).map (fun m => lenF 201 (lo + 75) m) == dp (lo + 75) 63) = true := by decide +kernel
end Ob

set_option Elab.async false
set_option linter.all false
set_option maxRecDepth 100000
set_option maxHeartbeats 1000000
namespace Ob
open PySem PySem.Spec PyProof.Rows L2

theorem few {lo : Nat} (h : lo < 100) : (List.range 64).map (fun m => lenF 201 lo m) = dp lo 63 := by
  have one : ∀ c lo : Nat, lo < 25 → (List.range 25).all (fun lo => (List.range 64).map (fun m => lenF 201 (lo + c) m) == dp (lo + c) 63) = true → (List.range 64).map (fun m => lenF 201 (lo + c) m) = dp (lo + c) 63 := fun c lo hl e =>
    beq_iff_eq.mp (List.all_eq_true.mp e lo (List.mem_range.mpr hl))
  by_cases h1 : lo < 25
  · exact one 0 lo h1 few1
  by_cases h2 : lo < 50
  · have := one 25 (lo - 25) (by omega) few2
    rwa [show lo - 25 + 25 = lo by omega] at this
  by_cases h3 : lo < 75
  · have := one 50 (lo - 50) (by omega) few3
    rwa [show lo - 50 + 50 = lo by omega] at this
  · have := one 75 (lo - 75) (by omega) few4
    rwa [show lo - 75 + 75 = lo by omega] at this
theorem dp_len (lo : Nat) : ∀ i : Nat, (dp lo i).length = i + 1
  | 0 => rfl
  | i + 1 => by
    show (dp lo i ++ [_]).length = i + 1 + 1
    rw [List.length_append, dp_len lo i]
    rfl
theorem dp_pre (lo : Nat) {i j : Nat} (h : j ≤ i) : ∀ k : Nat, (dp lo (i + k))[j]? = (dp lo i)[j]?
  | 0 => rfl
  | k + 1 => by
    show (dp lo (i + k) ++ [_])[j]? = _
    rw [List.getElem?_append_left (by rw [dp_len]; omega)]
    exact dp_pre lo h k
theorem lowF_low : ∀ (f n : Nat), n ≠ 0 → n < 2 ^ f → lowF f n = low n
  | 0, n, h, hf => by omega
  | f + 1, n, h, hf => by
    rw [Nat.pow_succ] at hf
    by_cases e : n % 2 = 0
    · rw [low_even h e, ← lowF_low f (n / 2) (by omega) (by omega)]
      exact if_pos e
    · rw [low_odd (by omega)]
      exact if_neg e
theorem lenF_len : ∀ (f a r : Nat), a + r < 256 → lenF f a r = (pcF f a r).length
  | 0, _, _, _ => rfl
  | f + 1, a, r, h => by
    by_cases hr : r = 0
    · subst hr
      rw [pcF_zero]
      exact if_pos rfl
    · have e : szF7 a r = szP a r := by
        unfold szF7 szP
        by_cases z : a = 0
        · rw [if_pos z, if_pos z]
        · rw [if_neg z, if_neg z, lowF_low 8 a z (by omega)]
      rw [pcF_pos hr, List.length_cons]
      show (if r = 0 then 0 else lenF f (a + szF7 a r) (r - szF7 a r) + 1) = _
      have l := szP_le (a := a) hr
      rw [if_neg hr, e, lenF_len f _ _ (by omega)]
theorem few_is {lo m : Nat} (h : lo < 100) (hm : m < 64) : (dp lo m)[m]? = some ((pcF 201 lo m).length) := by
  have e := dp_pre lo (Nat.le_refl m) (63 - m)
  rw [show m + (63 - m) = 63 by omega] at e
  rw [← e, ← few h, List.getElem?_map, List.getElem?_range hm]
  show some (lenF 201 lo m) = _
  rw [lenF_len _ _ _ (by omega)]
theorem foldl_min : ∀ (l : List Nat) (x : Nat), (∀ y ∈ l, l.foldl (fun m y => if y < m then y else m) x ≤ y) ∧ l.foldl (fun m y => if y < m then y else m) x ≤ x ∧ (l.foldl (fun m y => if y < m then y else m) x = x ∨ l.foldl (fun m y => if y < m then y else m) x ∈ l)
  | [], x => ⟨(fun _ h => by cases h), Nat.le_refl _, .inl rfl⟩
  | z :: l, x => by
    obtain ⟨a, b, c⟩ := foldl_min l (if z < x then z else x)
    have q1 : (if z < x then z else x) ≤ x := by split <;> omega
    have q2 : (if z < x then z else x) ≤ z := by split <;> omega
    have q3 : (if z < x then z else x) = x ∨ (if z < x then z else x) = z := by split <;> simp
    show (∀ y ∈ z :: l, l.foldl _ (if z < x then z else x) ≤ y) ∧ l.foldl _ (if z < x then z else x) ≤ x ∧ (l.foldl _ (if z < x then z else x) = x ∨ l.foldl _ (if z < x then z else x) ∈ z :: l)
    refine ⟨fun y hy => ?_, Nat.le_trans b q1, ?_⟩
    · rcases List.mem_cons.mp hy with rfl | hy
      · exact Nat.le_trans b q2
      · exact a y hy
    · rcases c with c | c
      · rw [c]
        rcases q3 with q3 | q3
        · exact .inl q3
        · rw [q3]
          exact .inr (List.mem_cons_self ..)
      · exact .inr (List.mem_cons_of_mem _ c)
theorem minL_is {l : List Nat} {m : Nat} (h : m ∈ l) (hl : ∀ y ∈ l, m ≤ y) : minL l = m := by
  cases l with
  | nil => cases h
  | cons x l =>
    obtain ⟨a, b, c⟩ := foldl_min l x
    have lo : minL (x :: l) ≤ m := by
      rcases List.mem_cons.mp h with rfl | h
      · exact b
      · exact a m h
    have hi : m ≤ minL (x :: l) := by
      rcases c with c | c
      · show m ≤ l.foldl _ x
        rw [c]
        exact hl x (List.mem_cons_self ..)
      · exact hl _ (List.mem_cons_of_mem _ c)
    omega
end Ob

set_option Elab.async false
set_option linter.all false
set_option maxRecDepth 100000
set_option maxHeartbeats 1000000
namespace Ob
open PySem PySem.Spec PyProof.Rows L2

section
variable {P : Program} {w : World} {K : PySem.W.Frag} {mg : Str → Option Value} {base : Heap}
def spLp : Sp := fun vs H Q _ => ∃ n : Nat, vs = [.int (n : Int)] ∧ n ≠ 0 ∧ Q (.int (low n : Int)) H
theorem ok_lp (T : Txt K mg) : FnOk P w K mg base CX0 3 T.f_lowest_power T.d_lowest_power ["number"] spLp := by
  refine T.F_lowest_power.ok sc_lowest_power (fun vs H Q E h => ?_) (fun cdv A outer s H vs Q E hr h => ?_)
  · obtain ⟨n, rfl, _⟩ := h
    rfl
  · obtain ⟨n, rfl, h0, q⟩ := h
    refine ⟨_, (pss_one (ps_ret (pe_op op_and (pv 0) (pe_un un_neg (pv 0))))), ?_⟩
    rw [← low_bits h0] at q
    exact ⟨_, rfl, _, rfl, _, rfl, _, _, rfl, rfl, q⟩
def spPs : Sp := fun vs H Q _ => ∃ a r : Nat, vs = [.int (a : Int), .int (r : Int)] ∧ r ≠ 0 ∧ r < 2 ^ 200 ∧ Q (.int (szP a r : Int)) H
theorem ok_ps (T : Txt K mg) : FnOk P w K mg base CX0 4 T.f_piece_size T.d_piece_size ["first", "room"] spPs := by
  have G_greatest_power := ok_gp (P := P) (w := w) (base := base) T
  have G_lowest_power := ok_lp (P := P) (w := w) (base := base) T
  refine T.F_piece_size.ok sc_piece_size (fun vs H Q E h => ?_) (fun cdv A outer s H vs Q E hr h => ?_)
  · obtain ⟨a, r, rfl, _⟩ := h
    rfl
  · obtain ⟨a, r, rfl, h0, h1, q⟩ := h
    refine ⟨_, (pss_cons (ps_set (i := 2) sc_piece_size.nd rfl (.inl rfl) (pe_call G_greatest_power (hr.mono (by omega)) rfl T.g_greatest_power T.F_greatest_power.kp T.b_greatest_power .nil pass0 (pa_cons (pv 1) pa_nil)))
      (pss_cons (ps_if (pt_cmpR op_eq (pv 0) pe_int (nomark _)) (pss_one (ps_ret (pv 2))) pss_nil)
      (pss_one (ps_ret (pe_callB (call_min2 rfl) (by rfl) T.z_min (by decide +kernel) (pa_cons (pv 2) (pa_cons (pe_call G_lowest_power (hr.mono (by omega)) rfl T.g_lowest_power T.F_lowest_power.kp T.b_lowest_power .nil pass0 (pa_cons (pv 0) pa_nil)) pa_nil))))))), ?_⟩
    refine ⟨_, rfl, r, rfl, h0, h1, _, rfl, rfl, _, rfl, ite2 (fun e => ?_) (fun e => ?_)⟩
    · have e1 := V.int.inj (of_decide_eq_true e)
      have e2 : szP a r = 2 ^ r.log2 := if_pos (by omega)
      rw [e2] at q
      exact ⟨_, rfl, q⟩
    · have e1 : a ≠ 0 := fun z => e (dT (by rw [z]; rfl))
      have e2 : szP a r = min (2 ^ r.log2) (low a) := if_neg e1
      refine ⟨_, rfl, _, rfl, a, rfl, e1, _, _, rfl, ?_⟩
      have e3 : (if (low a : Int) < ((2 ^ r.log2 : Nat) : Int) then (low a : Int) else ((2 ^ r.log2 : Nat) : Int)) = (szP a r : Int) := by
        rw [e2]
        split <;> omega
      rw [e3]
      exact q
/-- a list of pairs at p -/
def PL (H : Hp) (p : Addr) (l : List (Nat × Nat)) : Prop := ∃ ts : List Addr, H p = some (.lst (ts.map V.ref)) ∧ ts.length = l.length ∧
  ∀ (i : Nat) (t : Addr) (x : Nat × Nat), ts[i]? = some t → l[i]? = some x → H t = some (.tup [.int (x.1 : Int), .int (x.2 : Int)])
theorem PL.same {H H1 : Hp} {p : Addr} {l : List (Nat × Nat)} (h : PL H p l) (s : Same H H1) : PL H1 p l := by
  obtain ⟨ts, a, b, c⟩ := h
  exact ⟨ts, s _ _ a, b, fun i t x e1 e2 => s _ _ (c i t x e1 e2)⟩
theorem PL.nil {H : Hp} {p : Addr} : PL (upd H p (.lst [])) p [] := ⟨[], upd_same, rfl, fun i t x e => by simp at e⟩
theorem PL.add {H : Hp} {p t : Addr} {l : List (Nat × Nat)} {ts : List Addr} {x : Nat × Nat} (e1 : H p = some (.lst (ts.map V.ref))) (e2 : ts.length = l.length)
    (e3 : ∀ (i : Nat) (t : Addr) (x : Nat × Nat), ts[i]? = some t → l[i]? = some x → H t = some (.tup [.int (x.1 : Int), .int (x.2 : Int)])) (n : H t = none) :
    PL (upd (upd H t (.tup [.int (x.1 : Int), .int (x.2 : Int)])) p (.lst ((ts.map V.ref) ++ [V.ref t]))) p (l ++ [x]) := by
  have ntp : t ≠ p := (ne_of_none e1 n).symm
  refine ⟨ts ++ [t], by rw [upd_same, List.map_append]; rfl, by rw [List.length_append, List.length_append, e2]; rfl, fun i u y f1 f2 => ?_⟩
  by_cases hi : i < ts.length
  · rw [List.getElem?_append_left hi] at f1
    rw [List.getElem?_append_left (by omega)] at f2
    have g := e3 i u y f1 f2
    have hup : u ≠ p := fun z => by
      rw [z, e1] at g
      cases g
    rw [upd_ne hup, upd_ne (ne_of_none g n)]
    exact g
  · rw [List.getElem?_append_right (by omega)] at f1 f2
    by_cases hz : i - ts.length = 0
    · rw [hz] at f1
      rw [show i - l.length = 0 by omega] at f2
      cases f1
      cases f2
      rw [upd_ne ntp, upd_same]
    · rw [show i - ts.length = (i - ts.length - 1) + 1 by omega] at f1
      simp at f1
def spPieces : Sp := fun vs H Q _ => ∃ a r : Nat, vs = [.int (a : Int), .int ((a + r : Nat) : Int)] ∧ a + r ≤ 10 ^ 30 ∧ ∀ p H', H p = none → Same H H' → PL H' p (pcF 201 a r) → Q (.ref p) H'
theorem ok_pieces (T : Txt K mg) : FnOk P w K mg base CX0 5 T.f_pieces T.d_pieces ["begin", "end"] spPieces := by
  have G_piece_size := ok_ps (P := P) (w := w) (base := base) T
  have G_check_number := ok_check (P := P) (w := w) (base := base) T
  refine T.F_pieces.ok sc_pieces (fun vs H Q E h => ?_) (fun cdv A outer s H vs Q E hr h => ?_)
  · obtain ⟨a, r, rfl, _⟩ := h
    rfl
  · obtain ⟨a, r, rfl, h0, q⟩ := h
    refine ⟨_, (pss_cons (ps_expr (pe_call G_check_number (hr.mono (by omega)) rfl T.g_check_number T.F_check_number.kp T.b_check_number .nil pass0 (pa_cons (pv 0) pa_nil)))
      (pss_cons (ps_expr (pe_call G_check_number (hr.mono (by omega)) rfl T.g_check_number T.F_check_number.kp T.b_check_number .nil pass0 (pa_cons (pv 1) pa_nil)))
      (pss_cons (ps_if (pt_cmpR op_gt (pv 0) (pv 1) (nomark _)) (pss_one ps_never) pss_nil)
      (pss_cons (ps_set (i := 2) sc_pieces.nd rfl (.inl rfl) (pe_lst pa_nil))
      (pss_cons (ps_set (i := 3) sc_pieces.nd rfl (.inl rfl) (pv 0))
      (pss_cons (ps_while PassesOwn.never (pt_cmpR op_lt (pv 3) (pv 1) (nomark _)) (pss_cons (ps_set (i := 4) sc_pieces.nd rfl (.inl rfl) (pe_call G_piece_size (hr.mono (by omega)) rfl T.g_piece_size T.F_piece_size.kp T.b_piece_size .nil pass0 (pa_cons (pv 3) (pa_cons (pe_op op_sub (pv 1) (pv 3)) pa_nil))))
        (pss_cons (ps_expr (pe_bm PySem.F.plainAttrs_list PySem.F.slot_list_append PySem.F.type_list_append mt_append (pv 2) (pa_cons (pe_tup (pa_cons (pv 3) (pa_cons (pv 4) pa_nil))) pa_nil)))
        (pss_one (ps_aug (i := 3) sc_pieces.nd rfl (.inl rfl) (pv 4) ip_add)))))
      (pss_one (ps_ret (pv 2))))))))), ?_⟩
    refine ⟨_, rfl, a, rfl, by omega, ?_⟩
    refine ⟨_, rfl, a + r, rfl, h0, ?_⟩
    refine ⟨_, rfl, _, rfl, _, _, rfl, rfl, _, rfl, ifF (dF (by omega)) ?_⟩
    refine ⟨Nat.zero_le _, fun o no => ?_⟩
    refine ⟨_, rfl, ?_⟩
    have hb : a + r ≤ 2 ^ 100 := Nat.le_of_lt (Nat.lt_of_le_of_lt h0 p100)
    refine while_by (fun σ H' => ∃ (x y k : Nat) (acc : List (Nat × Nat)) (z : Option V), σ = [some (.int (a : Int)), some (.int ((a + r : Nat) : Int)), some (.ref o), some (.int (x : Int)), z] ∧ x + y = a + r ∧ enough k x y ∧ acc.length + k ≤ 201 ∧ acc ++ pcF k x y = pcF 201 a r ∧ Same H H' ∧ PL H' o acc)
      (fun σ _ => a + r - intAt σ 3) ⟨a, r, 201, [], none, rfl, rfl, enough_all h0, Nat.le_refl _, rfl, same_new no, PL.nil⟩ ?_ ?_
    · rintro σ H' ⟨x, y, k, acc, z, rfl, hxy, hk, hl, he, hs, ho⟩
      refine ⟨_, rfl, _, rfl, _, _, rfl, rfl, _, rfl, ite2 (fun e => ?_) (fun e => ?_)⟩
      · have e1 := of_decide_eq_true e
        have y0 : y ≠ 0 := by omega
        obtain ⟨k, rfl, hk2, s1, s0, _⟩ := enough_step hk y0 (by omega)
        refine ⟨_, rfl, _, rfl, _, rfl, _, _, rfl, rfl, x, y, by show [V.int (x : Int), V.int (((a + r : Nat) : Int) - (x : Int))] = _; rw [show (((a + r : Nat) : Int) - (x : Int)) = (y : Int) by omega], y0, by omega, ?_⟩
        obtain ⟨ts, t1, t2, t3⟩ := ho
        refine ⟨_, rfl, .inl ⟨rfl, _, .inl (.inl t1)⟩, _, rfl, _, rfl, le2, fun t nt => ?_⟩
        have ntp : o ≠ t := ne_of_none t1 nt
        refine ⟨o, _, _, rfl, rfl, by rw [upd_ne ntp]; exact t1, ?_, ?_⟩
        · rw [List.length_map]
          exact small1000 (by omega)
        · refine ⟨_, rfl, _, rfl, _, _, rfl, rfl, ?_⟩
          refine ⟨⟨x + szP x y, y - szP x y, k, acc ++ [(x, szP x y)], some (.int (szP x y : Int)), rfl, by omega, hk2, ?_, ?_, same_put (same_put hs (hs.free nt)) no, PL.add (x := (x, szP x y)) t1 t2 t3 nt⟩, ?_⟩
          · rw [List.length_append]
            show acc.length + 1 + k ≤ 201
            omega
          · rw [← he, pcF_pos y0, List.append_assoc]
            rfl
          · show a + r - ((x : Int) + (szP x y : Int)).toNat < a + r - ((x : Int)).toNat
            omega
      · have e1 : y = 0 := by
          have : ¬ ((x : Int) < ((a + r : Nat) : Int)) := fun z => e (dT z)
          omega
        subst e1
        rw [pcF_zero, List.append_nil] at he
        subst he
        exact ⟨_, rfl, q o H' no hs ho⟩
    · rintro σ H' Q1 Q2 m ⟨x, hx, y, hy, i, j, e1, e2, c, e3, q⟩
      exact ⟨x, hx, y, hy, i, j, e1, e2, c, e3, m _ _ q⟩
end
end Ob

set_option Elab.async false
set_option linter.all false
set_option maxRecDepth 100000
set_option maxHeartbeats 1000000
namespace Ob
open PySem PySem.Spec PyProof.Rows L2

theorem nT {p : Prop} [Decidable p] (h : ¬ p) : (!decide p) = true := by simp [h]
theorem nF {p : Prop} [Decidable p] (h : p) : (!decide p) = false := by simp [h]
theorem nOf {p : Prop} [Decidable p] (h : (!decide p) = true) : ¬ p := by simpa using h
theorem pOf {p : Prop} [Decidable p] (h : ¬ (!decide p) = true) : p := by simpa using h
section
variable {P : Program} {w : World} {K : PySem.W.Frag} {mg : Str → Option Value} {base : Heap}
def spIs : Sp := fun vs H Q _ => ∃ (x : Nat) (j : Nat), vs = [.int (x : Int), .int ((2 ^ j : Nat) : Int)] ∧ j ≤ 101 ∧ Q (.bl (decide (x % 2 ^ j = 0))) H
theorem ok_is (T : Txt K mg) : FnOk P w K mg base CX0 3 T.f_l_is_piece T.d_l_is_piece ["_law_first", "_law_size"] spIs := by
  refine T.F_l_is_piece.ok sc_l_is_piece (fun vs H Q E h => ?_) (fun cdv A outer s H vs Q E hr h => ?_)
  · obtain ⟨x, j, rfl, _⟩ := h
    rfl
  · obtain ⟨x, j, rfl, hj, q⟩ := h
    refine ⟨_, (pss_cons (ps_while PassesOwn.never (PW.pt (pw_and (pt_cmpR op_gt (pv 1) pe_int (nomark _)) (pw_and1 (pt_cmpR op_eq (pe_op op_modN (pv 1) pe_int) pe_int (nomark _))))) (pss_cons (ps_if (pt_cmpR op_ne (pe_op op_modN (pv 0) (pv 1)) pe_int (nomark _)) (pss_one (ps_ret pe_bl)) pss_nil)
        (pss_one (ps_set (i := 1) sc_l_is_piece.nd rfl (.inl rfl) (pe_op op_fdivW (pv 1) pe_int)))))
      (pss_one (ps_ret (pe_cmpR op_eq (pv 1) pe_int (nomark _))))), ?_⟩
    refine while_by (fun σ H' => H' = H ∧ ∃ i : Nat, σ = [some (.int (x : Int)), some (.int ((2 ^ i : Nat) : Int))] ∧ i ≤ j ∧ (i < j → x % 2 ^ j = 0))
      (fun σ _ => intAt σ 1) ⟨rfl, j, rfl, Nat.le_refl _, fun z => absurd z (Nat.lt_irrefl _)⟩ ?_ ?_
    · rintro σ H' ⟨rfl, i, rfl, hi, hx⟩
      have hp := Nat.two_pow_pos i
      have hp2 : 2 ^ i ≤ 2 ^ 101 := Nat.pow_le_pow_right (by decide) (by omega)
      refine ⟨_, rfl, _, _, rfl, rfl, _, rfl, ite2 (fun e => ?_) (fun e => ?_)⟩
      · have e1 := of_decide_eq_true e
        obtain ⟨i, rfl⟩ : ∃ k, i = k + 1 := by
          cases i with
          | zero => exact absurd e1 (by decide)
          | succ k => exact ⟨k, rfl⟩
        have ev : (((2 ^ (i + 1) : Nat) : Int)).fmod 2 = 0 := by
          rw [Int.fmod_eq_emod_of_nonneg _ (by decide), Nat.pow_succ]
          omega
        refine ⟨_, rfl, _, _, rfl, rfl, (by show (2 : Int) ≠ 0; decide), rfl, _, rfl, ifT (dT (congrArg V.int ev)) ?_⟩
        have fm : (x : Int).fmod ((2 ^ (i + 1) : Nat) : Int) = ((x % 2 ^ (i + 1) : Nat) : Int) := by
          rw [Int.fmod_eq_emod_of_nonneg _ (by omega)]
          rfl
        refine ⟨_, rfl, _, rfl, _, _, rfl, rfl, by omega, rfl, _, rfl, ite2 (fun e2 => ?_) (fun e2 => ?_)⟩
        · have n0 : ¬ x % 2 ^ j = 0 := fun z => by
            exact nOf e2 (congrArg V.int (fm.trans (by rw [mod_le z hi]; rfl)))
          rw [dF n0] at q
          exact q
        · have n0 : x % 2 ^ (i + 1) = 0 := by
            have z := V.int.inj (pOf e2)
            have z2 := fm.symm.trans z
            omega
          refine ⟨_, rfl, _, _, rfl, rfl, wide_div (b := 2) (by decide) (by decide) (by decide) (by decide), ?_⟩
          have half : (((2 ^ (i + 1) : Nat) : Int)) / 2 = ((2 ^ i : Nat) : Int) := by
            rw [Nat.pow_succ]
            omega
          refine ⟨⟨rfl, i, ?_, by omega, fun _ => ?_⟩, ?_⟩
          · rw [← half]
            rfl
          · by_cases c : i + 1 = j
            · rw [← c]
              exact n0
            · exact hx (by omega)
          · show ((((2 ^ (i + 1) : Nat) : Int)) / 2).toNat < (((2 ^ (i + 1) : Nat) : Int)).toNat
            omega
      · have e1 : i = 0 := by
          cases i with
          | zero => rfl
          | succ k =>
            refine absurd (dT ?_) e
            rw [Nat.pow_succ] at hp ⊢
            have := Nat.two_pow_pos k
            omega
        subst e1
        have n0 : x % 2 ^ j = 0 := by
          by_cases c : j = 0
          · rw [c]
            exact Nat.mod_one _
          · exact hx (by omega)
        rw [dT n0] at q
        exact ⟨_, rfl, rfl, q⟩
    · rintro σ H' Q1 Q2 m h
      obtain ⟨y, hy, i, j, e1, e2, c, e3, q⟩ := h
      refine ⟨y, hy, i, j, e1, e2, c, e3, ?_⟩
      cases c with
      | true =>
        obtain ⟨y, hy, i, j, e1, e2, e4, e5, c, e3, q⟩ := q
        exact ⟨y, hy, i, j, e1, e2, e4, e5, c, e3, m _ _ q⟩
      | false => exact m _ _ q
end
end Ob

set_option Elab.async false
set_option linter.all false
set_option maxRecDepth 100000
set_option maxHeartbeats 1000000
namespace Ob
open PySem PySem.Spec PyProof.Rows L2

def toI (l : List Nat) : List Int := l.map fun (x : Nat) => (x : Int)
def toV (l : List Nat) : List V := (toI l).map V.int
theorem toV_len (l : List Nat) : (toV l).length = l.length := by
  unfold toV toI
  rw [List.length_map, List.length_map]
theorem toV_app (l : List Nat) (x : Nat) : toV l ++ [V.int (x : Int)] = toV (l ++ [x]) := by
  unfold toV toI
  rw [List.map_append, List.map_append]
  rfl
theorem toV_at {l : List Nat} {i : Nat} {x : Nat} (h : l[i]? = some x) : (toV l)[i]? = some (.int (x : Int)) := by
  unfold toV toI
  rw [List.getElem?_map, List.getElem?_map, h]
  rfl
theorem cand_more {lo i j s : Nat} {cs : List Nat} (h : sizes7[j]? = some s) : cand lo i cs (sizes7.take (j + 1)) = cand lo i cs (sizes7.take j) ++ (if s ≤ i + 1 ∧ (lo + 1 + i - s) % s = 0 then [cs.getD (i + 1 - s) 0 + 1] else []) := by
  unfold cand
  rw [List.take_add_one, h, List.filterMap_append]
  show _ ++ List.filterMap _ [s] = _
  congr 1
  by_cases c : s ≤ i + 1 ∧ (lo + 1 + i - s) % s = 0
  · rw [if_pos c]
    exact List.filterMap_cons_some (by rw [if_pos c])
  · rw [if_neg c]
    exact List.filterMap_cons_none (by rw [if_neg c])
theorem cand_some (lo i : Nat) (cs : List Nat) : ∃ x, x ∈ cand lo i cs sizes7 := by
  refine ⟨cs.getD (i + 1 - 1) 0 + 1, ?_⟩
  unfold cand sizes7
  rw [List.filterMap_cons_some (b := cs.getD (i + 1 - 1) 0 + 1) (by rw [if_pos ⟨by omega, Nat.mod_one _⟩])]
  exact List.mem_cons_self ..
theorem sizes7_at {j s : Nat} (h : sizes7[j]? = some s) : s = 2 ^ j ∧ j < 7 := by
  match j, h with
  | 0, h => exact ⟨(Option.some.inj h).symm, by decide⟩
  | 1, h => exact ⟨(Option.some.inj h).symm, by decide⟩
  | 2, h => exact ⟨(Option.some.inj h).symm, by decide⟩
  | 3, h => exact ⟨(Option.some.inj h).symm, by decide⟩
  | 4, h => exact ⟨(Option.some.inj h).symm, by decide⟩
  | 5, h => exact ⟨(Option.some.inj h).symm, by decide⟩
  | 6, h => exact ⟨(Option.some.inj h).symm, by decide⟩
theorem cand_len (lo i : Nat) (cs : List Nat) (j : Nat) : (cand lo i cs (sizes7.take j)).length ≤ 7 := by
  unfold cand
  refine Nat.le_trans (List.length_filterMap_le ..) ?_
  rw [List.length_take]
  exact Nat.min_le_right _ _
theorem le7 : 7 ≤ sizeLine := by decide
theorem le1 : 1 ≤ sizeLine := by decide
section
variable {P : Program} {w : World} {K : PySem.W.Frag} {mg : Str → Option Value} {base : Heap}
def spFew : Sp := fun vs H Q _ => ∃ lo m : Nat, vs = [.int (lo : Int), .int ((lo + m : Nat) : Int)] ∧ lo < 100 ∧ m < 64 ∧ ∀ H', Same H H' → Q (.int ((pcF 201 lo m).length : Int)) H'
theorem ok_few (T : Txt K mg) : FnOk P w K mg base CX0 4 T.f_l_fewest T.d_l_fewest ["_law_low", "_law_high"] spFew := by
  have G_l_is_piece := ok_is (P := P) (w := w) (base := base) T
  refine T.F_l_fewest.ok sc_l_fewest (fun vs H Q E h => ?_) (fun cdv A outer s H vs Q E hr h => ?_)
  · obtain ⟨lo, m, rfl, _⟩ := h
    rfl
  · obtain ⟨lo, m, rfl, hlo, hm, q⟩ := h
    refine ⟨_, (pss_cons (ps_set (i := 2) sc_l_fewest.nd rfl (.inl rfl) (pe_lst (pa_cons pe_int pa_nil)))
      (pss_cons (ps_for PassesOwn.never rfl (pi_range2 (by rfl) T.z_range (pa_cons (pe_op op_add (pv 0) pe_int) (pa_cons (pe_op op_add (pv 1) pe_int) pa_nil))) (pg_name (i := 3) sc_l_fewest.nd rfl (.inl rfl)) (pss_cons (ps_set (i := 4) sc_l_fewest.nd rfl (.inl rfl) (pe_lst pa_nil))
        (pss_cons (ps_for PassesOwn.never rfl (pi_list (pe_lst (pa_cons pe_int (pa_cons pe_int (pa_cons pe_int (pa_cons pe_int (pa_cons pe_int (pa_cons pe_int (pa_cons pe_int pa_nil))))))))) (pg_name (i := 5) sc_l_fewest.nd rfl (.inl rfl)) (pss_one (ps_if (PW.pt (pw_and (pt_cmpR op_ge (pe_op op_sub (pv 3) (pv 5)) (pv 0) (nomark _)) (pw_and1 (pt_val (pe_call G_l_is_piece (hr.mono (by omega)) rfl T.g_l_is_piece T.F_l_is_piece.kp T.b_l_is_piece .nil pass0 (pa_cons (pe_op op_sub (pv 3) (pv 5)) (pa_cons (pv 5) pa_nil))))))) (pss_one (ps_expr (pe_bm PySem.F.plainAttrs_list PySem.F.slot_list_append PySem.F.type_list_append mt_append (pv 4) (pa_cons (pe_op op_add (pe_ix (r := rIxL K) ix_list (pv 2) (pe_op op_sub (pe_op op_sub (pv 3) (pv 5)) (pv 0)) (fun _ _ => rfl)) pe_int) pa_nil)))) pss_nil)))
        (pss_one (ps_expr (pe_bm PySem.F.plainAttrs_list PySem.F.slot_list_append PySem.F.type_list_append mt_append (pv 2) (pa_cons (pe_callB (cr_min rfl) (by rfl) T.z_min (by decide +kernel) (pa_cons (pv 4) pa_nil)) pa_nil)))))))
      (pss_one (ps_ret (pe_ix (r := rIxL K) ix_list (pv 2) (pe_op op_sub (pv 1) (pv 0)) (fun _ _ => rfl)))))), ?_⟩
    refine ⟨le1, fun o no => ?_⟩
    refine ⟨_, rfl, _, _, rfl, rfl, _, rfl, _, _, rfl, rfl, _, _, rfl, ⟨by omega, by omega, by omega, by omega⟩, ?_⟩
    rw [show (((lo + m : Nat) : Int) + 1 - ((lo : Int) + 1)).toNat = m by omega]
    refine for_range (lo := (lo : Int) + 1) (n := m) (fun i σ H' => Same H H' ∧ H' o = some (.lst (toV (dp lo i))) ∧ ∃ y1 y2 y3, σ = [some (.int (lo : Int)), some (.int ((lo + m : Nat) : Int)), some (.ref o), y1, y2, y3]) ⟨same_new no, upd_same, _, _, _, rfl⟩ ?_ ?_
    · rintro i σ H' hi ⟨hs, ho, y1, y2, y3, rfl⟩
      refine ⟨Nat.zero_le _, fun p np => ?_⟩
      have hop : o ≠ p := ne_of_none ho np
      refine ⟨le7, fun w nw => ?_⟩
      have hpw : p ≠ w := ne_of_none upd_same nw
      have how : o ≠ w := ne_of_none (show upd H' p (.lst []) o = some _ by rw [upd_ne hop]; exact ho) nw
      have nwH : H' w = none := by
        have z := nw
        rw [upd_ne hpw.symm] at z
        exact z
      refine ⟨w, rfl, ⟨_, .inl (.inl upd_same)⟩, for_list (xs := toV sizes7) (fun j σ H'' => Same H H'' ∧ H'' o = some (.lst (toV (dp lo i))) ∧ H'' w = some (.lst (toV sizes7)) ∧ H'' p = some (.lst (toV (cand lo i (dp lo i) (sizes7.take j)))) ∧
          ∃ y3, σ = [some (.int (lo : Int)), some (.int ((lo + m : Nat) : Int)), some (.ref o), some (.int ((lo : Int) + 1 + (i : Int))), some (.ref p), y3])
        ⟨same_put (same_put hs (hs.free np)) (hs.free nwH), by rw [upd_ne how, upd_ne hop]; exact ho, upd_same, by rw [upd_ne hpw, upd_same]; rfl, _, rfl⟩ (fun j σ H'' _ h => .inl (.inl h.2.2.1)) ?_ ?_⟩
      · rintro j x σ H2 hx ⟨s2, o2, w2, p2, z3, rfl⟩
        have hx2 : ∃ s, sizes7[j]? = some s ∧ x = .int (s : Int) := by
          unfold toV toI at hx
          rw [List.getElem?_map, List.getElem?_map] at hx
          cases e : sizes7[j]? with
          | none =>
            rw [e] at hx
            cases hx
          | some s =>
            rw [e] at hx
            exact ⟨s, rfl, (Option.some.inj hx).symm⟩
        obtain ⟨s, es, rfl⟩ := hx2
        obtain ⟨e2, hj⟩ := sizes7_at es
        have sp := Nat.two_pow_pos j
        refine ⟨_, rfl, _, rfl, _, _, rfl, rfl, _, rfl, _, _, rfl, rfl, _, rfl, ite2 (fun e => ?_) (fun e => ?_)⟩
        · have c1 : s ≤ i + 1 := by
            have := of_decide_eq_true e
            omega
          have ex : (lo : Int) + 1 + (i : Int) - (s : Int) = ((lo + 1 + i - s : Nat) : Int) := by omega
          refine ⟨_, rfl, _, rfl, _, _, rfl, rfl, _, rfl, lo + 1 + i - s, j, by show [V.int ((lo : Int) + 1 + (i : Int) - (s : Int)), V.int (s : Int)] = _; rw [ex, e2], by omega, ?_⟩
          refine ⟨_, rfl, ite2 (fun f => ?_) (fun f => ?_)⟩
          · have c2 : (lo + 1 + i - s) % s = 0 := by
              rw [e2]
              have := of_decide_eq_true f
              rw [e2] at this
              exact this
            have il : i + 1 - s < (dp lo i).length := by
              rw [dp_len]
              omega
            refine ⟨_, rfl, .inl ⟨rfl, _, .inl (.inl p2)⟩, _, rfl, _, rfl, _, rfl, _, _, rfl, rfl, _, rfl, _, _, rfl, rfl, o, _, _, .int (((dp lo i)[i + 1 - s] : Nat) : Int), rfl, rfl, .inl (.inl o2), at_of (j := i + 1 - s) (by omega) (toV_at (List.getElem?_eq_getElem il)), _, _, rfl, rfl, p, _, _, rfl, rfl, p2, ?_, ?_⟩
            · rw [toV_len]
              exact small1000 (by have := cand_len lo i (dp lo i) j; omega)
            · refine ⟨same_put s2 (hs.free np), by rw [upd_ne hop]; exact o2, by rw [upd_ne hpw.symm]; exact w2, ?_, _, rfl⟩
              rw [upd_same, cand_more es, if_pos ⟨c1, c2⟩, List.getD_eq_getElem?_getD, List.getElem?_eq_getElem il]
              exact congrArg (fun z => some (HO.lst z)) (toV_app _ _)
          · have c2 : ¬ (lo + 1 + i - s) % s = 0 := fun z => f (dT (by rw [← e2]; exact z))
            refine ⟨s2, o2, w2, ?_, _, rfl⟩
            rw [cand_more es, if_neg (fun z => c2 z.2), List.append_nil]
            exact p2
        · have c1 : ¬ s ≤ i + 1 := fun z => e (dT (by omega))
          refine ⟨s2, o2, w2, ?_, _, rfl⟩
          rw [cand_more es, if_neg (fun z => c1 z.1), List.append_nil]
          exact p2
      · rintro σ H2 ⟨s2, o2, w2, p2, z3, rfl⟩
        rw [show (toV sizes7).length = 7 from rfl, show sizes7.take 7 = sizes7 from rfl] at p2
        refine ⟨_, rfl, .inl ⟨rfl, _, .inl (.inl o2)⟩, _, rfl, p, toI (cand lo i (dp lo i) sizes7), rfl, .inl (.inl p2), ?_, fun mn hm1 hm2 => ?_⟩
        · obtain ⟨x, hx⟩ := cand_some lo i (dp lo i)
          unfold toI
          rw [List.length_map]
          exact List.length_pos_of_mem hx
        · unfold toI at hm1 hm2
          obtain ⟨mn, hm3, rfl⟩ := List.mem_map.mp hm1
          have hmin : minL (cand lo i (dp lo i) sizes7) = mn := minL_is hm3 fun y hy => by
            have := hm2 (y : Int) (List.mem_map.mpr ⟨y, hy, rfl⟩)
            omega
          refine ⟨o, _, _, rfl, rfl, o2, ?_, same_put s2 no, ?_, _, _, _, rfl⟩
          · rw [toV_len, dp_len]
            exact small1000 (by omega)
          · rw [upd_same, toV_app, ← hmin]
            rfl
    · rintro σ H' ⟨hs, ho, y1, y2, y3, rfl⟩
      refine ⟨_, rfl, _, rfl, _, rfl, _, _, rfl, rfl, o, _, _, _, rfl, rfl, .inl (.inl ho), at_of (j := m) (by omega) (toV_at (few_is hlo hm)), q _ hs⟩
end
end Ob

set_option Elab.async false
set_option linter.all false
set_option maxRecDepth 100000
set_option maxHeartbeats 1000000
namespace Ob
open PySem PySem.Spec PyProof.Rows L2

theorem kb_two {K : PySem.W.Frag} {x qual : Str} {st : Stmt} {f : Addr} {fd : FuncData} {n m : Str} (F : Fun K x qual st f fd)
    (h : ∀ (kV doc pm : Value) (an : Option Addr) (cdv ct v u : Value), bindArgs (PySem.W.fnOf x qual (defArgs st) (defBody st) (defScope st) .none kV doc pm an cdv ct) ⟨[], [(m, v), (n, u)]⟩ = pure [(n, u), (m, v)]) :
    KBn K fd [n, m] 0 [m, n] (fun _ ws => ws.reverse) (fun _ zs => zs.reverse) := by
  obtain ⟨oc, od, kV, doc, pm, an, cdv, ct, osl, rfl, lk, hcd⟩ := F.ex
  refine ⟨fun s us ws X l1 l2 => ?_, fun {vs us zs ws} _ r => ?_⟩
  · match us, ws, l1, l2 with
    | [], [v, u], _, _ => exact .of_eq (h kV doc pm an cdv ct v u)
  · have rv : ∀ {xs : List V} {ys : List Value}, Vals xs ys → ∀ {xs' : List V} {ys' : List Value}, Vals xs' ys' → Vals (xs.reverseAux xs') (ys.reverseAux ys') := by
      intro xs ys r
      induction r with
      | nil => exact fun r' => r'
      | cons a _ ih => exact fun r' => ih (.cons a r')
    exact rv r .nil
theorem dp_pairs {K : PySem.W.Frag} {H : Hp} : ∀ (l : List (Nat × Nat)) (ts : List Addr), ts.length = l.length → (∀ (i : Nat) (t : Addr) (x : Nat × Nat), ts[i]? = some t → l[i]? = some x → H t = some (.tup [.int (x.1 : Int), .int (x.2 : Int)])) →
    DpAll K H (ts.map V.ref) (l.map fun x => PyData.tuple [.int (x.1 : Int), .int (x.2 : Int)])
  | [], [], _, _ => .nil
  | x :: l, t :: ts, e, h => .cons (.tup (.inl (.inl (h 0 t x rfl rfl))) (.cons (.int _) (.cons (.int _) .nil))) (dp_pairs l ts (by simpa using e) fun i u y f g => h (i + 1) u y f g)
def pairsD (l : List (Nat × Nat)) : PyData := .list (l.map fun x => PyData.tuple [.int (x.1 : Int), .int (x.2 : Int)])
theorem dp_PL {K : PySem.W.Frag} {H : Hp} {p : Addr} {l : List (Nat × Nat)} (h : PL H p l) : Dp K H (.ref p) (pairsD l) := by
  obtain ⟨ts, a, b, c⟩ := h
  exact .lst (.inl (.inl a)) (dp_pairs l ts b c)
theorem lay_pairs : ∀ l : List (Nat × Nat), PyData.canLayAll0 (l.map fun x => PyData.tuple [.int (x.1 : Int), .int (x.2 : Int)]) = true ∧ PyData.depthAll (l.map fun x => PyData.tuple [.int (x.1 : Int), .int (x.2 : Int)]) ≤ 1
  | [] => ⟨rfl, by decide⟩
  | x :: l => by
    obtain ⟨a, b⟩ := lay_pairs l
    refine ⟨?_, ?_⟩
    · rw [List.map_cons]
      simp only [PyData.canLayAll0, PyData.canLay0, a, Bool.and_self]
    · rw [List.map_cons]
      simp only [PyData.depthAll, PyData.depth]
      omega
theorem sh_pairs (l : List (Nat × Nat)) : SeqAt.shaped (pairsD l) = true := by
  obtain ⟨a, b⟩ := lay_pairs l
  unfold SeqAt.shaped pairsD
  rw [Bool.and_eq_true]
  refine ⟨?_, decide_eq_true ?_⟩
  · simp only [PyData.canLay0, a]
  · simp only [PyData.depth]
    omega
theorem okP_end : ∀ {l : List (Nat × Nat)} {a b : Nat}, okP a l b → a ≤ b
  | [], a, b, h => Nat.le_of_eq h
  | (x, s) :: t, a, b, h => by
    obtain ⟨_, _, h3, _⟩ := h
    omega
section
variable {P : Program} {w : World} {K : PySem.W.Frag} {mg : Str → Option Value} {base : Heap}
def spRight : Sp := fun vs H Q _ => ∃ a r : Nat, vs = [.int (a : Int), .int ((a + r : Nat) : Int)] ∧ a + r ≤ 10 ^ 30 ∧ ∀ H', Same H H' → Q (.bl true) H'
theorem ok_right (T : Txt K mg) : FnOk P w K mg base CX0 6 T.f_l_right T.d_l_right ["_law_low", "_law_high"] spRight := by
  have G_pieces := ok_pieces (P := P) (w := w) (base := base) T
  have G_l_is_piece := ok_is (P := P) (w := w) (base := base) T
  have KB_pieces := kb_two (n := "begin") (m := "end") T.F_pieces fun _ _ _ _ _ _ _ _ => rfl
  refine T.F_l_right.ok sc_l_right (fun vs H Q E h => ?_) (fun cdv A outer s H vs Q E hr h => ?_)
  · obtain ⟨a, r, rfl, _⟩ := h
    rfl
  · obtain ⟨a, r, rfl, h0, q⟩ := h
    refine ⟨_, (pss_cons (ps_par (i := 2) (j := 3) (by rfl) sc_l_right.nd rfl rfl (by decide) rfl rfl (pa_cons (pe_call G_pieces (hr.mono (by omega)) rfl T.g_pieces T.F_pieces.kp T.b_pieces .nil pass0 (pa_cons (pv 0) (pa_cons (pv 1) pa_nil))) (pa_cons (pv 0) pa_nil)) (by rfl))
      (pss_cons (ps_if (pt_not (pt_val (pe_callB call_isi (by rfl) T.z_isinstance (by decide +kernel) (pa_cons (pv 2) (pa_cons (pe_bltn (v := .ty "list") (by rfl) T.z_list (by decide +kernel) rfl) pa_nil))))) (pss_one (ps_ret pe_bl)) pss_nil)
      (pss_cons (ps_for PassesOwn.never rfl (pi_range1 (by rfl) T.z_range (pa_cons (pe_callB call_len_seq (by rfl) T.z_len (by decide +kernel) (pa_cons (pv 2) pa_nil)) pa_nil)) (pg_name (i := 4) sc_l_right.nd rfl (.inl rfl)) (pss_cons (ps_asg (pe_ix (r := rIxL K) ix_list (pv 2) (pv 4) (fun _ _ => rfl)) (pg_tup (by rfl) (pgs_cons (pg_name (i := 5) sc_l_right.nd rfl (.inl rfl)) (pgs_cons (pg_name (i := 6) sc_l_right.nd rfl (.inl rfl)) pgs_nil))))
        (pss_cons (ps_if (PW.pt (pw_or (pt_not (pt_val (pe_callB call_isi (by rfl) T.z_isinstance (by decide +kernel) (pa_cons (pe_ix (r := rIxL K) ix_list (pv 2) (pv 4) (fun _ _ => rfl)) (pa_cons (pe_bltn (v := .ty "tuple") (by rfl) T.z_tuple (by decide +kernel) rfl) pa_nil))))) (pw_or (pt_cmpR op_ne (pv 5) (pv 3) (nomark _)) (pw_or1 (pt_not (pt_val (pe_call G_l_is_piece (hr.mono (by omega)) rfl T.g_l_is_piece T.F_l_is_piece.kp T.b_l_is_piece .nil pass0 (pa_cons (pv 5) (pa_cons (pv 6) pa_nil))))))))) (pss_one (ps_ret pe_bl)) pss_nil)
        (pss_cons (ps_if (PW.pt (pw_or (pt_val (pe_callB call_isi (by rfl) T.z_isinstance (by decide +kernel) (pa_cons (pv 5) (pa_cons (pe_bltn (v := .ty "bool") (by rfl) T.z_bool (by decide +kernel) rfl) pa_nil)))) (pw_or (pt_val (pe_callB call_isi (by rfl) T.z_isinstance (by decide +kernel) (pa_cons (pv 6) (pa_cons (pe_bltn (v := .ty "bool") (by rfl) T.z_bool (by decide +kernel) rfl) pa_nil)))) (pw_or1 (pt_cmpR op_lt (pv 6) pe_int (nomark _)))))) (pss_one (ps_ret pe_bl)) pss_nil)
        (pss_cons (ps_if (PW.pt (pw_and (pt_cmpR op_gt (pv 4) pe_int (nomark _)) (pw_and (pt_cmpR op_eq (pe_ix (r := rIxT K) ix_tup (pe_ix (r := rIxL K) ix_list (pv 2) (pe_op op_sub (pv 4) pe_int) (fun _ _ => rfl)) pe_int (fun _ _ => rfl)) (pv 6) (nomark _)) (pw_and1 (pt_cmpR op_eq (pe_op op_modN (pe_ix (r := rIxT K) ix_tup (pe_ix (r := rIxL K) ix_list (pv 2) (pe_op op_sub (pv 4) pe_int) (fun _ _ => rfl)) pe_int (fun _ _ => rfl)) (pe_op op_mul pe_int (pv 6))) pe_int (nomark _)))))) (pss_one (ps_ret pe_bl)) pss_nil)
        (pss_one (ps_set (i := 3) sc_l_right.nd rfl (.inl rfl) (pe_op op_add (pv 5) (pv 6)))))))))
      (pss_cons (ps_set (i := 7) sc_l_right.nd rfl (.inl rfl) (pe_callTy call_list_of (by rfl) T.z_list (by decide +kernel) (pa_cons (pv 2) pa_nil)))
      (pss_cons (ps_expr (pe_bm PySem.F.plainAttrs_list PySem.F.slot_list_append PySem.F.type_list_append mt_append (pv 2) (pa_cons pe_non pa_nil)))
      (pss_cons (ps_expr (pe_bm0 PySem.F.plainAttrs_list PySem.F.slot_list_reverse PySem.F.type_list_reverse mt_reverse (pv 2)))
      (pss_one (ps_ret (pe_and (pe_cmpR op_eq (pv 3) (pv 1) (nomark _)) (pe_one (pe_cmpR (op_eqD hr.units) (pe_kw0 G_pieces (hr.mono (by omega)) rfl T.g_pieces T.F_pieces.kp KB_pieces pass0 (pk_cons (pv 1) (pk_cons (pv 0) pk_nil))) (pv 7) (nomark _)))))))))))), ?_⟩
    have hb : a + r ≤ 2 ^ 100 := Nat.le_of_lt (Nat.lt_of_le_of_lt h0 p100)
    refine ⟨_, rfl, _, rfl, a, r, rfl, h0, fun p H1 np s1 e1 => ?_⟩
    refine ⟨_, rfl, _, _, rfl, ?_⟩
    obtain ⟨ts, t1, t2, t3⟩ := id e1
    have hB : SqL K H1 p (ts.map V.ref) := .inl (.inl t1)
    refine ⟨_, rfl, .ref p, .ty "list", .type "list", .type "list", true, rfl, .ty _, .base (.lst t1), kit_ty (by decide +kernel), true, rfl, iteF ?_⟩
    have hlen := pcF_len 201 a r
    have okl := okP_all 201 a r (enough_all h0) hb
    generalize hl : pcF 201 a r = l at e1 t2 t3 hlen okl
    refine ⟨_, rfl, p, _, rfl, .inl hB, _, rfl, ?_, ?_, ?_⟩
    · omega
    · rw [List.length_map]
      omega
    have el : ((((ts.map V.ref).length : Nat)) : Int).toNat = l.length := by
      rw [List.length_map]
      omega
    rw [el]
    refine for_range (fun i σ H' => H' = H1 ∧ ∃ (at_ : Nat) (y4 y5 y6 : Option V), σ = [some (.int (a : Int)), some (.int ((a + r : Nat) : Int)), some (.ref p), some (.int (at_ : Int)), y4, y5, y6, none] ∧ okP at_ (l.drop i) (a + r) ∧
        (∀ x s, 0 < i → l[i - 1]? = some (x, s) → ∀ y s', l[i]? = some (y, s') → ¬ (s' = s ∧ x % (2 * s) = 0))) ⟨rfl, a, _, _, _, rfl, okl, fun x s z => absurd z (Nat.lt_irrefl _)⟩ ?_ ?_
    · rintro i σ H' hi ⟨rfl, at_, y4, y5, y6, rfl, hok, hprev⟩
      obtain ⟨x, s, hx⟩ : ∃ x s, l[i]? = some (x, s) := ⟨_, _, List.getElem?_eq_getElem hi⟩
      have hit : i < ts.length := by omega
      have htx := t3 i _ _ (List.getElem?_eq_getElem hit) hx
      have hdrop : l.drop i = (x, s) :: l.drop (i + 1) := by
        rw [List.drop_eq_getElem_cons hi]
        congr 1
        exact Option.some.inj ((List.getElem?_eq_getElem hi).symm.trans hx)
      rw [hdrop] at hok
      obtain ⟨rfl, ⟨j, rfl, hj⟩, hle, hnx, hok2⟩ := hok
      have hp := Nat.two_pow_pos j
      have hj100 : j ≤ 101 := by
        have h1 : 2 ^ j ≤ 2 ^ 100 := by omega
        have := (Nat.pow_le_pow_iff_right (by decide)).mp h1
        omega
      have z0 : (0 : Int) + (i : Int) = (i : Int) := by omega
      have a1 : atI (ts.map V.ref) ((0 : Int) + (i : Int)) = some (.ref ts[i]) := at_of z0 (by rw [List.getElem?_map, List.getElem?_eq_getElem hit]; rfl)
      have hT : SqT K H' ts[i] [.int (x : Int), .int ((2 ^ j : Nat) : Int)] := .inl (.inl htx)
      refine ⟨_, rfl, _, rfl, p, _, _, _, rfl, rfl, hB, a1, _, _, rfl, hT, rfl, _, _, rfl, _, _, rfl, rfl, ?_⟩
      refine ⟨_, rfl, _, rfl, p, _, _, _, rfl, rfl, hB, a1, .ref ts[i], .ty "tuple", .type "tuple", .type "tuple", true, rfl, .ty _, .base (.tup htx), kit_ty (by decide +kernel), true, rfl, iteF ?_⟩
      refine ⟨_, rfl, _, rfl, rfl, _, rfl, ifF (by simp) ?_⟩
      refine ⟨_, rfl, _, rfl, x, j, rfl, hj100, true, by rw [dT hj], iteF ?_⟩
      refine ⟨_, rfl, .int _, .ty "bool", .type "int", .type "bool", false, rfl, .ty _, .base (.int _), kit_ty (by decide +kernel), false, rfl, iteF ?_⟩
      refine ⟨_, rfl, .int _, .ty "bool", .type "int", .type "bool", false, rfl, .ty _, .base (.int _), kit_ty (by decide +kernel), false, rfl, iteF ?_⟩
      refine ⟨_, rfl, _, _, rfl, rfl, _, rfl, ifF (dF (by omega)) ?_⟩
      have hnext : ∀ x' s', 0 < i + 1 → l[i + 1 - 1]? = some (x', s') → ∀ y s'', l[i + 1]? = some (y, s'') → ¬ (s'' = s' ∧ x' % (2 * s') = 0) := fun x' s' _ f y s'' g => by
        rw [Nat.add_sub_cancel, hx] at f
        obtain ⟨rfl, rfl⟩ := Prod.mk.inj (Option.some.inj f)
        exact hnx y s'' (by rw [List.head?_drop]; exact g)
      refine ⟨_, rfl, _, _, rfl, rfl, _, rfl, ite2 (fun e => ?_) (fun e => ?_)⟩
      · have e2 := of_decide_eq_true e
        have e3 : i - 1 < ts.length := by omega
        have e4 : i - 1 < l.length := by omega
        obtain ⟨x', s', hx'⟩ : ∃ x s, l[i - 1]? = some (x, s) := ⟨_, _, List.getElem?_eq_getElem e4⟩
        have hty := t3 (i - 1) _ _ (List.getElem?_eq_getElem e3) hx'
        have a2 : atI (ts.map V.ref) ((0 : Int) + (i : Int) - 1) = some (.ref ts[i - 1]) := at_of (j := i - 1) (by omega) (by rw [List.getElem?_map, List.getElem?_eq_getElem e3]; rfl)
        have hT2 : SqT K H' ts[i - 1] [.int (x' : Int), .int (s' : Int)] := .inl (.inl hty)
        refine ⟨_, rfl, _, rfl, _, _, rfl, rfl, p, _, _, _, rfl, rfl, hB, a2, _, _, _, _, rfl, rfl, hT2, atI_nat (j := 1) rfl, _, rfl, rfl, _, rfl, ite2 (fun f => ?_) (fun f => ?_)⟩
        · have f1 := V.int.inj (of_decide_eq_true f)
          have f2 : s' = 2 ^ j := by omega
          have nz : ¬ x' % (2 * 2 ^ j) = 0 := fun z => hprev x' s' (by omega) hx' x (2 ^ j) hx ⟨f2.symm, by rw [f2]; exact z⟩
          have fm : (x' : Int).fmod (2 * ((2 ^ j : Nat) : Int)) = ((x' % (2 * 2 ^ j) : Nat) : Int) := by
            rw [Int.fmod_eq_emod_of_nonneg _ (by omega), show (2 * ((2 ^ j : Nat) : Int)) = ((2 * 2 ^ j : Nat) : Int) by omega]
            rfl
          refine ⟨_, rfl, _, rfl, _, _, rfl, rfl, p, _, _, _, rfl, rfl, hB, a2, _, _, _, _, rfl, rfl, hT2, atI_nat (j := 0) rfl, _, rfl, _, _, rfl, rfl, .inl ⟨by decide, by decide⟩, _, _, rfl, rfl, by omega, rfl, _, rfl, ifF (dF fun z => nz ?_) ?_⟩
          · have := fm.symm.trans (V.int.inj z)
            omega
          · exact ⟨_, rfl, _, rfl, _, _, rfl, rfl, rfl, x + 2 ^ j, _, _, _, rfl, hok2, hnext⟩
        · exact ⟨_, rfl, _, rfl, _, _, rfl, rfl, rfl, x + 2 ^ j, _, _, _, rfl, hok2, hnext⟩
      · exact ⟨_, rfl, _, rfl, _, _, rfl, rfl, rfl, x + 2 ^ j, _, _, _, rfl, hok2, hnext⟩
    · rintro σ H' ⟨rfl, at_, y4, y5, y6, rfl, hok, _⟩
      rw [List.drop_length] at hok
      have hok2 : at_ = a + r := hok
      subst hok2
      refine ⟨_, rfl, p, _, rfl, .inl hB, fun d nd => ?_⟩
      have npd : p ≠ d := ne_of_none t1 nd
      refine ⟨_, rfl, .inl ⟨rfl, _, .inl (.inl (by rw [upd_ne npd]; exact t1))⟩, p, _, _, rfl, rfl, (by rw [upd_ne npd]; exact t1), ?_, ?_⟩
      · rw [List.length_map]
        exact small1000 (by omega)
      refine ⟨_, rfl, .inl ⟨rfl, _, .inl (.inl upd_same)⟩, p, _, rfl, rfl, upd_same, ?_⟩
      refine ⟨_, rfl, _, rfl, rfl, _, rfl, ifT (dT rfl) ?_⟩
      have sA : Same H (upd H' d (.lst (ts.map V.ref))) := same_put s1 (s1.free nd)
      have sB : Same H (upd (upd H' d (.lst (ts.map V.ref))) p (.lst (ts.map V.ref ++ [.non]))) := same_put sA np
      have sC : Same H (upd (upd (upd H' d (.lst (ts.map V.ref))) p (.lst (ts.map V.ref ++ [.non]))) p (.lst (ts.map V.ref ++ [V.non]).reverse)) := same_put sB np
      have PLd : PL (upd (upd (upd H' d (.lst (ts.map V.ref))) p (.lst (ts.map V.ref ++ [.non]))) p (.lst (ts.map V.ref ++ [V.non]).reverse)) d l := by
        refine ⟨ts, by rw [upd_ne npd.symm, upd_ne npd.symm, upd_same], t2, fun i t x f g => ?_⟩
        have h1 := t3 i t x f g
        have n1 : t ≠ p := fun z => by
          rw [z, t1] at h1
          cases h1
        rw [upd_ne n1, upd_ne n1, upd_ne (ne_of_none h1 nd)]
        exact h1
      refine ⟨_, rfl, _, rfl, rfl, rfl, a, r, rfl, h0, fun p2 H2 np2 s4 e4 => ?_⟩
      rw [hl] at e4
      refine ⟨_, rfl, _, _, dp_PL e4, dp_PL (PLd.same s4), sh_pairs _, sh_pairs _, ?_⟩
      rw [SeqAt.eqv_refl _ (SeqAt.canLay_of_shaped (sh_pairs _))]
      exact q _ (sC.trans s4)
end
end Ob

set_option Elab.async false
set_option linter.all false
set_option maxRecDepth 100000
set_option maxHeartbeats 1000000
namespace Ob
open PySem PySem.Spec PyProof.Rows L2

theorem le4 : 4 ≤ sizeLine := by decide
section
variable {P : Program} {w : World} {K : PySem.W.Frag} {mg : Str → Option Value} {base : Heap}
def spRange : Sp := fun vs H Q _ => ∃ p : Addr, vs = [.ref p] ∧ Bag H p ∧ ∀ (a r : Nat) t H', a + r ≤ 10 ^ 30 → Bag H' p → But p H H' → H' t = some (.tup [.int (a : Int), .int ((a + r : Nat) : Int)]) → Q (.ref t) H'
theorem ok_range (T : Txt K mg) : FnOk P w K mg base CX0 4 T.f_l_range T.d_l_range ["_law_bag_here"] spRange := by
  have G_l_take := ok_take (P := P) (w := w) (base := base) T
  refine T.F_l_range.ok sc_l_range (fun vs H Q E h => ?_) (fun cdv A outer s H vs Q E hr h => ?_)
  · obtain ⟨p, rfl, _⟩ := h
    rfl
  · obtain ⟨p, rfl, hb, q⟩ := h
    refine ⟨_, (pss_cons (ps_set (i := 1) sc_l_range.nd rfl (.inl rfl) (pe_lst (pa_cons (pe_call G_l_take (hr.mono (by omega)) rfl T.g_l_take T.F_l_take.kp T.b_l_take .nil pass0 (pa_cons (pv 0) (pa_cons pe_int pa_nil))) (pa_cons pe_int (pa_cons (pe_call G_l_take (hr.mono (by omega)) rfl T.g_l_take T.F_l_take.kp T.b_l_take .nil pass0 (pa_cons (pv 0) (pa_cons (pe_op op_pow pe_int pe_int) pa_nil))) (pa_cons (pe_op op_sub (pe_op op_shlW pe_int (pe_call G_l_take (hr.mono (by omega)) rfl T.g_l_take T.F_l_take.kp T.b_l_take .nil pass0 (pa_cons (pv 0) (pa_cons pe_int pa_nil)))) (pe_call G_l_take (hr.mono (by omega)) rfl T.g_l_take T.F_l_take.kp T.b_l_take .nil pass0 (pa_cons (pv 0) (pa_cons pe_int pa_nil)))) pa_nil))))))
      (pss_cons (ps_set (i := 2) sc_l_range.nd rfl (.inl rfl) (pe_ix (r := rIxL K) ix_list (pv 1) (pe_call G_l_take (hr.mono (by omega)) rfl T.g_l_take T.F_l_take.kp T.b_l_take .nil pass0 (pa_cons (pv 0) (pa_cons pe_int pa_nil))) (fun _ _ => rfl)))
      (pss_cons (ps_set (i := 3) sc_l_range.nd rfl (.inl rfl) (pe_ix (r := rIxL K) ix_list (pe_lst (pa_cons (pe_call G_l_take (hr.mono (by omega)) rfl T.g_l_take T.F_l_take.kp T.b_l_take .nil pass0 (pa_cons (pv 0) (pa_cons pe_int pa_nil))) (pa_cons (pe_call G_l_take (hr.mono (by omega)) rfl T.g_l_take T.F_l_take.kp T.b_l_take .nil pass0 (pa_cons (pv 0) (pa_cons (pe_op op_pow pe_int pe_int) pa_nil))) (pa_cons (pe_op op_shlW pe_int (pe_call G_l_take (hr.mono (by omega)) rfl T.g_l_take T.F_l_take.kp T.b_l_take .nil pass0 (pa_cons (pv 0) (pa_cons pe_int pa_nil)))) pa_nil)))) (pe_call G_l_take (hr.mono (by omega)) rfl T.g_l_take T.F_l_take.kp T.b_l_take .nil pass0 (pa_cons (pv 0) (pa_cons pe_int pa_nil))) (fun _ _ => rfl)))
      (pss_one (ps_ret (pe_tup (pa_cons (pv 2) (pa_cons (pe_callB (call_min2 rfl) (by rfl) T.z_min (by decide +kernel) (pa_cons (pe_op op_add (pv 2) (pv 3)) (pa_cons (pe_op op_pow pe_int pe_int) pa_nil))) pa_nil)))))))), ?_⟩
    have bp : ((10 : Int) ^ Int.toNat 30).natAbs < 2 ^ 200 := by rw [p10]; decide +kernel
    have bp0 : (0 : Int) < (10 : Int) ^ Int.toNat 30 := by rw [p10]; decide +kernel
    have e90 : (2 : Nat) ^ 89 < 10 ^ 30 := by decide +kernel
    -- the first of four
    refine ⟨_, rfl, p, _, rfl, hb, by decide, by decide, fun a H1 a0 a1 b1 k1 => ?_⟩
    refine ⟨_, rfl, _, _, rfl, rfl, ⟨by decide, by decide, by decide⟩, p, _, rfl, b1, bp0, bp, fun c H2 c0 c1 b2 k2 => ?_⟩
    refine ⟨_, rfl, p, _, rfl, b2, by decide, by decide, fun r H3 r0 r1 b3 k3 => ?_⟩
    obtain ⟨r, rfl⟩ := Int.eq_ofNat_of_zero_le r0
    have hp := Nat.two_pow_pos r
    have hp2 : 2 ^ r ≤ 2 ^ 89 := Nat.pow_le_pow_right (by decide) (by omega)
    have e1 : (1 : Int) * 2 ^ ((r : Int)).toNat = ((2 ^ r : Nat) : Int) := by
      rw [Int.one_mul, Int.toNat_natCast, pow_nat]
    refine ⟨_, _, rfl, rfl, shl_ok (n := 1) (by decide) (by omega), _, rfl, p, _, rfl, b3, by decide, by decide, fun d H4 d0 d1 b4 k4 => ?_⟩
    refine ⟨_, _, rfl, rfl, le4, fun o no => ?_⟩
    have k4' : But p H H4 := but_trans k1 (but_trans k2 (but_trans k3 k4))
    refine ⟨_, rfl, _, rfl, p, _, rfl, bag_put b4 no, by decide, by decide, fun x H5 x0 x1 b5 k5 => ?_⟩
    have k5' : But p H H5 := but_trans (but_put k4' no) k5
    have eo := k5 o _ upd_same (bag_ne b4 no)
    obtain ⟨x, rfl⟩ := Int.eq_ofNat_of_zero_le x0
    rw [p10] at c1
    have pick : ∃ v : Nat, v ≤ 10 ^ 30 ∧ atI [V.int a, V.int 0, V.int c, V.int ((1 : Int) * 2 ^ ((r : Int)).toNat - d)] (x : Int) = some (.int (v : Int)) := by
      have mk : ∀ (j : Nat) (z : Int), ([V.int a, V.int 0, V.int c, V.int ((1 : Int) * 2 ^ ((r : Int)).toNat - d)])[j]? = some (.int z) → 0 ≤ z → z ≤ ((10 ^ 30 : Nat) : Int) →
          ∃ v : Nat, v ≤ 10 ^ 30 ∧ atI [V.int a, V.int 0, V.int c, V.int ((1 : Int) * 2 ^ ((r : Int)).toNat - d)] (j : Int) = some (.int (v : Int)) := fun j z e z0 z1 => by
        obtain ⟨v, rfl⟩ := Int.eq_ofNat_of_zero_le z0
        exact ⟨v, by omega, atI_nat e⟩
      have hx : x < 4 := by omega
      match x, hx with
      | 0, _ => exact mk 0 a rfl a0 (by omega)
      | 1, _ => exact mk 1 0 rfl (by decide) (by omega)
      | 2, _ => exact mk 2 c rfl c0 (by omega)
      | 3, _ => exact mk 3 _ rfl (by rw [e1]; omega) (by rw [e1]; omega)
      | x + 4, hx => exact absurd hx (by omega)
    obtain ⟨lo, hlo, hv⟩ := pick
    refine ⟨o, _, _, _, rfl, rfl, .inl (.inl eo), hv, ?_⟩
    -- how many more
    refine ⟨_, rfl, p, _, rfl, b5, by decide, by decide, fun a' H6 a0' a1' b6 k6 => ?_⟩
    refine ⟨_, rfl, _, _, rfl, rfl, ⟨by decide, by decide, by decide⟩, p, _, rfl, b6, bp0, bp, fun c' H7 c0' c1' b7 k7 => ?_⟩
    refine ⟨_, rfl, p, _, rfl, b7, by decide, by decide, fun r' H8 r0' r1' b8 k8 => ?_⟩
    obtain ⟨r', rfl⟩ := Int.eq_ofNat_of_zero_le r0'
    have hp' := Nat.two_pow_pos r'
    have e1' : (1 : Int) * 2 ^ ((r' : Int)).toNat = ((2 ^ r' : Nat) : Int) := by
      rw [Int.one_mul, Int.toNat_natCast, pow_nat]
    refine ⟨_, _, rfl, rfl, shl_ok (n := 1) (by decide) (by omega), le3, fun o' no' => ?_⟩
    have k8' : But p H H8 := but_trans k5' (but_trans k6 (but_trans k7 k8))
    refine ⟨_, rfl, p, _, rfl, bag_put b8 no', by decide, by decide, fun x' H9 x0' x1' b9 k9 => ?_⟩
    have k9' : But p H H9 := but_trans (but_put k8' no') k9
    have eo' := k9 o' _ upd_same (bag_ne b8 no')
    obtain ⟨x', rfl⟩ := Int.eq_ofNat_of_zero_le x0'
    have pick : ∃ v : Nat, atI [V.int a', V.int c', V.int ((1 : Int) * 2 ^ ((r' : Int)).toNat)] (x' : Int) = some (.int (v : Int)) := by
      have mk : ∀ (j : Nat) (z : Int), ([V.int a', V.int c', V.int ((1 : Int) * 2 ^ ((r' : Int)).toNat)])[j]? = some (.int z) → 0 ≤ z →
          ∃ v : Nat, atI [V.int a', V.int c', V.int ((1 : Int) * 2 ^ ((r' : Int)).toNat)] (j : Int) = some (.int (v : Int)) := fun j z e z0 => by
        obtain ⟨v, rfl⟩ := Int.eq_ofNat_of_zero_le z0
        exact ⟨v, atI_nat e⟩
      have hx : x' < 3 := by omega
      match x', hx with
      | 0, _ => exact mk 0 a' rfl a0'
      | 1, _ => exact mk 1 c' rfl c0'
      | 2, _ => exact mk 2 _ rfl (by rw [e1']; omega)
      | x + 3, hx => exact absurd hx (by omega)
    obtain ⟨mo, hv'⟩ := pick
    refine ⟨o', _, _, _, rfl, rfl, .inl (.inl eo'), hv', ?_⟩
    refine ⟨_, rfl, _, rfl, _, rfl, _, _, rfl, rfl, _, _, rfl, rfl, ⟨by decide, by decide, by decide⟩, _, _, rfl, ?_⟩
    refine ⟨le2, fun t nt => ?_⟩
    obtain ⟨rr, hrr, err⟩ : ∃ rr : Nat, lo + rr ≤ 10 ^ 30 ∧ (if (10 : Int) ^ Int.toNat 30 < (lo : Int) + (mo : Int) then (10 : Int) ^ Int.toNat 30 else (lo : Int) + (mo : Int)) = ((lo + rr : Nat) : Int) := by
      rw [p10]
      split
      · exact ⟨10 ^ 30 - lo, by omega, by omega⟩
      · exact ⟨mo, by omega, by omega⟩
    refine q lo rr t _ hrr (bag_put b9 nt) (but_put k9' nt) ?_
    rw [upd_same, ← err]
end
end Ob

set_option Elab.async false
set_option linter.all false
set_option maxRecDepth 100000
set_option maxHeartbeats 1000000
namespace Ob
open PySem PySem.Spec PyProof.Rows L2

theorem pc99 : pcF 201 0 (2 ^ 99) = [(0, 2 ^ 99)] := by
  have h : (2 : Nat) ^ 99 ≠ 0 := by decide +kernel
  have e : szP 0 (2 ^ 99) = 2 ^ 99 := by
    unfold szP
    rw [if_pos rfl, Nat.log2_two_pow]
  rw [pcF_pos h, e, Nat.sub_self, pcF_zero]
theorem pc7 : pcF 201 0 7 = [(0, 4), (4, 2), (6, 1)] := by decide +kernel
theorem e99 : (1 : Int) * 2 ^ Int.toNat 99 = ((0 + 2 ^ 99 : Nat) : Int) := by decide +kernel
theorem le99 : 0 + 2 ^ 99 ≤ 10 ^ 30 := by decide +kernel
section
variable {P : Program} {w : World} {K : PySem.W.Frag} {mg : Str → Option Value} {base : Heap}
def spLaw (K : PySem.W.Frag) : Sp := fun vs H Q _ => ∃ (a : Addr) (ns : List Int), vs = [.ref a] ∧ SqL K H a (ns.map V.int) ∧ ns.length ≤ 63 ∧ ∀ H', Q (.bl true) H'
theorem ok_law (T : Txt K mg) {f : Addr} {fd : FuncData} (F : Fun K "law" "law" s_law f fd) : FnOk P w K mg base CX0 8 f fd ["_law_script"] (spLaw K) := by
  have G_l_take := ok_take (P := P) (w := w) (base := base) T
  have G_l_bag := ok_bag (P := P) (w := w) (base := base) T
  have G_l_range := ok_range (P := P) (w := w) (base := base) T
  have G_l_right := ok_right (P := P) (w := w) (base := base) T
  have G_l_fewest := ok_few (P := P) (w := w) (base := base) T
  have G_pieces := ok_pieces (P := P) (w := w) (base := base) T
  refine F.ok sc_law (fun vs H Q E h => ?_) (fun cdv A outer s H vs Q E hr h => ?_)
  · obtain ⟨a, ns, rfl, _⟩ := h
    rfl
  · obtain ⟨a, ns, rfl, hS, hlen, q⟩ := h
    refine ⟨_, (pss_cons (ps_for PassesOwn.never rfl (pi_range1 (by rfl) T.z_range (pa_cons (pe_op op_add pe_int (pe_callB (call_min2 rfl) (by rfl) T.z_min (by decide +kernel) (pa_cons pe_int (pa_cons (pe_callB call_len_seq (by rfl) T.z_len (by decide +kernel) (pa_cons (pv 0) pa_nil)) pa_nil)))) pa_nil)) (pg_name (i := 1) sc_law.nd rfl (.inl rfl)) (pss_cons (ps_set (i := 2) sc_law.nd rfl (.inl rfl) (pe_call G_l_bag (hr.mono (by omega)) rfl T.g_l_bag T.F_l_bag.kp T.b_l_bag .nil pass0 (pa_cons (pv 0) (pa_cons (pv 1) pa_nil))))
        (pss_cons (ps_asg (pe_call G_l_range (hr.mono (by omega)) rfl T.g_l_range T.F_l_range.kp T.b_l_range .nil pass0 (pa_cons (pv 2) pa_nil)) (pg_tup (by rfl) (pgs_cons (pg_name (i := 3) sc_law.nd rfl (.inl rfl)) (pgs_cons (pg_name (i := 4) sc_law.nd rfl (.inl rfl)) pgs_nil))))
        (pss_cons (ps_if (PW.pt (pw_or (pt_not (pt_val (pe_call G_l_right (hr.mono (by omega)) rfl T.g_l_right T.F_l_right.kp T.b_l_right .nil pass0 (pa_cons (pv 3) (pa_cons (pv 4) pa_nil))))) (pw_or1 (pt_cmpR (op_neD hr.units) (pe_call G_pieces (hr.mono (by omega)) rfl T.g_pieces T.F_pieces.kp T.b_pieces .nil pass0 (pa_cons (pv 3) (pa_cons (pv 3) pa_nil))) (pe_lst pa_nil) (nomark _))))) (pss_one (ps_ret pe_bl)) pss_nil)
        (pss_cons (ps_par (i := 3) (j := 5) (by rfl) sc_law.nd rfl rfl (by decide) rfl rfl (pa_cons (pe_call G_l_take (hr.mono (by omega)) rfl T.g_l_take T.F_l_take.kp T.b_l_take .nil pass0 (pa_cons (pv 2) (pa_cons pe_int pa_nil))) (pa_cons (pe_call G_l_take (hr.mono (by omega)) rfl T.g_l_take T.F_l_take.kp T.b_l_take .nil pass0 (pa_cons (pv 2) (pa_cons pe_int pa_nil))) pa_nil)) (by rfl))
        (pss_one (ps_if (PW.pt (pw_or (pt_not (pt_val (pe_call G_l_right (hr.mono (by omega)) rfl T.g_l_right T.F_l_right.kp T.b_l_right .nil pass0 (pa_cons (pv 3) (pa_cons (pe_op op_add (pv 3) (pv 5)) pa_nil))))) (pw_or1 (pt_cmpR op_ne (pe_callB call_len_seq (by rfl) T.z_len (by decide +kernel) (pa_cons (pe_call G_pieces (hr.mono (by omega)) rfl T.g_pieces T.F_pieces.kp T.b_pieces .nil pass0 (pa_cons (pv 3) (pa_cons (pe_op op_add (pv 3) (pv 5)) pa_nil))) pa_nil)) (pe_call G_l_fewest (hr.mono (by omega)) rfl T.g_l_fewest T.F_l_fewest.kp T.b_l_fewest .nil pass0 (pa_cons (pv 3) (pa_cons (pe_op op_add (pv 3) (pv 5)) pa_nil))) (nomark _))))) (pss_one (ps_ret pe_bl)) pss_nil)))))))
      (pss_one (ps_ret (pe_and (pe_cmpR (op_eqD hr.units) (pe_call G_pieces (hr.mono (by omega)) rfl T.g_pieces T.F_pieces.kp T.b_pieces .nil pass0 (pa_cons pe_int (pa_cons (pe_op op_shlW pe_int pe_int) pa_nil))) (pe_lst (pa_cons (pe_tup (pa_cons pe_int (pa_cons (pe_op op_shlW pe_int pe_int) pa_nil))) pa_nil)) (nomark _)) (pe_one (pe_cmpR (op_eqD hr.units) (pe_call G_pieces (hr.mono (by omega)) rfl T.g_pieces T.F_pieces.kp T.b_pieces .nil pass0 (pa_cons pe_int (pa_cons pe_int pa_nil))) (pe_lst (pa_cons (pe_tup (pa_cons pe_int (pa_cons pe_int pa_nil))) (pa_cons (pe_tup (pa_cons pe_int (pa_cons pe_int pa_nil))) (pa_cons (pe_tup (pa_cons pe_int (pa_cons pe_int pa_nil))) pa_nil)))) (nomark _))))))), ?_⟩
    refine ⟨_, rfl, a, _, rfl, .inl hS, 5, _, rfl, _, _, rfl, rfl, _, rfl, ?_, ?_, ?_⟩
    · split <;> omega
    · split <;> omega
    generalize hN : ((1 : Int) + (if (((ns.map V.int).length : Nat) : Int) < 5 then (((ns.map V.int).length : Nat) : Int) else 5)).toNat = N
    have hN2 : N ≤ 6 := by
      rw [← hN]
      split <;> omega
    refine for_range (fun i σ H' => Same H H' ∧ ∃ y1 y2 y3 y4 y5, σ = [some (.ref a), y1, y2, y3, y4, y5]) ⟨Same.refl _, _, _, _, _, _, rfl⟩ ?_ ?_
    · rintro i σ H' hi ⟨s1, y1, y2, y3, y4, y5, rfl⟩
      refine ⟨_, rfl, _, rfl, a, ns, i, by rw [Int.zero_add]; rfl, s1.seq hS, by omega, fun p H2 np s2 b2 => ?_⟩
      have np1 := s1.free np
      have s12 := s1.trans s2
      refine ⟨_, rfl, p, rfl, b2, fun lo r t H3 hb b3 k3 et => ?_⟩
      have s3 : Same H H3 := fun c o e => k3 c o (s12 c o e) (ne_of_none e np1)
      refine ⟨t, _, rfl, .inl (.inl et), rfl, _, _, rfl, _, _, rfl, rfl, ?_⟩
      refine ⟨_, rfl, _, rfl, lo, r, rfl, hb, fun H4 s4 => ⟨true, rfl, iteF ?_⟩⟩
      refine ⟨_, rfl, _, rfl, lo, 0, rfl, by omega, fun p5 H5 np5 s5 e5 => ?_⟩
      rw [pcF_zero] at e5
      refine ⟨Nat.zero_le _, fun o no => ?_⟩
      refine ⟨_, _, dp_PL (e5.same (same_new no)), .lst (.inl (.inl upd_same)) .nil, sh_pairs _, rfl, ?_⟩
      refine ⟨_, rfl, ifF rfl ?_⟩
      have s5' : Same H (upd H5 o (.lst [])) := same_put ((s3.trans s4).trans s5) (((s3.trans s4).trans s5).free no)
      have b5 : Bag (upd H5 o (.lst [])) p := bag_put (bag_same b3 (s4.trans s5)) no
      -- small ones
      refine ⟨_, rfl, p, _, rfl, b5, by decide, by decide, fun x H6 x0 x1 b6 k6 => ?_⟩
      refine ⟨_, rfl, p, _, rfl, b6, by decide, by decide, fun y H7 y0 y1' b7 k7 => ?_⟩
      obtain ⟨x, rfl⟩ := Int.eq_ofNat_of_zero_le x0
      obtain ⟨y, rfl⟩ := Int.eq_ofNat_of_zero_le y0
      have s7 : Same H H7 := fun c o e => k7 c o (k6 c o (s5' c o e) (ne_of_none e np1)) (ne_of_none e np1)
      have hxy : x + y ≤ 10 ^ 30 := by omega
      have exy : ((x : Int) + (y : Int)) = ((x + y : Nat) : Int) := by omega
      refine ⟨_, _, rfl, ?_⟩
      refine ⟨_, rfl, _, rfl, _, rfl, _, _, rfl, rfl, x, y, by rw [← exy]; rfl, hxy, fun H8 s8 => ⟨true, rfl, iteF ?_⟩⟩
      refine ⟨_, rfl, _, rfl, _, rfl, _, _, rfl, rfl, x, y, by rw [← exy]; rfl, hxy, fun p9 H9 np9 s9 e9 => ?_⟩
      obtain ⟨ts, t1, t2, t3⟩ := e9
      refine ⟨p9, _, rfl, .inl (.inl (.inl t1)), ?_⟩
      refine ⟨_, rfl, _, rfl, _, rfl, _, _, rfl, rfl, x, y, by rw [← exy]; rfl, by omega, by omega, fun H10 s10 => ?_⟩
      refine ⟨rfl, _, rfl, ifF ?_ ?_⟩
      · rw [List.length_map, t2]
        simp
      · exact ⟨((s7.trans s8).trans s9).trans s10, _, _, _, _, _, rfl⟩
    · rintro σ H' _
      refine ⟨_, _, rfl, rfl, shl_ok (n := 1) (j := 99) (by decide) (by omega), ?_⟩
      refine ⟨0, 2 ^ 99, by rw [← e99]; rfl, le99, fun p1 H1 _ s1 e1 => ?_⟩
      rw [pc99] at e1
      refine ⟨_, _, rfl, rfl, shl_ok (n := 1) (j := 99) (by decide) (by omega), le2, fun t nt => ?_⟩
      refine ⟨le1, fun o no => ?_⟩
      have e1' := (e1.same (same_new (o := .tup [V.int 0, V.int (1 * 2 ^ Int.toNat 99)]) nt)).same (same_new (o := .lst [V.ref t]) no)
      refine ⟨_, pairsD [(0, 2 ^ 99)], dp_PL e1', .lst (.inl (.inl upd_same)) (.cons (.tup (.inl (.inl (by rw [upd_ne (ne_of_none upd_same no), upd_same]))) (.cons (.int 0) (.cons (show Dp _ _ (V.int ((1 : Int) * 2 ^ Int.toNat 99)) (PyData.int ((2 ^ 99 : Nat) : Int)) from by rw [e99, Nat.zero_add]; exact .int _) .nil))) .nil), sh_pairs _, sh_pairs _, ?_⟩
      rw [SeqAt.eqv_refl _ (SeqAt.canLay_of_shaped (sh_pairs _))]
      refine ⟨true, rfl, iteT ?_⟩
      refine ⟨0, 7, rfl, by omega, fun p2 H2 _ s2 e2 => ?_⟩
      rw [pc7] at e2
      refine ⟨le2, fun u1 nu1 => ⟨le2, fun u2 nu2 => ⟨le2, fun u3 nu3 => ⟨le3, fun v nv => ?_⟩⟩⟩⟩
      have e2' := (((e2.same (same_new (o := .tup [V.int 0, V.int 4]) nu1)).same (same_new (o := .tup [V.int 4, V.int 2]) nu2)).same (same_new (o := .tup [V.int 6, V.int 1]) nu3)).same (same_new (o := .lst [V.ref u1, V.ref u2, V.ref u3]) nv)
      refine ⟨_, pairsD [(0, 4), (4, 2), (6, 1)], dp_PL e2', ?_, sh_pairs _, sh_pairs _, ?_⟩
      · refine dp_PL ⟨[u1, u2, u3], upd_same, rfl, fun i t x f g => ?_⟩
        have n12 := ne_of_none upd_same nu2
        have n13 : u1 ≠ u3 := ne_of_none (by rw [upd_ne n12, upd_same]) nu3
        have n23 : u2 ≠ u3 := ne_of_none upd_same nu3
        have n1 : u1 ≠ v := ne_of_none (by rw [upd_ne n13, upd_ne n12, upd_same]) nv
        have n2 : u2 ≠ v := ne_of_none (by rw [upd_ne n23, upd_same]) nv
        have n3 : u3 ≠ v := ne_of_none upd_same nv
        match i, f, g with
        | 0, f, g =>
          cases f
          cases g
          rw [upd_ne n1, upd_ne n13, upd_ne n12, upd_same]
          rfl
        | 1, f, g =>
          cases f
          cases g
          rw [upd_ne n2, upd_ne n23, upd_same]
          rfl
        | 2, f, g =>
          cases f
          cases g
          rw [upd_ne n3, upd_same]
          rfl
      · rw [SeqAt.eqv_refl _ (SeqAt.canLay_of_shaped (sh_pairs _))]
        exact q _
end
end Ob

set_option Elab.async false
set_option linter.all false
set_option maxRecDepth 100000
set_option maxHeartbeats 1000000
namespace Ob
open PySem PySem.Spec PyProof.Rows L2

theorem all_mk {l : PySem.W.OpenLaw} {w : World} {K : PySem.W.Frag} {h : Heap} {mg : Str → Option Value} {fa f0 f1 f2 f3 f4 f5 f6 f7 f8 f9 f10 f11 f12 f13 : Addr} (X : K.In h) (G : h.Ns mainGlobals mg) (hfa : mg "law" = some (.ref fa))
    {od0 an0 od1 an1 od2 an2 od3 an3 od4 an4 od5 an5 od6 an6 od7 an7 od8 an8 od9 an9 od10 an10 od11 an11 od12 an12 od13 an13 : Option Addr} {sl0 sl1 sl2 sl3 sl4 sl5 sl6 sl7 sl8 sl9 sl10 sl11 sl12 sl13 : Array (Option Value)} {oc0 kV0 dc0 pm0 cd0 ct0 oc1 kV1 dc1 pm1 cd1 ct1 oc2 kV2 dc2 pm2 cd2 ct2 oc3 kV3 dc3 pm3 cd3 ct3 oc4 kV4 dc4 pm4 cd4 ct4 oc5 kV5 dc5 pm5 cd5 ct5 oc6 kV6 dc6 pm6 cd6 ct6 oc7 kV7 dc7 pm7 cd7 ct7 oc8 kV8 dc8 pm8 cd8 ct8 oc9 kV9 dc9 pm9 cd9 ct9 oc10 kV10 dc10 pm10 cd10 ct10 oc11 kV11 dc11 pm11 cd11 ct11 oc12 kV12 dc12 pm12 cd12 ct12 oc13 kV13 dc13 pm13 cd13 ct13 : Value} {t_GREATEST : Tok}
    (a0 : PySem.W.nsIn K mainGlobals "pieces" = some (some (.ref f0))) (l0 : K.lookup f0 = some ⟨oc0, od0, .func (PySem.W.fnOf "pieces" "pieces" (defArgs s_pieces) (defBody s_pieces) (defScope s_pieces) .none kV0 dc0 pm0 an0 cd0 ct0), sl0⟩) (c0 : PySem.W.codeIn K cd0 "pieces" = true) (k0 : PySem.W.keepIn K (.ref f0) = true)
    (a1 : PySem.W.nsIn K mainGlobals "piece_size" = some (some (.ref f1))) (l1 : K.lookup f1 = some ⟨oc1, od1, .func (PySem.W.fnOf "piece_size" "piece_size" (defArgs s_piece_size) (defBody s_piece_size) (defScope s_piece_size) .none kV1 dc1 pm1 an1 cd1 ct1), sl1⟩) (c1 : PySem.W.codeIn K cd1 "piece_size" = true) (k1 : PySem.W.keepIn K (.ref f1) = true)
    (a2 : PySem.W.nsIn K mainGlobals "lowest_power" = some (some (.ref f2))) (l2 : K.lookup f2 = some ⟨oc2, od2, .func (PySem.W.fnOf "lowest_power" "lowest_power" (defArgs s_lowest_power) (defBody s_lowest_power) (defScope s_lowest_power) .none kV2 dc2 pm2 an2 cd2 ct2), sl2⟩) (c2 : PySem.W.codeIn K cd2 "lowest_power" = true) (k2 : PySem.W.keepIn K (.ref f2) = true)
    (a3 : PySem.W.nsIn K mainGlobals "greatest_power" = some (some (.ref f3))) (l3 : K.lookup f3 = some ⟨oc3, od3, .func (PySem.W.fnOf "greatest_power" "greatest_power" (defArgs s_greatest_power) (defBody s_greatest_power) (defScope s_greatest_power) .none kV3 dc3 pm3 an3 cd3 ct3), sl3⟩) (c3 : PySem.W.codeIn K cd3 "greatest_power" = true) (k3 : PySem.W.keepIn K (.ref f3) = true)
    (a4 : PySem.W.nsIn K mainGlobals "is_integer" = some (some (.ref f4))) (l4 : K.lookup f4 = some ⟨oc4, od4, .func (PySem.W.fnOf "is_integer" "is_integer" (defArgs s_is_integer) (defBody s_is_integer) (defScope s_is_integer) .none kV4 dc4 pm4 an4 cd4 ct4), sl4⟩) (c4 : PySem.W.codeIn K cd4 "is_integer" = true) (k4 : PySem.W.keepIn K (.ref f4) = true)
    (a5 : PySem.W.nsIn K mainGlobals "check_integer" = some (some (.ref f5))) (l5 : K.lookup f5 = some ⟨oc5, od5, .func (PySem.W.fnOf "check_integer" "check_integer" (defArgs s_check_integer) (defBody s_check_integer) (defScope s_check_integer) .none kV5 dc5 pm5 an5 cd5 ct5), sl5⟩) (c5 : PySem.W.codeIn K cd5 "check_integer" = true) (k5 : PySem.W.keepIn K (.ref f5) = true)
    (a6 : PySem.W.nsIn K mainGlobals "check_number" = some (some (.ref f6))) (l6 : K.lookup f6 = some ⟨oc6, od6, .func (PySem.W.fnOf "check_number" "check_number" (defArgs s_check_number) (defBody s_check_number) (defScope s_check_number) .none kV6 dc6 pm6 an6 cd6 ct6), sl6⟩) (c6 : PySem.W.codeIn K cd6 "check_number" = true) (k6 : PySem.W.keepIn K (.ref f6) = true)
    (a7 : PySem.W.nsIn K mainGlobals "_law_bag" = some (some (.ref f7))) (l7 : K.lookup f7 = some ⟨oc7, od7, .func (PySem.W.fnOf "_law_bag" "_law_bag" (defArgs s_l_bag) (defBody s_l_bag) (defScope s_l_bag) .none kV7 dc7 pm7 an7 cd7 ct7), sl7⟩) (c7 : PySem.W.codeIn K cd7 "_law_bag" = true) (k7 : PySem.W.keepIn K (.ref f7) = true)
    (a8 : PySem.W.nsIn K mainGlobals "_law_take" = some (some (.ref f8))) (l8 : K.lookup f8 = some ⟨oc8, od8, .func (PySem.W.fnOf "_law_take" "_law_take" (defArgs s_l_take) (defBody s_l_take) (defScope s_l_take) .none kV8 dc8 pm8 an8 cd8 ct8), sl8⟩) (c8 : PySem.W.codeIn K cd8 "_law_take" = true) (k8 : PySem.W.keepIn K (.ref f8) = true)
    (a9 : PySem.W.nsIn K mainGlobals "_law_is_piece" = some (some (.ref f9))) (l9 : K.lookup f9 = some ⟨oc9, od9, .func (PySem.W.fnOf "_law_is_piece" "_law_is_piece" (defArgs s_l_is_piece) (defBody s_l_is_piece) (defScope s_l_is_piece) .none kV9 dc9 pm9 an9 cd9 ct9), sl9⟩) (c9 : PySem.W.codeIn K cd9 "_law_is_piece" = true) (k9 : PySem.W.keepIn K (.ref f9) = true)
    (a10 : PySem.W.nsIn K mainGlobals "_law_fewest" = some (some (.ref f10))) (l10 : K.lookup f10 = some ⟨oc10, od10, .func (PySem.W.fnOf "_law_fewest" "_law_fewest" (defArgs s_l_fewest) (defBody s_l_fewest) (defScope s_l_fewest) .none kV10 dc10 pm10 an10 cd10 ct10), sl10⟩) (c10 : PySem.W.codeIn K cd10 "_law_fewest" = true) (k10 : PySem.W.keepIn K (.ref f10) = true)
    (a11 : PySem.W.nsIn K mainGlobals "_law_right" = some (some (.ref f11))) (l11 : K.lookup f11 = some ⟨oc11, od11, .func (PySem.W.fnOf "_law_right" "_law_right" (defArgs s_l_right) (defBody s_l_right) (defScope s_l_right) .none kV11 dc11 pm11 an11 cd11 ct11), sl11⟩) (c11 : PySem.W.codeIn K cd11 "_law_right" = true) (k11 : PySem.W.keepIn K (.ref f11) = true)
    (a12 : PySem.W.nsIn K mainGlobals "_law_range" = some (some (.ref f12))) (l12 : K.lookup f12 = some ⟨oc12, od12, .func (PySem.W.fnOf "_law_range" "_law_range" (defArgs s_l_range) (defBody s_l_range) (defScope s_l_range) .none kV12 dc12 pm12 an12 cd12 ct12), sl12⟩) (c12 : PySem.W.codeIn K cd12 "_law_range" = true) (k12 : PySem.W.keepIn K (.ref f12) = true)
    (a13 : PySem.W.nsIn K mainGlobals "law" = some (some (.ref f13))) (l13 : K.lookup f13 = some ⟨oc13, od13, .func (PySem.W.fnOf "law" "law" (defArgs s_law) (defBody s_law) (defScope s_law) .none kV13 dc13 pm13 an13 cd13 ct13), sl13⟩) (c13 : PySem.W.codeIn K cd13 "law" = true) (k13 : PySem.W.keepIn K (.ref f13) = true)
    (z_abs : PySem.W.nsIn K mainGlobals "abs" = some none)
    (z_bool : PySem.W.nsIn K mainGlobals "bool" = some none)
    (z_int : PySem.W.nsIn K mainGlobals "int" = some none)
    (z_isinstance : PySem.W.nsIn K mainGlobals "isinstance" = some none)
    (z_len : PySem.W.nsIn K mainGlobals "len" = some none)
    (z_list : PySem.W.nsIn K mainGlobals "list" = some none)
    (z_min : PySem.W.nsIn K mainGlobals "min" = some none)
    (z_range : PySem.W.nsIn K mainGlobals "range" = some none)
    (z_tuple : PySem.W.nsIn K mainGlobals "tuple" = some none)
    (v_GREATEST : PySem.W.nsIn K mainGlobals "GREATEST" = some (some (.int (10 ^ (30 : Nat)) t_GREATEST))) :
    ∃ fd : FuncData, (∀ (s : Shared) (v : Value), BindsTo s fd ⟨[v], []⟩ [("_law_script", v)]) ∧ ∀ base : Heap, K.In base → base.Ns mainGlobals mg → FnOk l.prog w K mg base CX0 8 fa fd ["_law_script"] (spLaw K) := by
  have e := hfa.symm.trans (PySem.W.mg_of X G a13)
  cases e
  have F0 := fun_mk (st := s_pieces) l0 c0 k0
  have F1 := fun_mk (st := s_piece_size) l1 c1 k1
  have F2 := fun_mk (st := s_lowest_power) l2 c2 k2
  have F3 := fun_mk (st := s_greatest_power) l3 c3 k3
  have F4 := fun_mk (st := s_is_integer) l4 c4 k4
  have F5 := fun_mk (st := s_check_integer) l5 c5 k5
  have F6 := fun_mk (st := s_check_number) l6 c6 k6
  have F7 := fun_mk (st := s_l_bag) l7 c7 k7
  have F8 := fun_mk (st := s_l_take) l8 c8 k8
  have F9 := fun_mk (st := s_l_is_piece) l9 c9 k9
  have F10 := fun_mk (st := s_l_fewest) l10 c10 k10
  have F11 := fun_mk (st := s_l_right) l11 c11 k11
  have F12 := fun_mk (st := s_l_range) l12 c12 k12
  have F13 := fun_mk (st := s_law) l13 c13 k13
  let T : Txt K mg := {
    f_pieces := f0,
    d_pieces := _,
    F_pieces := F0,
    b_pieces := (F0.binds (ps := ["begin", "end"]) fun _ _ _ _ _ _ us hl => match us, hl with | [_, _], _ => rfl),
    g_pieces := PySem.W.mg_of X G a0,
    f_piece_size := f1,
    d_piece_size := _,
    F_piece_size := F1,
    b_piece_size := (F1.binds (ps := ["first", "room"]) fun _ _ _ _ _ _ us hl => match us, hl with | [_, _], _ => rfl),
    g_piece_size := PySem.W.mg_of X G a1,
    f_lowest_power := f2,
    d_lowest_power := _,
    F_lowest_power := F2,
    b_lowest_power := (F2.binds (ps := ["number"]) fun _ _ _ _ _ _ us hl => match us, hl with | [_], _ => rfl),
    g_lowest_power := PySem.W.mg_of X G a2,
    f_greatest_power := f3,
    d_greatest_power := _,
    F_greatest_power := F3,
    b_greatest_power := (F3.binds (ps := ["number"]) fun _ _ _ _ _ _ us hl => match us, hl with | [_], _ => rfl),
    g_greatest_power := PySem.W.mg_of X G a3,
    f_is_integer := f4,
    d_is_integer := _,
    F_is_integer := F4,
    b_is_integer := (F4.binds (ps := ["value"]) fun _ _ _ _ _ _ us hl => match us, hl with | [_], _ => rfl),
    g_is_integer := PySem.W.mg_of X G a4,
    f_check_integer := f5,
    d_check_integer := _,
    F_check_integer := F5,
    b_check_integer := (F5.binds (ps := ["value"]) fun _ _ _ _ _ _ us hl => match us, hl with | [_], _ => rfl),
    g_check_integer := PySem.W.mg_of X G a5,
    f_check_number := f6,
    d_check_number := _,
    F_check_number := F6,
    b_check_number := (F6.binds (ps := ["value"]) fun _ _ _ _ _ _ us hl => match us, hl with | [_], _ => rfl),
    g_check_number := PySem.W.mg_of X G a6,
    f_l_bag := f7,
    d_l_bag := _,
    F_l_bag := F7,
    b_l_bag := (F7.binds (ps := ["_law_script", "_law_at"]) fun _ _ _ _ _ _ us hl => match us, hl with | [_, _], _ => rfl),
    g_l_bag := PySem.W.mg_of X G a7,
    f_l_take := f8,
    d_l_take := _,
    F_l_take := F8,
    b_l_take := (F8.binds (ps := ["_law_bag_here", "_law_many"]) fun _ _ _ _ _ _ us hl => match us, hl with | [_, _], _ => rfl),
    g_l_take := PySem.W.mg_of X G a8,
    f_l_is_piece := f9,
    d_l_is_piece := _,
    F_l_is_piece := F9,
    b_l_is_piece := (F9.binds (ps := ["_law_first", "_law_size"]) fun _ _ _ _ _ _ us hl => match us, hl with | [_, _], _ => rfl),
    g_l_is_piece := PySem.W.mg_of X G a9,
    f_l_fewest := f10,
    d_l_fewest := _,
    F_l_fewest := F10,
    b_l_fewest := (F10.binds (ps := ["_law_low", "_law_high"]) fun _ _ _ _ _ _ us hl => match us, hl with | [_, _], _ => rfl),
    g_l_fewest := PySem.W.mg_of X G a10,
    f_l_right := f11,
    d_l_right := _,
    F_l_right := F11,
    b_l_right := (F11.binds (ps := ["_law_low", "_law_high"]) fun _ _ _ _ _ _ us hl => match us, hl with | [_, _], _ => rfl),
    g_l_right := PySem.W.mg_of X G a11,
    f_l_range := f12,
    d_l_range := _,
    F_l_range := F12,
    b_l_range := (F12.binds (ps := ["_law_bag_here"]) fun _ _ _ _ _ _ us hl => match us, hl with | [_], _ => rfl),
    g_l_range := PySem.W.mg_of X G a12,
    z_abs := PySem.W.mg_none_of X G z_abs,
    z_bool := PySem.W.mg_none_of X G z_bool,
    z_int := PySem.W.mg_none_of X G z_int,
    z_isinstance := PySem.W.mg_none_of X G z_isinstance,
    z_len := PySem.W.mg_none_of X G z_len,
    z_list := PySem.W.mg_none_of X G z_list,
    z_min := PySem.W.mg_none_of X G z_min,
    z_range := PySem.W.mg_none_of X G z_range,
    z_tuple := PySem.W.mg_none_of X G z_tuple,
    u_GREATEST := _,
    v_GREATEST := PySem.W.mg_of X G v_GREATEST,
    r_GREATEST := ⟨_, rfl⟩ }
  exact ⟨PySem.W.fnOf "law" "law" (defArgs s_law) (defBody s_law) (defScope s_law) .none kV13 dc13 pm13 an13 cd13 ct13, fun s v => .of_eq rfl, fun base _ _ => ok_law T F13⟩
end Ob
open PySem PySem.W PyProof.Rows
set_option maxHeartbeats 0 in
theorem PySem.Challenge.cw_oncebuilt_k03_pieces_holds : PySem.Challenge.rw_oncebuilt_k03_pieces.Holds := by
  w_on; o_law; k_head; (case hw => w_witness2)
  k_fill
  refine L2.walk_of (l := PySem.Challenge.rw_oncebuilt_k03_pieces) (n := 63) (k := 8) (x := "_law_script") (CX := fun _ => L2.CX0) (sp := fun w => Ob.spLaw _) rfl (by decide) rfl ⟨rfl, by decide, by decide⟩ (fun w h Y => PySem.W.kIn_of Y) ?F (fun _ _ a ns hl _ hS => ⟨a, ns, rfl, hS, hl, fun _ => rfl⟩) (fun _ _ _ _ _ h => h)
  case F =>
    intro w mg fa h KX G hmg
    refine' Ob.all_mk KX G hmg ?a0 ?l0 ?c0 ?k0 ?a1 ?l1 ?c1 ?k1 ?a2 ?l2 ?c2 ?k2 ?a3 ?l3 ?c3 ?k3 ?a4 ?l4 ?c4 ?k4 ?a5 ?l5 ?c5 ?k5 ?a6 ?l6 ?c6 ?k6 ?a7 ?l7 ?c7 ?k7 ?a8 ?l8 ?c8 ?k8 ?a9 ?l9 ?c9 ?k9 ?a10 ?l10 ?c10 ?k10 ?a11 ?l11 ?c11 ?k11 ?a12 ?l12 ?c12 ?k12 ?a13 ?l13 ?c13 ?k13 ?z_abs ?z_bool ?z_int ?z_isinstance ?z_len ?z_list ?z_min ?z_range ?z_tuple ?v_GREATEST
    (case a0 => k_is); (case l0 => k_is); (case c0 => k_is); (case k0 => k_is); (case a1 => k_is); (case l1 => k_is); (case c1 => k_is); (case k1 => k_is); (case a2 => k_is); (case l2 => k_is); (case c2 => k_is); (case k2 => k_is); (case a3 => k_is); (case l3 => k_is); (case c3 => k_is); (case k3 => k_is); (case a4 => k_is); (case l4 => k_is); (case c4 => k_is); (case k4 => k_is); (case a5 => k_is); (case l5 => k_is); (case c5 => k_is); (case k5 => k_is); (case a6 => k_is); (case l6 => k_is); (case c6 => k_is); (case k6 => k_is); (case a7 => k_is); (case l7 => k_is); (case c7 => k_is); (case k7 => k_is); (case a8 => k_is); (case l8 => k_is); (case c8 => k_is); (case k8 => k_is); (case a9 => k_is); (case l9 => k_is); (case c9 => k_is); (case k9 => k_is); (case a10 => k_is); (case l10 => k_is); (case c10 => k_is); (case k10 => k_is); (case a11 => k_is); (case l11 => k_is); (case c11 => k_is); (case k11 => k_is); (case a12 => k_is); (case l12 => k_is); (case c12 => k_is); (case k12 => k_is); (case a13 => k_is); (case l13 => k_is); (case c13 => k_is); (case k13 => k_is); (case z_abs => k_is); (case z_bool => k_is); (case z_int => k_is); (case z_isinstance => k_is); (case z_len => k_is); (case z_list => k_is); (case z_min => k_is); (case z_range => k_is); (case z_tuple => k_is); (case v_GREATEST => k_is)

