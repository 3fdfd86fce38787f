import PyProof.Rows.All
import Wide.All
import OpenK.AllK
import Wide.FinOn
import HandS.ForMost
import HandS.Wide
import HandS.WideBits
import HandS.IsInst
import HandS.Codes
import HandS.Defaults
import HandS.ForExc
import HandS.ExcIs
import PySem.Challenge.RW_oncebuilt_k04_bad_numbers
set_option Elab.async false
set_option linter.all false
set_option maxRecDepth 100000
set_option maxHeartbeats 4000000
namespace Ob
open PySem PySem.Spec PyProof.Rows L2
/-! ### the text -/
def topS (i : Nat) : Stmt := PySem.Challenge.pw_oncebuilt_k04_bad_numbers.main.body.getD i (.Pass ⟨0, 0, 0, 0⟩)
abbrev s_block_sizes : Stmt := topS 11
abbrev n_block_sizes : List Str := ["many", "sizes", "rest", "size"]
theorem sc_block_sizes : FnScope n_block_sizes ["many"] (defScope s_block_sizes) := ⟨rfl, rfl, rfl, by decide +kernel, rfl, by decide +kernel, by decide +kernel⟩
abbrev s_total_built : Stmt := topS 12
abbrev n_total_built : List Str := ["many", "total", "size"]
theorem sc_total_built : FnScope n_total_built ["many"] (defScope s_total_built) := ⟨rfl, rfl, rfl, by decide +kernel, rfl, by decide +kernel, by decide +kernel⟩
abbrev s_pieces : Stmt := topS 13
abbrev n_pieces : List Str := ["begin", "end", "found", "first", "size"]
theorem sc_pieces : FnScope n_pieces ["begin", "end"] (defScope s_pieces) := ⟨rfl, rfl, rfl, by decide +kernel, rfl, by decide +kernel, by decide +kernel⟩
abbrev s_piece_size : Stmt := topS 14
abbrev n_piece_size : List Str := ["first", "room", "fitting"]
theorem sc_piece_size : FnScope n_piece_size ["first", "room"] (defScope s_piece_size) := ⟨rfl, rfl, rfl, by decide +kernel, rfl, by decide +kernel, by decide +kernel⟩
abbrev s_lowest_power : Stmt := topS 15
abbrev n_lowest_power : List Str := ["number"]
theorem sc_lowest_power : FnScope n_lowest_power ["number"] (defScope s_lowest_power) := ⟨rfl, rfl, rfl, by decide +kernel, rfl, by decide +kernel, by decide +kernel⟩
abbrev s_greatest_power : Stmt := topS 16
abbrev n_greatest_power : List Str := ["number"]
theorem sc_greatest_power : FnScope n_greatest_power ["number"] (defScope s_greatest_power) := ⟨rfl, rfl, rfl, by decide +kernel, rfl, by decide +kernel, by decide +kernel⟩
abbrev s_is_integer : Stmt := topS 17
abbrev n_is_integer : List Str := ["value"]
theorem sc_is_integer : FnScope n_is_integer ["value"] (defScope s_is_integer) := ⟨rfl, rfl, rfl, by decide +kernel, rfl, by decide +kernel, by decide +kernel⟩
abbrev s_check_integer : Stmt := topS 18
abbrev n_check_integer : List Str := ["value"]
theorem sc_check_integer : FnScope n_check_integer ["value"] (defScope s_check_integer) := ⟨rfl, rfl, rfl, by decide +kernel, rfl, by decide +kernel, by decide +kernel⟩
abbrev s_check_number : Stmt := topS 19
abbrev n_check_number : List Str := ["value"]
theorem sc_check_number : FnScope n_check_number ["value"] (defScope s_check_number) := ⟨rfl, rfl, rfl, by decide +kernel, rfl, by decide +kernel, by decide +kernel⟩
abbrev s_l_bag : Stmt := topS 21
abbrev n_l_bag : List Str := ["_law_script", "_law_at", "_law_cell", "_law_great", "_law_primes"]
theorem sc_l_bag : FnScope n_l_bag ["_law_script", "_law_at"] (defScope s_l_bag) := ⟨rfl, rfl, rfl, by decide +kernel, rfl, by decide +kernel, by decide +kernel⟩
abbrev s_l_take : Stmt := topS 22
abbrev n_l_take : List Str := ["_law_bag_here", "_law_many", "_law_digit"]
theorem sc_l_take : FnScope n_l_take ["_law_bag_here", "_law_many"] (defScope s_l_take) := ⟨rfl, rfl, rfl, by decide +kernel, rfl, by decide +kernel, by decide +kernel⟩
abbrev s_l_thing : Stmt := topS 23
abbrev n_l_thing : List Str := ["_law_bag_here", "_law_some", "_law_good"]
theorem sc_l_thing : FnScope n_l_thing ["_law_bag_here"] (defScope s_l_thing) := ⟨rfl, rfl, rfl, by decide +kernel, rfl, by decide +kernel, by decide +kernel⟩
abbrev s_l_is_number : Stmt := topS 24
abbrev n_l_is_number : List Str := ["_law_thing_here"]
theorem sc_l_is_number : FnScope n_l_is_number ["_law_thing_here"] (defScope s_l_is_number) := ⟨rfl, rfl, rfl, by decide +kernel, rfl, by decide +kernel, by decide +kernel⟩
abbrev s_l_raises : Stmt := topS 25
abbrev n_l_raises : List Str := ["_law_kind", "_law_one", "_law_other", "e"]
theorem sc_l_raises : FnScope n_l_raises ["_law_kind", "_law_one", "_law_other"] (defScope s_l_raises) := ⟨rfl, rfl, rfl, by decide +kernel, rfl, by decide +kernel, by decide +kernel⟩
abbrev s_law : Stmt := topS 26
abbrev n_law : List Str := ["_law_script", "_law_k", "_law_bag_here", "_law_turn", "_law_one", "_law_other", "_law_good", "_law_kind", "_law_told"]
theorem sc_law : FnScope n_law ["_law_script"] (defScope s_law) := ⟨rfl, rfl, rfl, by decide +kernel, rfl, by decide +kernel, by decide +kernel⟩
structure Txt (K : PySem.W.Frag) (mg : Str → Option Value) where
  f_block_sizes : Addr
  d_block_sizes : FuncData
  F_block_sizes : Fun K "block_sizes" "block_sizes" s_block_sizes f_block_sizes d_block_sizes
  b_block_sizes : Binds K d_block_sizes ["many"] []
  g_block_sizes : mg "block_sizes" = some (.ref f_block_sizes)
  f_total_built : Addr
  d_total_built : FuncData
  F_total_built : Fun K "total_built" "total_built" s_total_built f_total_built d_total_built
  b_total_built : Binds K d_total_built ["many"] []
  g_total_built : mg "total_built" = some (.ref f_total_built)
  f_pieces : Addr
  d_pieces : FuncData
  F_pieces : Fun K "pieces" "pieces" s_pieces f_pieces d_pieces
  b_pieces : Binds K d_pieces ["begin", "end"] []
  g_pieces : mg "pieces" = some (.ref f_pieces)
  f_piece_size : Addr
  d_piece_size : FuncData
  F_piece_size : Fun K "piece_size" "piece_size" s_piece_size f_piece_size d_piece_size
  b_piece_size : Binds K d_piece_size ["first", "room"] []
  g_piece_size : mg "piece_size" = some (.ref f_piece_size)
  f_lowest_power : Addr
  d_lowest_power : FuncData
  F_lowest_power : Fun K "lowest_power" "lowest_power" s_lowest_power f_lowest_power d_lowest_power
  b_lowest_power : Binds K d_lowest_power ["number"] []
  g_lowest_power : mg "lowest_power" = some (.ref f_lowest_power)
  f_greatest_power : Addr
  d_greatest_power : FuncData
  F_greatest_power : Fun K "greatest_power" "greatest_power" s_greatest_power f_greatest_power d_greatest_power
  b_greatest_power : Binds K d_greatest_power ["number"] []
  g_greatest_power : mg "greatest_power" = some (.ref f_greatest_power)
  f_is_integer : Addr
  d_is_integer : FuncData
  F_is_integer : Fun K "is_integer" "is_integer" s_is_integer f_is_integer d_is_integer
  b_is_integer : Binds K d_is_integer ["value"] []
  g_is_integer : mg "is_integer" = some (.ref f_is_integer)
  f_check_integer : Addr
  d_check_integer : FuncData
  F_check_integer : Fun K "check_integer" "check_integer" s_check_integer f_check_integer d_check_integer
  b_check_integer : Binds K d_check_integer ["value"] []
  g_check_integer : mg "check_integer" = some (.ref f_check_integer)
  f_check_number : Addr
  d_check_number : FuncData
  F_check_number : Fun K "check_number" "check_number" s_check_number f_check_number d_check_number
  b_check_number : Binds K d_check_number ["value"] []
  g_check_number : mg "check_number" = some (.ref f_check_number)
  f_l_bag : Addr
  d_l_bag : FuncData
  F_l_bag : Fun K "_law_bag" "_law_bag" s_l_bag f_l_bag d_l_bag
  b_l_bag : Binds K d_l_bag ["_law_script", "_law_at"] []
  g_l_bag : mg "_law_bag" = some (.ref f_l_bag)
  f_l_take : Addr
  d_l_take : FuncData
  F_l_take : Fun K "_law_take" "_law_take" s_l_take f_l_take d_l_take
  b_l_take : Binds K d_l_take ["_law_bag_here", "_law_many"] []
  g_l_take : mg "_law_take" = some (.ref f_l_take)
  f_l_thing : Addr
  d_l_thing : FuncData
  F_l_thing : Fun K "_law_thing" "_law_thing" s_l_thing f_l_thing d_l_thing
  b_l_thing : Binds K d_l_thing ["_law_bag_here"] []
  g_l_thing : mg "_law_thing" = some (.ref f_l_thing)
  f_l_is_number : Addr
  d_l_is_number : FuncData
  F_l_is_number : Fun K "_law_is_number" "_law_is_number" s_l_is_number f_l_is_number d_l_is_number
  b_l_is_number : Binds K d_l_is_number ["_law_thing_here"] []
  g_l_is_number : mg "_law_is_number" = some (.ref f_l_is_number)
  f_l_raises : Addr
  d_l_raises : FuncData
  F_l_raises : Fun K "_law_raises" "_law_raises" s_l_raises f_l_raises d_l_raises
  b_l_raises : Binds K d_l_raises ["_law_kind", "_law_one", "_law_other"] []
  g_l_raises : mg "_law_raises" = some (.ref f_l_raises)
  z_abs : mg "abs" = none
  z_bool : mg "bool" = none
  z_int : mg "int" = none
  z_isinstance : mg "isinstance" = none
  z_len : mg "len" = none
  z_min : mg "min" = none
  z_range : mg "range" = none
  u_GREATEST : Value
  v_GREATEST : mg "GREATEST" = some u_GREATEST
  r_GREATEST : RelV (V.int (10 ^ (30 : Nat))) u_GREATEST
  C_OnceError : Addr
  gc_OnceError : mg "OnceError" = some (.ref C_OnceError)
  C_BadNumber : Addr
  gc_BadNumber : mg "BadNumber" = some (.ref C_BadNumber)
  C_BadHistory : Addr
  gc_BadHistory : mg "BadHistory" = some (.ref C_BadHistory)
  C_NoMember : Addr
  gc_NoMember : mg "NoMember" = some (.ref C_NoMember)
  C_Empty : Addr
  gc_Empty : mg "Empty" = some (.ref C_Empty)
  C_Busy : Addr
  gc_Busy : mg "Busy" = some (.ref C_Busy)
  C_Torn : Addr
  gc_Torn : mg "Torn" = some (.ref C_Torn)
  C_NotTorn : Addr
  gc_NotTorn : mg "NotTorn" = some (.ref C_NotTorn)
  xB : PySem.W.excIn K C_BadNumber [.type "ValueError", .type "Exception", .type "BaseException", .type "object"] "ValueError.__new__" = true
  kB : PySem.W.keepIn K (.ref C_BadNumber) = true
  bB : PySem.W.subIn K (.ref C_BadNumber) (.type "BaseException") = some true
  tB : PySem.W.typeIn K (.ref C_BadNumber) = some (.type "type")
  eB : PySem.W.exmOne K (.ref C_BadNumber) (.ref C_BadNumber) = some true
  iB : ExcC K C_BadNumber
  k6 : PySem.W.kitAny K (.ref C_BadNumber) [.ref C_BadHistory, .ref C_Busy, .ref C_Empty, .ref C_NoMember, .ref C_NotTorn, .ref C_Torn] = some false
  k1 : PySem.W.kitOne K (.ref C_BadNumber) (.ref C_OnceError) = some true

/-! ### heaps -/
theorem same_put {H H1 : Hp} {p : Addr} {o : HO} (h : Same H H1) (n : H p = none) : Same H (upd H1 p o) := fun b u e => by
  rw [upd_ne (ne_of_none e n)]
  exact h b u e
theorem same_new {H : Hp} {p : Addr} {o : HO} (n : H p = none) : Same H (upd H p o) := same_put (Same.refl H) n
theorem same_no {H H1 : Hp} {p : Addr} (h : Same H H1) (n : H1 p = none) : H p = none := h.free n
/-- all but p is as it was -/
def But (p : Addr) (H H' : Hp) : Prop := ∀ b o, H b = some o → b ≠ p → H' b = some o
theorem but_refl (p : Addr) (H : Hp) : But p H H := fun _ _ h _ => h
theorem but_trans {p : Addr} {H H1 H2 : Hp} (a : But p H H1) (b : But p H1 H2) : But p H H2 := fun c o h n => b c o (a c o h n) n
theorem but_of_same {p : Addr} {H H1 : Hp} (a : Same H H1) : But p H H1 := fun c o h _ => a c o h
theorem but_upd (p : Addr) (H : Hp) (o : HO) : But p H (upd H p o) := fun b u e n => by
  rw [upd_ne n]
  exact e
theorem but_fresh {p : Addr} {H0 H H1 : Hp} (s : Same H0 H) (n : H0 p = none) (b : But p H H1) : Same H0 H1 := fun c o e => b c o (s c o e) (ne_of_none e n)
/-! ### a bag of digits -/
def Bag (H : Hp) (p : Addr) : Prop := ∃ g m c : Int, H p = some (.lst [.int g, .int m, .int c]) ∧ 0 ≤ g ∧ 0 ≤ m ∧ m < 2147483648
theorem fm0 {a b : Int} (h : 0 < b) : 0 ≤ a.fmod b := by
  rw [Int.fmod_eq_emod_of_nonneg a (by omega)]
  exact Int.emod_nonneg a (by omega)
theorem fm1 {a b : Int} (h : 0 < b) : a.fmod b < b := by
  rw [Int.fmod_eq_emod_of_nonneg a (by omega)]
  exact Int.emod_lt_of_pos a h
theorem nz1 : (2147483647 : Int) ≠ 0 := by decide
theorem nz2 : (2147483629 : Int) ≠ 0 := by decide
section
variable {P : Program} {w : World} {K : PySem.W.Frag} {mg : Str → Option Value} {base : Heap}
def spTake : Sp := fun vs H Q _ => ∃ (p : Addr) (n : Int), vs = [.ref p, .int n] ∧ Bag H p ∧ 0 < n ∧ n.natAbs < 2 ^ 200 ∧
  ∀ r H', 0 ≤ r → r < n → Bag H' p → But p H H' → Q (.int r) H'
theorem ok_take (T : Txt K mg) : FnOk P w K mg base CX0 1 T.f_l_take T.d_l_take ["_law_bag_here", "_law_many"] spTake := by
  refine T.F_l_take.ok sc_l_take (fun vs H Q E h => ?_) (fun cdv A outer s H vs Q E hr h => ?_)
  · obtain ⟨p, n, rfl, _⟩ := h
    rfl
  · obtain ⟨p, n, rfl, ⟨g, m, c, hb, g0, m0, m1⟩, n0, n1, q⟩ := h
    refine ⟨_, (pss_cons (ps_if (pt_cmpR op_gt (pe_ix (r := rIxL K) ix_list (pv 0) pe_int (fun _ _ => rfl)) pe_int (nomark _)) (pss_cons (ps_set (i := 2) sc_l_take.nd rfl (.inl rfl) (pe_op op_modN (pe_ix (r := rIxL K) ix_list (pv 0) pe_int (fun _ _ => rfl)) (pv 1)))
        (pss_cons (ps_asg (pe_op op_fdivW (pe_ix (r := rIxL K) ix_list (pv 0) pe_int (fun _ _ => rfl)) (pv 1)) (pg_sub (pv 0) pe_int set_list))
        (pss_one (ps_ret (pv 2))))) pss_nil)
      (pss_cons (ps_asg (pe_op op_add (pe_ix (r := rIxL K) ix_list (pv 0) pe_int (fun _ _ => rfl)) pe_int) (pg_sub (pv 0) pe_int set_list))
      (pss_cons (ps_asg (pe_op op_modN (pe_op op_add (pe_op op_add (pe_op op_mul (pe_ix (r := rIxL K) ix_list (pv 0) pe_int (fun _ _ => rfl)) pe_int) (pe_op op_mul pe_int (pe_ix (r := rIxL K) ix_list (pv 0) pe_int (fun _ _ => rfl)))) pe_int) pe_int) (pg_sub (pv 0) pe_int set_list))
      (pss_one (ps_ret (pe_op op_modN (pe_op op_modN (pe_op op_pow (pe_op op_fdivW (pe_ix (r := rIxL K) ix_list (pv 0) pe_int (fun _ _ => rfl)) pe_int) pe_int) pe_int) (pv 1))))))), ?_⟩
    have hB : SqL K H p [.int g, .int m, .int c] := .inl (.inl hb)
    refine ⟨_, rfl, p, _, 0, .int g, rfl, rfl, hB, atI_nat (j := 0) rfl, _, _, rfl, rfl, _, rfl, ite2 (fun e => ?_) (fun e => ?_)⟩
    · refine ⟨_, rfl, p, _, 0, .int g, rfl, rfl, hB, atI_nat (j := 0) rfl, _, rfl, _, _, rfl, rfl, (by omega), ?_⟩
      refine ⟨_, rfl, p, _, 0, .int g, rfl, rfl, hB, atI_nat (j := 0) rfl, _, rfl, _, _, rfl, rfl, wide_div n0 n1 (by decide) (by decide), ?_⟩
      refine ⟨_, rfl, p, _, _, 0, rfl, rfl, hb, rfl, ?_⟩
      refine ⟨_, rfl, ?_⟩
      exact q _ _ (fm0 n0) (fm1 n0) ⟨g / n, m, c, upd_same, Int.ediv_nonneg g0 (by omega), m0, m1⟩ (but_upd _ _ _)
    · refine ⟨_, rfl, p, _, 2, .int c, rfl, rfl, hB, atI_nat (j := 2) rfl, _, _, rfl, rfl, ?_⟩
      refine ⟨_, rfl, p, _, _, 2, rfl, rfl, hb, rfl, ?_⟩
      have h2 : upd H p (.lst [.int g, .int m, .int (c + 1)]) p = some (.lst [.int g, .int m, .int (c + 1)]) := upd_same
      have hB2 : SqL K (upd H p (.lst [.int g, .int m, .int (c + 1)])) p [.int g, .int m, .int (c + 1)] := .inl (.inl h2)
      refine ⟨_, rfl, p, _, 1, .int m, rfl, rfl, hB2, atI_nat (j := 1) rfl, _, _, rfl, rfl, .inr ⟨by decide, by decide⟩, _, rfl, p, _, 2, .int (c + 1), rfl, rfl, hB2, atI_nat (j := 2) rfl, _, _, rfl, rfl, .inl ⟨by decide, by decide⟩, _, _, rfl, rfl, _, _, rfl, rfl, _, _, rfl, rfl, nz1, ?_⟩
      refine ⟨_, rfl, p, _, _, 1, rfl, rfl, h2, rfl, ?_⟩
      have m0' := fm0 (a := m * 69621 + 6007 * (c + 1) + 19) (show (0 : Int) < 2147483647 by decide)
      have m1' := fm1 (a := m * 69621 + 6007 * (c + 1) + 19) (show (0 : Int) < 2147483647 by decide)
      refine ⟨_, rfl, p, _, 1, _, rfl, rfl, .inl (.inl upd_same), atI_nat (j := 1) rfl, _, _, rfl, rfl, ⟨by decide, by decide⟩, _, _, rfl, rfl, ⟨by decide, by decide, ?_⟩, _, _, rfl, rfl, nz2, _, rfl, _, _, rfl, rfl, (by omega), ?_⟩
      · omega
      exact q _ _ (fm0 n0) (fm1 n0) ⟨g, _, c + 1, upd_same, g0, m0', by omega⟩ (but_trans (but_upd _ _ _) (but_upd _ _ _))
theorem le3 : 3 ≤ sizeLine := by decide
theorem nz3 : (8 : Int) ≠ 0 := by decide
theorem primes_at (k : Nat) : ∃ v : Int, 0 < v ∧ v < 2147483648 ∧ atI [V.int 2147483629, V.int 2147483587, V.int 2147483579, V.int 2147483563, V.int 2147483549, V.int 2147483543, V.int 2147483497, V.int 2147483489] ((k : Int).fmod 8) = some (.int v) := by
  have e : (k : Int).fmod 8 = ((k % 8 : Nat) : Int) := by
    rw [Int.fmod_eq_emod_of_nonneg _ (by decide)]
    rfl
  have h : k % 8 < 8 := Nat.mod_lt _ (by decide)
  rw [e]
  generalize k % 8 = j at h
  match j, h with
  | 0, _ => exact ⟨_, by decide, by decide, atI_nat (j := 0) rfl⟩
  | 1, _ => exact ⟨_, by decide, by decide, atI_nat (j := 1) rfl⟩
  | 2, _ => exact ⟨_, by decide, by decide, atI_nat (j := 2) rfl⟩
  | 3, _ => exact ⟨_, by decide, by decide, atI_nat (j := 3) rfl⟩
  | 4, _ => exact ⟨_, by decide, by decide, atI_nat (j := 4) rfl⟩
  | 5, _ => exact ⟨_, by decide, by decide, atI_nat (j := 5) rfl⟩
  | 6, _ => exact ⟨_, by decide, by decide, atI_nat (j := 6) rfl⟩
  | 7, _ => exact ⟨_, by decide, by decide, atI_nat (j := 7) rfl⟩
  | n + 8, h => exact absurd h (by omega)
def spBag (K : PySem.W.Frag) : Sp := fun vs H Q _ => ∃ (a : Addr) (ns : List Int) (k : Nat), vs = [.ref a, .int (k : Int)] ∧ SqL K H a (ns.map V.int) ∧ k ≤ 1000 ∧
  ∀ p H', H p = none → Same H H' → Bag H' p → Q (.ref p) H'
theorem ok_bag (T : Txt K mg) : FnOk P w K mg base CX0 1 T.f_l_bag T.d_l_bag ["_law_script", "_law_at"] (spBag K) := by
  refine T.F_l_bag.ok sc_l_bag (fun vs H Q E h => ?_) (fun cdv A outer s H vs Q E hr h => ?_)
  · obtain ⟨a, ns, k, rfl, _⟩ := h
    rfl
  · obtain ⟨a, ns, k, rfl, hS, hk, q⟩ := h
    refine ⟨_, (pss_cons (ps_set (i := 2) sc_l_bag.nd rfl (.inl rfl) pe_int)
      (C8.pss_cut (ps_if (pt_cmpR op_lt (pv 1) (pe_callB call_len_seq (by rfl) T.z_len (by decide +kernel) (pa_cons (pv 0) pa_nil)) (nomark _)) (pss_one (ps_set (i := 2) sc_l_bag.nd rfl (.inl rfl) (pe_ix (r := rIxL K) ix_list (pv 0) (pv 1) (fun _ _ => rfl)))) pss_nil)
      (pss_cons (ps_set (i := 3) sc_l_bag.nd rfl (.inl rfl) pe_int)
      (C8.pss_cut (ps_if (pt_cmpR op_ge (pe_callB call_abs (by rfl) T.z_abs (by decide +kernel) (pa_cons (pv 2) pa_nil)) (pe_op op_pow pe_int pe_int) (nomark _)) (pss_one (ps_set (i := 3) sc_l_bag.nd rfl (.inl rfl) (pe_callB call_abs (by rfl) T.z_abs (by decide +kernel) (pa_cons (pv 2) pa_nil)))) pss_nil)
      (pss_cons (ps_set (i := 4) sc_l_bag.nd rfl (.inl rfl) (pe_lst (pa_cons pe_int (pa_cons pe_int (pa_cons pe_int (pa_cons pe_int (pa_cons pe_int (pa_cons pe_int (pa_cons pe_int (pa_cons pe_int pa_nil))))))))))
      (pss_one (ps_ret (pe_lst (pa_cons (pv 3) (pa_cons (pe_op op_modN (pe_op op_pow (pe_op op_add (pe_op op_add (pe_op op_modN (pv 2) pe_int) (pe_op op_mul pe_int (pv 1))) pe_int) pe_int) (pe_ix (r := rIxL K) ix_list (pv 4) (pe_op op_modN (pv 1) pe_int) (fun _ _ => rfl))) (pa_cons pe_int pa_nil))))))))))), ?_⟩
    refine ⟨fun σ' H' => H' = H ∧ ∃ c : Int, σ' = [some (.ref a), some (.int (k : Int)), some (.int c), none, none], ?_, fun σ' H' hM => ?_⟩
    · refine ⟨_, rfl, _, rfl, a, _, rfl, .inl hS, _, _, rfl, rfl, _, rfl, ite2 (fun e => ?_) (fun e => ?_)⟩
      · have e2 := of_decide_eq_true e
        have e3 : k < ns.length := by
          rw [List.length_map] at e2
          omega
        have e4 : (ns.map V.int)[k]? = some (.int ns[k]) := by
          rw [List.getElem?_map, List.getElem?_eq_getElem e3]
          rfl
        exact ⟨_, rfl, _, rfl, a, _, _, _, rfl, rfl, hS, atI_nat e4, rfl, _, rfl⟩
      · exact ⟨rfl, _, rfl⟩
    · obtain ⟨rfl, c, rfl⟩ := hM
      refine ⟨fun σ'' H'' => H'' = H' ∧ ∃ g : Int, σ'' = [some (.ref a), some (.int (k : Int)), some (.int c), some (.int g), none] ∧ 0 ≤ g, ?_, fun σ'' H'' hM => ?_⟩
      · refine ⟨_, rfl, _, rfl, _, _, rfl, rfl, ⟨by decide, by decide, by decide⟩, _, _, rfl, rfl, _, rfl, ite2 (fun e => ?_) (fun e => ?_)⟩
        · refine ⟨_, rfl, _, rfl, rfl, _, rfl, ?_⟩
          split <;> omega
        · exact ⟨rfl, _, rfl, by decide⟩
      · obtain ⟨rfl, g, rfl, g0⟩ := hM
        refine ⟨by decide, fun o no => ?_⟩
        obtain ⟨v, v0, v1, hv⟩ := primes_at k
        have h0 := fm0 (a := c) (show (0 : Int) < 2147483647 by decide)
        have h1 := fm1 (a := c) (show (0 : Int) < 2147483647 by decide)
        refine ⟨_, rfl, _, rfl, _, _, rfl, rfl, nz1, _, rfl, _, _, rfl, rfl, .inl ⟨by decide, by decide⟩, _, _, rfl, rfl, _, _, rfl, rfl, _, _, rfl, rfl, ⟨by decide, by decide, by omega⟩, _, rfl, _, rfl, _, _, rfl, rfl, nz3, o, _, _, _, rfl, rfl, .inl (.inl upd_same), hv, _, _, rfl, rfl, by omega, ?_⟩
        refine ⟨le3, fun p np => ?_⟩
        have np' : H'' p = none := (same_new no).free np
        exact q _ _ np' (same_put (same_new no) np') ⟨g, _, 0, upd_same, g0, fm0 v0, by have := fm1 (a := (c.fmod 2147483647 + 104711 * (k : Int) + 23) ^ Int.toNat 5) v0; omega⟩
end
theorem but_put {p q : Addr} {H H1 : Hp} {o : HO} (b : But p H H1) (n : H1 q = none) : But p H (upd H1 q o) := fun c u e nc => by
  have e1 := b c u e nc
  rw [upd_ne (ne_of_none e1 n)]
  exact e1
theorem bag_put {p q : Addr} {H : Hp} {o : HO} (b : Bag H p) (n : H q = none) : Bag (upd H q o) p := by
  obtain ⟨g, m, c, e, r⟩ := b
  exact ⟨g, m, c, by rw [upd_ne (ne_of_none e n)]; exact e, r⟩
theorem bag_same {p : Addr} {H H1 : Hp} (b : Bag H p) (s : Same H H1) : Bag H1 p := by
  obtain ⟨g, m, c, e, r⟩ := b
  exact ⟨g, m, c, s _ _ e, r⟩
theorem bag_ne {p q : Addr} {H : Hp} (b : Bag H p) (n : H q = none) : q ≠ p := by
  obtain ⟨g, m, c, e, r⟩ := b
  exact (ne_of_none e n).symm

theorem log_lo {n : Nat} (h : n ≠ 0) : 2 ^ n.log2 ≤ n := Nat.log2_self_le h
theorem log_hi {n : Nat} : n < 2 ^ (n.log2 + 1) := Nat.lt_log2_self
theorem log_lt {n f : Nat} (h : n ≠ 0) (hf : n < 2 ^ f) : n.log2 < f := (Nat.log2_lt h).mpr hf
theorem rest_lt {n : Nat} (h : n ≠ 0) : n - 2 ^ n.log2 < 2 ^ n.log2 := by
  have a := log_hi (n := n)
  have b := log_lo h
  rw [Nat.pow_succ] at a
  omega
theorem rest_lt' {n f : Nat} (h : n ≠ 0) (hf : n < 2 ^ (f + 1)) : n - 2 ^ n.log2 < 2 ^ f := by
  have a := rest_lt h
  have b := log_lt h hf
  have c : 2 ^ n.log2 ≤ 2 ^ f := Nat.pow_le_pow_right (by decide) (by omega)
  omega
/-- the lowest power -/
def low (n : Nat) : Nat := if h : n = 0 then 1 else if n % 2 = 0 then 2 * low (n / 2) else 1
termination_by n
decreasing_by omega
theorem low_even {n : Nat} (h : n ≠ 0) (e : n % 2 = 0) : low n = 2 * low (n / 2) := by
  rw [low, dif_neg h, if_pos e]
theorem low_odd {n : Nat} (e : n % 2 = 1) : low n = 1 := by
  rw [low, dif_neg (by omega), if_neg (by omega)]
theorem low_is : ∀ (j n : Nat), n ≠ 0 → n % 2 ^ j = 0 → ¬ n % 2 ^ (j + 1) = 0 → low n = 2 ^ j
  | 0, n, h, _, e => by
    rw [Nat.zero_add, Nat.pow_one] at e
    exact low_odd (by omega)
  | j + 1, n, h, a, b => by
    have e2 : n % 2 = 0 := by
      rw [Nat.pow_succ] at a
      have := Nat.mod_mod_of_dvd n (show 2 ∣ 2 ^ j * 2 from ⟨2 ^ j, Nat.mul_comm _ _⟩)
      rw [a] at this
      omega
    obtain ⟨m, rfl⟩ : ∃ m, n = 2 * m := ⟨n / 2, by omega⟩
    have hm : m ≠ 0 := by omega
    rw [low_even h e2, Nat.mul_div_cancel_left _ (by decide), Nat.pow_succ, Nat.mul_comm]
    have a' : m % 2 ^ j = 0 := by
      rw [Nat.pow_succ, Nat.mul_comm (2 ^ j) 2, Nat.mul_mod_mul_left] at a
      omega
    have b' : ¬ m % 2 ^ (j + 1) = 0 := fun z => by
      rw [Nat.pow_succ, Nat.mul_comm (2 ^ (j + 1)) 2, Nat.mul_mod_mul_left, z] at b
      exact b rfl
    rw [low_is j m hm a' b']
theorem low_pow (j : Nat) : low (2 ^ j) = 2 ^ j := by
  refine low_is j _ (Nat.pos_iff_ne_zero.mp (Nat.two_pow_pos j)) (Nat.mod_self _) fun z => ?_
  rw [Nat.mod_eq_of_lt (Nat.pow_lt_pow_right (by decide) (by omega))] at z
  have := Nat.two_pow_pos j
  omega

theorem ifT {c : Bool} {A B : Prop} (hc : c = true) (h : A) : if c = true then A else B := by
  rw [if_pos hc]
  exact h
theorem ifF {c : Bool} {A B : Prop} (hc : c = false) (h : B) : if c = true then A else B := by
  rw [hc, if_neg Bool.false_ne_true]
  exact h
theorem dF {p : Prop} [Decidable p] (h : ¬ p) : decide p = false := decide_eq_false h
theorem dT {p : Prop} [Decidable p] (h : p) : decide p = true := decide_eq_true h
theorem bits_nat {n : Nat} (h : n ≠ 0) : (Builtin.Int.intBits (n : Int) : Nat) = n.log2 + 1 := by
  unfold Builtin.Int.intBits
  rw [if_neg (show ¬ ((n : Int) == 0) = true by simpa using (show (n : Int) ≠ 0 by omega))]
  rfl
theorem gp_eq {n : Nat} (h : n ≠ 0) : (1 : Int) * 2 ^ (((Builtin.Int.intBits (n : Int) : Nat) : Int) - 1).toNat = ((2 ^ n.log2 : Nat) : Int) := by
  rw [bits_nat h, show (((n.log2 + 1 : Nat) : Int) - 1).toNat = n.log2 by omega, Int.one_mul]
  exact (PySem.W.kbt_cast _).symm
theorem gp_ok {n : Nat} (h : n ≠ 0) (hn : n < 2 ^ 200) : CShl 1 (((Builtin.Int.intBits (n : Int) : Nat) : Int) - 1) := by
  have a := log_lt h hn
  rw [bits_nat h, show (((n.log2 + 1 : Nat) : Int) - 1) = (n.log2 : Int) by omega]
  exact shl_ok (n := 1) (by decide) (by omega)
theorem nat_cast_lt {a : Nat} {n : Nat} (h : n < 2 ^ a) : (n : Int).natAbs < 2 ^ a := h
theorem pow_nat (k : Nat) : (2 : Int) ^ k = ((2 ^ k : Nat) : Int) := (PySem.W.kbt_cast k).symm
theorem p10 : (10 : Int) ^ Int.toNat 30 = ((10 ^ 30 : Nat) : Int) := by decide +kernel
theorem le6 : 6 ≤ sizeLine := by decide
theorem p100 : (10 ^ 30 : Nat) < 2 ^ 100 := by decide +kernel
def intAt (σ : L2.St) (i : Nat) : Nat := match σ[i]? with
  | some (some (V.int r)) => r.toNat
  | _ => 0
theorem le2 : 2 ≤ sizeLine := by decide
theorem cdiv_nat (a b : Nat) : ((a : Int) / (b : Int)) = ((a / b : Nat) : Int) := rfl

def szF : Nat → Nat → List Nat
  | 0, _ => []
  | f + 1, n => if n = 0 then [] else 2 ^ n.log2 :: szF f (n - 2 ^ n.log2)
theorem szF_zero (f : Nat) : szF f 0 = [] := by
  cases f with
  | zero => rfl
  | succ f => exact if_pos rfl
theorem szF_pos {f n : Nat} (h : n ≠ 0) : szF (f + 1) n = 2 ^ n.log2 :: szF f (n - 2 ^ n.log2) := if_neg h
theorem szF_sum : ∀ (f n : Nat), n < 2 ^ f → (szF f n).sum = n
  | 0, n, h => by
    have : n = 0 := by simpa using h
    subst this
    rfl
  | f + 1, n, h => by
    by_cases z : n = 0
    · subst z
      rw [szF_zero]
      rfl
    · rw [szF_pos z, List.sum_cons, szF_sum f _ (rest_lt' z h)]
      have := log_lo z
      omega
theorem szF_len : ∀ (f n : Nat), (szF f n).length ≤ f
  | 0, n => Nat.le_refl _
  | f + 1, n => by
    by_cases z : n = 0
    · subst z
      rw [szF_zero]
      exact Nat.zero_le _
    · rw [szF_pos z, List.length_cons]
      have := szF_len f (n - 2 ^ n.log2)
      omega
theorem szF_mem : ∀ (f n : Nat), n < 2 ^ f → ∀ x ∈ szF f n, (∃ j, j < f ∧ x = 2 ^ j) ∧ x ≤ n
  | 0, n, h, x, hx => by cases hx
  | f + 1, n, h, x, hx => by
    by_cases z : n = 0
    · subst z
      rw [szF_zero] at hx
      cases hx
    · rw [szF_pos z] at hx
      rcases List.mem_cons.mp hx with rfl | hx
      · exact ⟨⟨_, log_lt z h, rfl⟩, log_lo z⟩
      · obtain ⟨⟨j, hj, e⟩, l⟩ := szF_mem f _ (rest_lt' z h) x hx
        exact ⟨⟨j, Nat.lt_succ_of_lt hj, e⟩, Nat.le_trans l (Nat.sub_le _ _)⟩
theorem szF_desc : ∀ (f n : Nat), n < 2 ^ f → (szF f n).Pairwise (fun a b => b < a)
  | 0, n, h => List.Pairwise.nil
  | f + 1, n, h => by
    by_cases z : n = 0
    · subst z
      rw [szF_zero]
      exact List.Pairwise.nil
    · rw [szF_pos z]
      refine List.Pairwise.cons (fun x hx => ?_) (szF_desc f _ (rest_lt' z h))
      have := (szF_mem f _ (rest_lt' z h) x hx).2
      have := rest_lt z
      omega

/-- the sum of the lowest powers, by halves -/
def tot (n : Nat) : Nat := if h : n = 0 then 0 else (n - n / 2) + 2 * tot (n / 2)
termination_by n
decreasing_by omega
theorem tot_zero : tot 0 = 0 := by
  rw [tot]
  exact dif_pos rfl
theorem tot_pos {n : Nat} (h : n ≠ 0) : tot n = (n - n / 2) + 2 * tot (n / 2) := by
  rw [tot]
  exact dif_neg h
theorem tot_all (n : Nat) : tot n = (n - n / 2) + 2 * tot (n / 2) := by
  by_cases h : n = 0
  · subst h
    rw [tot_zero]
  · exact tot_pos h

/-! ### the lowest power by the and of both signs -/
theorem and_parts (a b : Nat) : a &&& b = 2 * (a / 2 &&& b / 2) + (a % 2 &&& b % 2) := by
  have h1 : (a &&& b) / 2 = a / 2 &&& b / 2 := Nat.and_div_two
  have h2 : (a &&& b) % 2 = a % 2 &&& b % 2 := by
    have := Nat.and_mod_two_pow (a := a) (b := b) (n := 1)
    simpa using this
  omega
theorem low_and : ∀ n : Nat, n ≠ 0 → n - (n &&& (n - 1)) = low n := by
  intro n
  induction n using Nat.strongRecOn with
  | ind n ih =>
    intro h
    by_cases e : n % 2 = 0
    · obtain ⟨m, rfl⟩ : ∃ m, n = 2 * m := ⟨n / 2, by omega⟩
      have hm : m ≠ 0 := by omega
      have i := ih m (by omega) hm
      rw [low_even h e, and_parts, show 2 * m / 2 = m by omega, show (2 * m - 1) / 2 = m - 1 by omega, show 2 * m % 2 = 0 by omega, Nat.zero_and, ← i]
      omega
    · rw [low_odd (by omega), and_parts, show (n - 1) / 2 = n / 2 by omega, show (n - 1) % 2 = 0 by omega, Nat.and_zero, Nat.and_self]
      omega
theorem low_bits {n : Nat} (h : n ≠ 0) : Builtin.bitAnd (n : Int) (-(n : Int)) = (low n : Int) := by
  have e1 : (Builtin.bitNot (-(n : Int))).toNat = n - 1 := by
    show (-(-(n : Int)) - 1).toNat = n - 1
    omega
  have e2 : n &&& (n - 1) ≤ n := Nat.and_le_left
  rw [bitAnd_pn (by omega) (by omega), e1, Int.toNat_natCast, ← low_and n h]
  omega
theorem low_spec : ∀ n : Nat, n ≠ 0 → ∃ e, low n = 2 ^ e ∧ n % 2 ^ e = 0 ∧ n % 2 ^ (e + 1) ≠ 0 := by
  intro n
  induction n using Nat.strongRecOn with
  | ind n ih =>
    intro h
    by_cases e : n % 2 = 0
    · obtain ⟨m, rfl⟩ : ∃ m, n = 2 * m := ⟨n / 2, by omega⟩
      have hm : m ≠ 0 := by omega
      obtain ⟨k, e1, e2, e3⟩ := ih m (by omega) hm
      refine ⟨k + 1, ?_, ?_, ?_⟩
      · rw [low_even h e, show 2 * m / 2 = m by omega, e1, Nat.pow_succ, Nat.mul_comm]
      · rw [Nat.pow_succ, Nat.mul_comm (2 ^ k) 2, Nat.mul_mod_mul_left, e2]
      · rw [Nat.pow_succ, Nat.mul_comm (2 ^ (k + 1)) 2, Nat.mul_mod_mul_left]
        omega
    · exact ⟨0, low_odd (by omega), Nat.mod_one _, by rw [Nat.zero_add, Nat.pow_one]; omega⟩
/-! ### pieces -/
def szP (a r : Nat) : Nat := if a = 0 then 2 ^ r.log2 else min (2 ^ r.log2) (low a)
def pcF : Nat → Nat → Nat → List (Nat × Nat)
  | 0, _, _ => []
  | f + 1, a, r => if r = 0 then [] else (a, szP a r) :: pcF f (a + szP a r) (r - szP a r)
def enough (k a r : Nat) : Prop := ∃ m, r < 2 ^ m ∧ (((a = 0 ∨ a % 2 ^ m = 0) ∧ m ≤ k) ∨ ∃ j, a ≠ 0 ∧ a % 2 ^ j = 0 ∧ j ≤ 100 ∧ (100 - j) + m + 1 ≤ k)
theorem mod_le {a i j : Nat} (h : a % 2 ^ j = 0) (l : i ≤ j) : a % 2 ^ i = 0 := by
  have d : 2 ^ i ∣ 2 ^ j := Nat.pow_dvd_pow 2 l
  exact Nat.mod_eq_zero_of_dvd (Nat.dvd_trans d (Nat.dvd_of_mod_eq_zero h))
theorem mod_add {a b i : Nat} (h : a % 2 ^ i = 0) (h2 : b % 2 ^ i = 0) : (a + b) % 2 ^ i = 0 := by
  rw [Nat.add_mod, h, h2]
  simp
theorem odd_up {a e : Nat} (h : a % 2 ^ e = 0) (h2 : a % 2 ^ (e + 1) ≠ 0) : (a + 2 ^ e) % 2 ^ (e + 1) = 0 := by
  obtain ⟨q, rfl⟩ := Nat.dvd_of_mod_eq_zero h
  have hp := Nat.two_pow_pos e
  rw [Nat.pow_succ, Nat.mul_mod_mul_left] at h2
  have h3 : q % 2 = 1 := by
    rcases Nat.mod_two_eq_zero_or_one q with z | z
    · rw [z] at h2
      exact absurd rfl h2
    · exact z
  rw [show 2 ^ e * q + 2 ^ e = 2 ^ e * (q + 1) by rw [Nat.mul_add, Nat.mul_one], Nat.pow_succ, Nat.mul_mod_mul_left, show (q + 1) % 2 = 0 by omega, Nat.mul_zero]
theorem szP_le {a r : Nat} (h : r ≠ 0) : szP a r ≤ r := by
  have l2 := log_lo h
  unfold szP
  split
  · exact l2
  · exact Nat.le_trans (Nat.min_le_left _ _) l2
theorem enough_step {k a r : Nat} (h : enough k a r) (hr : r ≠ 0) (hb : a + r ≤ 2 ^ 100) :
    ∃ k', k = k' + 1 ∧ enough k' (a + szP a r) (r - szP a r) ∧ szP a r ≤ r ∧ 0 < szP a r ∧ ∃ j, szP a r = 2 ^ j ∧ a % 2 ^ j = 0 := by
  obtain ⟨m, hm, hc⟩ := h
  have lo := log_lo hr
  have rl := rest_lt hr
  have ll := log_lt hr hm
  have hp := Nat.two_pow_pos r.log2
  rcases hc with ⟨hz, hk⟩ | ⟨j, ha, hj, hj1, hk⟩
  · have es : szP a r = 2 ^ r.log2 := by
      unfold szP
      by_cases z : a = 0
      · rw [if_pos z]
      · rw [if_neg z]
        obtain ⟨e, e1, e2, e3⟩ := low_spec a z
        rw [e1]
        rcases hz with hz | hz
        · exact absurd hz z
        · have : m ≤ e := by
            refine Nat.le_of_not_lt fun q => e3 (mod_le hz (by omega))
          exact Nat.min_eq_left (Nat.pow_le_pow_right (by decide) (by omega))
    have ad : a % 2 ^ r.log2 = 0 := by
      rcases hz with hz | hz
      · rw [hz]
        exact Nat.zero_mod _
      · exact mod_le hz (by omega)
    rw [es]
    exact ⟨k - 1, by omega, ⟨r.log2, rl, .inl ⟨.inr (mod_add ad (Nat.mod_self _)), by omega⟩⟩, lo, hp, _, rfl, ad⟩
  · obtain ⟨e, e1, e2, e3⟩ := low_spec a ha
    have hje : j ≤ e := Nat.le_of_not_lt fun q => e3 (mod_le hj (by omega))
    by_cases c : 2 ^ e ≤ 2 ^ r.log2
    · have es : szP a r = 2 ^ e := by
        unfold szP
        rw [if_neg ha, e1]
        exact Nat.min_eq_right c
      rw [es]
      have he : e < 100 := by
        have h1 : 2 ^ e < 2 ^ 100 := by omega
        exact (Nat.pow_lt_pow_iff_right (by decide)).mp h1
      have hpe := Nat.two_pow_pos e
      exact ⟨k - 1, by omega, ⟨m, by omega, .inr ⟨e + 1, by omega, odd_up e2 e3, by omega, by omega⟩⟩, by omega, hpe, _, rfl, e2⟩
    · have es : szP a r = 2 ^ r.log2 := by
        unfold szP
        rw [if_neg ha, e1]
        exact Nat.min_eq_left (by omega)
      have hle : r.log2 ≤ e := by
        refine Nat.le_of_not_lt fun q => c (Nat.pow_le_pow_right (by decide) (by omega))
      rw [es]
      exact ⟨k - 1, by omega, ⟨r.log2, rl, .inl ⟨.inr (mod_add (mod_le e2 hle) (Nat.mod_self _)), by omega⟩⟩, lo, hp, _, rfl, mod_le e2 hle⟩
theorem enough_all {a r : Nat} (h : a + r ≤ 10 ^ 30) : enough 201 a r := by
  have h1 : (10 ^ 30 : Nat) < 2 ^ 100 := by decide +kernel
  by_cases z : a = 0
  · exact ⟨100, by omega, .inl ⟨.inl z, by decide⟩⟩
  · exact ⟨100, by omega, .inr ⟨0, z, Nat.mod_one _, by decide, by decide⟩⟩
theorem pcF_zero (f a : Nat) : pcF f a 0 = [] := by
  cases f with
  | zero => rfl
  | succ f => exact if_pos rfl
theorem pcF_pos {f a r : Nat} (h : r ≠ 0) : pcF (f + 1) a r = (a, szP a r) :: pcF f (a + szP a r) (r - szP a r) := if_neg h
theorem pcF_len : ∀ (f a r : Nat), (pcF f a r).length ≤ f
  | 0, _, _ => Nat.le_refl _
  | f + 1, a, r => by
    by_cases h : r = 0
    · subst h
      rw [pcF_zero]
      exact Nat.zero_le _
    · rw [pcF_pos h, List.length_cons]
      have := pcF_len f (a + szP a r) (r - szP a r)
      omega

section
variable {P : Program} {w : World} {K : PySem.W.Frag} {mg : Str → Option Value} {base : Heap}
def spGp : Sp := fun vs H Q _ => ∃ n : Nat, vs = [.int (n : Int)] ∧ n ≠ 0 ∧ n < 2 ^ 200 ∧ Q (.int ((2 ^ n.log2 : Nat) : Int)) H
theorem ok_gp (T : Txt K mg) : FnOk P w K mg base CX0 1 T.f_greatest_power T.d_greatest_power ["number"] spGp := by
  refine T.F_greatest_power.ok sc_greatest_power (fun vs H Q E h => ?_) (fun cdv A outer s H vs Q E hr h => ?_)
  · obtain ⟨n, rfl, _⟩ := h
    rfl
  · obtain ⟨n, rfl, h0, h1, q⟩ := h
    refine ⟨_, (pss_one (ps_ret (pe_op op_shlW pe_int (pe_op op_sub (pe_bits (pv 0)) pe_int)))), ?_⟩
    rw [← gp_eq h0] at q
    exact ⟨_, rfl, _, rfl, _, _, rfl, rfl, _, _, rfl, rfl, gp_ok h0 h1, q⟩

def spLp : Sp := fun vs H Q _ => ∃ n : Nat, vs = [.int (n : Int)] ∧ n ≠ 0 ∧ Q (.int (low n : Int)) H
theorem ok_lp (T : Txt K mg) : FnOk P w K mg base CX0 1 T.f_lowest_power T.d_lowest_power ["number"] spLp := by
  refine T.F_lowest_power.ok sc_lowest_power (fun vs H Q E h => ?_) (fun cdv A outer s H vs Q E hr h => ?_)
  · obtain ⟨n, rfl, _⟩ := h
    rfl
  · obtain ⟨n, rfl, h0, q⟩ := h
    refine ⟨_, (pss_one (ps_ret (pe_op op_and (pv 0) (pe_un un_neg (pv 0))))), ?_⟩
    rw [← low_bits h0] at q
    exact ⟨_, rfl, _, rfl, _, rfl, _, _, rfl, rfl, q⟩
def spPs : Sp := fun vs H Q _ => ∃ a r : Nat, vs = [.int (a : Int), .int (r : Int)] ∧ r ≠ 0 ∧ r < 2 ^ 200 ∧ Q (.int (szP a r : Int)) H
theorem ok_ps (T : Txt K mg) : FnOk P w K mg base CX0 2 T.f_piece_size T.d_piece_size ["first", "room"] spPs := by
  have G_greatest_power := ok_gp (P := P) (w := w) (base := base) T
  have G_lowest_power := ok_lp (P := P) (w := w) (base := base) T
  refine T.F_piece_size.ok sc_piece_size (fun vs H Q E h => ?_) (fun cdv A outer s H vs Q E hr h => ?_)
  · obtain ⟨a, r, rfl, _⟩ := h
    rfl
  · obtain ⟨a, r, rfl, h0, h1, q⟩ := h
    refine ⟨_, (pss_cons (ps_set (i := 2) sc_piece_size.nd rfl (.inl rfl) (pe_call G_greatest_power (hr.mono (by omega)) rfl T.g_greatest_power T.F_greatest_power.kp T.b_greatest_power .nil pass0 (pa_cons (pv 1) pa_nil)))
      (pss_cons (ps_if (pt_cmpR op_eq (pv 0) pe_int (nomark _)) (pss_one (ps_ret (pv 2))) pss_nil)
      (pss_one (ps_ret (pe_callB (call_min2 rfl) (by rfl) T.z_min (by decide +kernel) (pa_cons (pv 2) (pa_cons (pe_call G_lowest_power (hr.mono (by omega)) rfl T.g_lowest_power T.F_lowest_power.kp T.b_lowest_power .nil pass0 (pa_cons (pv 0) pa_nil)) pa_nil))))))), ?_⟩
    refine ⟨_, rfl, r, rfl, h0, h1, _, rfl, rfl, _, rfl, ite2 (fun e => ?_) (fun e => ?_)⟩
    · have e1 := V.int.inj (of_decide_eq_true e)
      have e2 : szP a r = 2 ^ r.log2 := if_pos (by omega)
      rw [e2] at q
      exact ⟨_, rfl, q⟩
    · have e1 : a ≠ 0 := fun z => e (dT (by rw [z]; rfl))
      have e2 : szP a r = min (2 ^ r.log2) (low a) := if_neg e1
      refine ⟨_, rfl, _, rfl, a, rfl, e1, _, _, rfl, ?_⟩
      have e3 : (if (low a : Int) < ((2 ^ r.log2 : Nat) : Int) then (low a : Int) else ((2 ^ r.log2 : Nat) : Int)) = (szP a r : Int) := by
        rw [e2]
        split <;> omega
      rw [e3]
      exact q

end
/-- a list of pairs at p -/
def PL (H : Hp) (p : Addr) (l : List (Nat × Nat)) : Prop := ∃ ts : List Addr, H p = some (.lst (ts.map V.ref)) ∧ ts.length = l.length ∧
  ∀ (i : Nat) (t : Addr) (x : Nat × Nat), ts[i]? = some t → l[i]? = some x → H t = some (.tup [.int (x.1 : Int), .int (x.2 : Int)])
theorem PL.same {H H1 : Hp} {p : Addr} {l : List (Nat × Nat)} (h : PL H p l) (s : Same H H1) : PL H1 p l := by
  obtain ⟨ts, a, b, c⟩ := h
  exact ⟨ts, s _ _ a, b, fun i t x e1 e2 => s _ _ (c i t x e1 e2)⟩
theorem PL.nil {H : Hp} {p : Addr} : PL (upd H p (.lst [])) p [] := ⟨[], upd_same, rfl, fun i t x e => by simp at e⟩
theorem PL.add {H : Hp} {p t : Addr} {l : List (Nat × Nat)} {ts : List Addr} {x : Nat × Nat} (e1 : H p = some (.lst (ts.map V.ref))) (e2 : ts.length = l.length)
    (e3 : ∀ (i : Nat) (t : Addr) (x : Nat × Nat), ts[i]? = some t → l[i]? = some x → H t = some (.tup [.int (x.1 : Int), .int (x.2 : Int)])) (n : H t = none) :
    PL (upd (upd H t (.tup [.int (x.1 : Int), .int (x.2 : Int)])) p (.lst ((ts.map V.ref) ++ [V.ref t]))) p (l ++ [x]) := by
  have ntp : t ≠ p := (ne_of_none e1 n).symm
  refine ⟨ts ++ [t], by rw [upd_same, List.map_append]; rfl, by rw [List.length_append, List.length_append, e2]; rfl, fun i u y f1 f2 => ?_⟩
  by_cases hi : i < ts.length
  · rw [List.getElem?_append_left hi] at f1
    rw [List.getElem?_append_left (by omega)] at f2
    have g := e3 i u y f1 f2
    have hup : u ≠ p := fun z => by
      rw [z, e1] at g
      cases g
    rw [upd_ne hup, upd_ne (ne_of_none g n)]
    exact g
  · rw [List.getElem?_append_right (by omega)] at f1 f2
    by_cases hz : i - ts.length = 0
    · rw [hz] at f1
      rw [show i - l.length = 0 by omega] at f2
      cases f1
      cases f2
      rw [upd_ne ntp, upd_same]
    · rw [show i - ts.length = (i - ts.length - 1) + 1 by omega] at f1
      simp at f1

end Ob

set_option Elab.async false
set_option linter.all false
set_option maxRecDepth 100000
set_option maxHeartbeats 1000000
namespace Ob
open PySem PySem.Spec PyProof.Rows L2

/-! ### isinstance of the error that a suite holds -/
theorem is_ex1 {X : Cx} {a D : Addr} {oe : Obj} {cls : Value} {d : Option Addr} {pn : List (Addr × Obj)} (C : ExcC X.K D) (hz : Zc cls d oe) (hf : ∃ vs, oe.data = .fields vs) :
    CallR (X.suite a ((a, oe) :: pn)) (.builtin "isinstance") (fun xs H Q => (cls = .ref D ∧ d = none) ∧ rIsE X.K D a xs H Q) := fun pins s σ H xs us Q I r h => by
  obtain ⟨⟨e1, e2⟩, h⟩ := h
  subst e1 e2
  exact call_isE C hz hf pins s σ H xs us Q I r h
def rIsET (K : PySem.W.Frag) (D a : Addr) : List V → Hp → VK → Prop := fun xs H Q => ∃ (tp : Addr) (cs : List V) (us : List Value) (b : Bool), xs = [.ref a, .ref tp] ∧ H tp = some (.tup cs) ∧ Paired ClsV cs us ∧ PySem.W.kitAny K (.ref D) us = some b ∧ Q (.bl b) H
theorem is_exT {X : Cx} {a D : Addr} {oe : Obj} {cls : Value} {d : Option Addr} {pn : List (Addr × Obj)} (C : ExcC X.K D) (hz : Zc cls d oe) (hf : ∃ vs, oe.data = .fields vs) :
    CallR (X.suite a ((a, oe) :: pn)) (.builtin "isinstance") (fun xs H Q => (cls = .ref D ∧ d = none) ∧ rIsET X.K D a xs H Q) := fun pins s σ H xs us Q I r h => by
  obtain ⟨⟨e1, e2⟩, tp, cs, ws, b, rfl, hT, k, e, q⟩ := h
  subst e1 e2
  obtain ⟨u1, u2, rfl, r1, r2⟩ := vals2 r
  cases (show u1 = Value.ref a from r1)
  cases (show u2 = Value.ref tp from r2)
  obtain ⟨hget, _⟩ := I.pin (a, oe) (List.mem_append.mpr (.inl List.mem_cons_self))
  obtain ⟨vs, hv⟩ := hf
  have J : PySem.W.InstAt s.heap a oe D none := by
    obtain ⟨oc, od, oda, osl⟩ := oe
    obtain ⟨h1, h2⟩ := hz
    dsimp only at h1 h2 hv
    subst h1 h2 hv
    exact ⟨hget, rfl, rfl, trivial⟩
  obtain ⟨_, its, rv, o, h1, h2, n, h3⟩ := (show ObjOk X.prog X.w H s.heap tp (.tup cs) from I.hok tp _ hT)
  have e3 := ClsV.all k rv
  subst e3
  obtain ⟨oc, od, dt, sl⟩ := o
  simp only at h2 h3
  subst h2 h3
  exact PySem.W.kia_tup (PySem.W.handS_kitx_exc C.hg C.hk C.hs C.hd C.ha C.hn C.ht C.hm) I.kIn J h1 e (fun z => nomatch z) fun tk => ⟨.bl b, H, I.tok tk, rfl, q⟩
/-! ### what may be passed -/
inductive Arg (H : Hp) (p : Addr) : V → Option Nat → Prop where
  | num (n : Nat) (h : n ≤ 10 ^ 30) : Arg H p (.int (n : Int)) (some n)
  | out (i : Int) (h : i < 0 ∨ ((10 ^ 30 : Nat) : Int) < i) : Arg H p (.int i) none
  | bl (b : Bool) : Arg H p (.bl b) none
  | non : Arg H p .non none
  | str (x : Str) : Arg H p (.str x) none
  | lst {a : Addr} {xs : List V} (e : H a = some (.lst xs)) (n : a ≠ p) : Arg H p (.ref a) none
  | tup {a : Addr} {xs : List V} (e : H a = some (.tup xs)) (n : a ≠ p) : Arg H p (.ref a) none
theorem Arg.but {H H1 : Hp} {p : Addr} {v : V} {g : Option Nat} (h : Arg H p v g) (b : But p H H1) : Arg H1 p v g := by
  cases h with
  | num n h => exact .num n h
  | out i h => exact .out i h
  | bl b => exact .bl b
  | non => exact .non
  | str x => exact .str x
  | lst e n => exact .lst (b _ _ e n) n
  | tup e n => exact .tup (b _ _ e n) n
theorem Arg.same {H H1 : Hp} {p : Addr} {v : V} {g : Option Nat} (h : Arg H p v g) (b : Same H H1) : Arg H1 p v g := h.but (but_of_same b)
theorem Arg.val {H : Hp} {p : Addr} {v : V} {n : Nat} (h : Arg H p v (some n)) : v = .int (n : Int) ∧ n ≤ 10 ^ 30 := by
  cases h
  exact ⟨rfl, by assumption⟩
theorem e30 : (10 : Int) ^ 30 = ((10 ^ 30 : Nat) : Int) := by decide +kernel
/-- its type, and what isinstance says of int and bool -/
theorem Arg.kind {K : PySem.W.Frag} {H : Hp} {p : Addr} {v : V} {g : Option Nat} (h : Arg H p v g) : ∃ t bi bb, TyX K H v t ∧ PySem.W.kitOne K t (.type "int") = some bi ∧ PySem.W.kitOne K t (.type "bool") = some bb ∧
    ((bi = true ∧ bb = false ∧ ∃ i, v = .int i ∧ (i < 0 ∨ ((10 ^ 30 : Nat) : Int) < i ↔ g = none)) ∨ ((bi = false ∨ bb = true) ∧ g = none)) := by
  cases h with
  | num n h => exact ⟨_, true, false, .base (.int _), kit_ty (by decide +kernel), kit_ty (by decide +kernel), .inl ⟨rfl, rfl, _, rfl, ⟨fun z => by omega, fun z => nomatch z⟩⟩⟩
  | out i h => exact ⟨_, true, false, .base (.int _), kit_ty (by decide +kernel), kit_ty (by decide +kernel), .inl ⟨rfl, rfl, _, rfl, ⟨fun _ => rfl, fun _ => h⟩⟩⟩
  | bl b => exact ⟨_, true, true, .base (.bl _), kit_ty (by decide +kernel), kit_ty (by decide +kernel), .inr ⟨.inr rfl, rfl⟩⟩
  | non => exact ⟨_, false, false, .base .non, kit_ty (by decide +kernel), kit_ty (by decide +kernel), .inr ⟨.inl rfl, rfl⟩⟩
  | str x => exact ⟨_, false, false, .base (.str _), kit_ty (by decide +kernel), kit_ty (by decide +kernel), .inr ⟨.inl rfl, rfl⟩⟩
  | lst e n => exact ⟨_, false, false, .base (.lst e), kit_ty (by decide +kernel), kit_ty (by decide +kernel), .inr ⟨.inl rfl, rfl⟩⟩
  | tup e n => exact ⟨_, false, false, .base (.tup e), kit_ty (by decide +kernel), kit_ty (by decide +kernel), .inr ⟨.inl rfl, rfl⟩⟩
section
variable {P : Program} {w : World} {K : PySem.W.Frag} {mg : Str → Option Value} {base : Heap}
def spIsI (K : PySem.W.Frag) : Sp := fun vs H Q _ => ∃ (v : V) (t : Value) (bi bb : Bool), vs = [v] ∧ TyX K H v t ∧ PySem.W.kitOne K t (.type "int") = some bi ∧ PySem.W.kitOne K t (.type "bool") = some bb ∧ Q (.bl (bi && !bb)) H
theorem ok_isi (T : Txt K mg) : FnOk P w K mg base CX0 1 T.f_is_integer T.d_is_integer ["value"] (spIsI K) := by
  refine T.F_is_integer.ok sc_is_integer (fun vs H Q E h => ?_) (fun cdv A outer s H vs Q E hr h => ?_)
  · obtain ⟨v, t, bi, bb, rfl, _⟩ := h
    rfl
  · obtain ⟨v, t, bi, bb, rfl, ty, ki, kb, q⟩ := h
    refine ⟨_, (pss_one (ps_ret (pe_and (pe_callB call_isi (by rfl) T.z_isinstance (by decide +kernel) (pa_cons (pv 0) (pa_cons (pe_bltn (v := .ty "int") (by rfl) T.z_int (by decide +kernel) rfl) pa_nil))) (pe_one (pe_not (pe_callB call_isi (by rfl) T.z_isinstance (by decide +kernel) (pa_cons (pv 0) (pa_cons (pe_bltn (v := .ty "bool") (by rfl) T.z_bool (by decide +kernel) rfl) pa_nil)))))))), ?_⟩
    refine ⟨_, rfl, v, .ty "int", t, .type "int", bi, rfl, .ty _, ty, ki, bi, rfl, ?_⟩
    cases bi with
    | false => exact iteF q
    | true =>
      refine iteT ?_
      exact ⟨_, rfl, v, .ty "bool", t, .type "bool", bb, rfl, .ty _, ty, kb, bb, rfl, q⟩
def spCki (T : Txt K mg) : Sp := fun vs H Q E => ∃ (v : V) (t : Value) (bi bb : Bool), vs = [v] ∧ TyX K H v t ∧ PySem.W.kitOne K t (.type "int") = some bi ∧ PySem.W.kitOne K t (.type "bool") = some bb ∧ ((bi && !bb) = true → Q .non H) ∧ ((bi && !bb) = false → E (.ref T.C_BadNumber) none H)
theorem ok_cki (T : Txt K mg) : FnOk P w K mg base (L2.CX P w) 2 T.f_check_integer T.d_check_integer ["value"] (spCki T) := by
  have G_is_integer := ok_isi (P := P) (w := w) (base := base) T
  refine T.F_check_integer.okX sc_check_integer (fun vs H Q E h => ?_) (fun cdv A outer s H vs Q E hr h => ?_)
  · obtain ⟨v, t, bi, bb, rfl, _⟩ := h
    rfl
  · obtain ⟨v, t, bi, bb, rfl, ty, ki, kb, q, qe⟩ := h
    refine ⟨_, (pss_one (ps_if (pt_not (pt_val (pe_call G_is_integer (hr.mono (by omega)) rfl T.g_is_integer T.F_is_integer.kp T.b_is_integer .nil pass0 (pa_cons (pv 0) pa_nil)))) (pss_one (ps_raise rfl (takes_of rfl rfl rfl rfl) (pmk_own PySem.F.excBase_ValueError T.xB T.gc_BadNumber T.kB (raises_own T.bB T.tB) rfl))) pss_nil)), ?_⟩
    refine ⟨_, rfl, v, t, bi, bb, rfl, ty, ki, kb, _, rfl, ?_⟩
    cases hb : (bi && !bb) with
    | false => exact iteT (qe hb)
    | true => exact iteF (q hb)
def spCheck (T : Txt K mg) : Sp := fun vs H Q E => ∃ (p : Addr) (v : V) (g : Option Nat), vs = [v] ∧ Arg H p v g ∧ (g ≠ none → Q .non H) ∧ (g = none → E (.ref T.C_BadNumber) none H)
theorem ok_check (T : Txt K mg) : FnOk P w K mg base (L2.CX P w) 3 T.f_check_number T.d_check_number ["value"] (spCheck T) := by
  have G_check_integer := ok_cki (P := P) (w := w) (base := base) T
  refine T.F_check_number.okX sc_check_number (fun vs H Q E h => ?_) (fun cdv A outer s H vs Q E hr h => ?_)
  · obtain ⟨p, v, g, rfl, _⟩ := h
    rfl
  · obtain ⟨p, v, g, rfl, ha, q, qe⟩ := h
    have rG := T.r_GREATEST
    refine ⟨_, (pss_cons (ps_expr (pe_call G_check_integer (hr.mono (by omega)) rfl T.g_check_integer T.F_check_integer.kp T.b_check_integer .nil (passes_call (takes_of rfl rfl rfl rfl) (fun _ _ _ _ h => h)) (pa_cons (pv 0) pa_nil)))
      (pss_one (ps_if (PW.pt (pw_or (pt_cmpR op_lt (pv 0) pe_int (nomark _)) (pw_or1 (pt_cmpR op_gt (pv 0) (pe_glob rfl T.v_GREATEST T.r_GREATEST) (nomark _))))) (pss_one (ps_raise rfl (takes_of rfl rfl rfl rfl) (pmk_own PySem.F.excBase_ValueError T.xB T.gc_BadNumber T.kB (raises_own T.bB T.tB) rfl))) pss_nil))), ?_⟩
    obtain ⟨t, bi, bb, ty, ki, kb, hk⟩ := ha.kind (K := K)
    refine ⟨_, rfl, v, t, bi, bb, rfl, ty, ki, kb, fun hg => ?_, fun hb => ?_⟩
    · rcases hk with ⟨rfl, rfl, i, rfl, hi⟩ | ⟨hb, hg2⟩
      · refine ⟨_, rfl, _, _, rfl, rfl, _, rfl, ite2 (fun e => ?_) (fun e => ?_)⟩
        · exact qe (hi.mp (.inl (of_decide_eq_true e)))
        · refine ⟨_, rfl, _, _, rfl, rfl, _, rfl, ite2 (fun e2 => ?_) (fun e2 => ?_)⟩
          · have e3 := of_decide_eq_true e2
            rw [e30] at e3
            exact qe (hi.mp (.inr e3))
          · refine q fun z => ?_
            rcases hi.mpr z with z | z
            · exact e (dT z)
            · exact e2 (dT (by rw [e30]; exact z))
      · rcases hb with rfl | rfl
        · exact absurd hg (by simp)
        · exact absurd hg (by simp)
    · rcases hk with ⟨rfl, rfl, i, rfl, hi⟩ | ⟨hb2, hg⟩
      · exact absurd hb (by simp)
      · exact qe hg
end
end Ob

set_option Elab.async false
set_option linter.all false
set_option maxRecDepth 100000
set_option maxHeartbeats 1000000
namespace Ob
open PySem PySem.Spec PyProof.Rows L2

def toI (l : List Nat) : List Int := l.map fun (x : Nat) => (x : Int)
def toV (l : List Nat) : List V := (toI l).map V.int
section
variable {P : Program} {w : World} {K : PySem.W.Frag} {mg : Str → Option Value} {base : Heap}
def spOne (T : Txt K mg) : Sp := fun vs H Q E => ∃ (p : Addr) (v : V) (g : Option Nat), vs = [v] ∧ Arg H p v g ∧ (g ≠ none → ∀ r H', Same H H' → Q r H') ∧ (g = none → E (.ref T.C_BadNumber) none H)
theorem ok_sizes (T : Txt K mg) : FnOk P w K mg base (L2.CX P w) 4 T.f_block_sizes T.d_block_sizes ["many"] (spOne T) := by
  have G_greatest_power := ok_gp (P := P) (w := w) (base := base) T
  have G_check_number := ok_check (P := P) (w := w) (base := base) T
  refine T.F_block_sizes.okX sc_block_sizes (fun vs H Q E h => ?_) (fun cdv A outer s H vs Q E hr h => ?_)
  · obtain ⟨p, v, g, rfl, _⟩ := h
    rfl
  · obtain ⟨p, v, g, rfl, ha, q', qe⟩ := h
    refine ⟨_, (pss_cons (ps_expr (pe_call G_check_number (hr.mono (by omega)) rfl T.g_check_number T.F_check_number.kp T.b_check_number .nil (passes_call (takes_of rfl rfl rfl rfl) (fun _ _ _ _ h => h)) (pa_cons (pv 0) pa_nil)))
      (pss_cons (ps_set (i := 1) sc_block_sizes.nd rfl (.inl rfl) (pe_lst pa_nil))
      (pss_cons (ps_set (i := 2) sc_block_sizes.nd rfl (.inl rfl) (pv 0))
      (pss_cons (ps_while (passes_of rfl) (pt_cmpR op_gt (pv 2) pe_int (nomark _)) (pss_cons (ps_set (i := 3) sc_block_sizes.nd rfl (.inl rfl) (pe_call G_greatest_power (hr.mono (by omega)) rfl T.g_greatest_power T.F_greatest_power.kp T.b_greatest_power .nil pass0 (pa_cons (pv 2) pa_nil)))
        (pss_cons (ps_expr (pe_bm PySem.F.plainAttrs_list PySem.F.slot_list_append PySem.F.type_list_append mt_append (pv 1) (pa_cons (pv 3) pa_nil)))
        (pss_one (ps_aug (i := 2) sc_block_sizes.nd rfl (.inl rfl) (pv 3) ip_sub)))))
      (pss_one (ps_ret (pv 1))))))), ?_⟩
    refine ⟨_, rfl, p, v, g, rfl, ha, fun hg => ?_, qe⟩
    obtain ⟨n, rfl⟩ := Option.ne_none_iff_exists'.mp hg
    obtain ⟨rfl, h0⟩ := ha.val
    have q : ∀ (o : Addr) H', Same H H' → Q (.ref o) H' := fun o H' s => q' (fun z => nomatch z) _ _ s
    refine ⟨Nat.zero_le _, fun o no => ?_⟩
    refine ⟨_, rfl, ?_⟩
    refine while_by (fun σ H' => ∃ (rest k : Nat) (acc : List Nat) (y : Option V), σ = [some (.int (n : Int)), some (.ref o), some (.int (rest : Int)), y] ∧ rest < 2 ^ k ∧ acc.length + k ≤ 100 ∧ acc ++ szF k rest = szF 100 n ∧ Same H H' ∧ H' o = some (.lst (toV acc)))
      (fun σ _ => intAt σ 2) ⟨n, 100, [], none, rfl, Nat.lt_of_le_of_lt h0 p100, Nat.le_refl _, rfl, same_new no, upd_same⟩ ?_ ?_
    · rintro σ H' ⟨rest, k, acc, y, rfl, hk, hl, he, hs, ho⟩
      refine ⟨_, rfl, _, _, rfl, rfl, _, rfl, ite2 (fun e => ?_) (fun e => ?_)⟩
      · have e1 := of_decide_eq_true e
        have z : rest ≠ 0 := by omega
        obtain ⟨k, rfl⟩ : ∃ j, k = j + 1 := ⟨k - 1, by
          have := log_lt z hk
          omega⟩
        refine ⟨_, rfl, rest, rfl, z, Nat.lt_of_lt_of_le hk (Nat.pow_le_pow_right (by decide) (by omega)), ?_⟩
        refine ⟨_, rfl, .inl ⟨rfl, _, .inl (.inl ho)⟩, _, rfl, o, _, _, rfl, rfl, ho, ?_, ?_⟩
        · unfold toV toI
          rw [List.length_map, List.length_map]
          exact small1000 (by omega)
        · refine ⟨_, rfl, _, rfl, _, _, rfl, rfl, ?_⟩
          have lo := log_lo z
          have e3 : ((rest : Int) - ((2 ^ rest.log2 : Nat) : Int)) = ((rest - 2 ^ rest.log2 : Nat) : Int) := by omega
          refine ⟨⟨rest - 2 ^ rest.log2, k, acc ++ [2 ^ rest.log2], some (.int ((2 ^ rest.log2 : Nat) : Int)), ?_, rest_lt' z hk, ?_, ?_, same_put hs no, ?_⟩, ?_⟩
          · rw [← e3]
            rfl
          · rw [List.length_append]
            show acc.length + 1 + k ≤ 100
            omega
          · rw [← he, szF_pos z, List.append_assoc]
            rfl
          · rw [upd_same]
            unfold toV toI
            rw [List.map_append, List.map_append]
            rfl
          · show ((rest : Int) - ((2 ^ rest.log2 : Nat) : Int)).toNat < ((rest : Int)).toNat
            have := Nat.two_pow_pos rest.log2
            omega
      · have e1 : rest = 0 := by
          have : ¬ ((0 : Int) < (rest : Int)) := fun z => e (dT z)
          omega
        subst e1
        rw [szF_zero, List.append_nil] at he
        subst he
        exact ⟨_, rfl, q o H' hs⟩
    · rintro σ H' Q1 Q2 m ⟨x, hx, i, j, e1, e2, c, e3, q⟩
      exact ⟨x, hx, i, j, e1, e2, c, e3, m _ _ q⟩
theorem ok_total (T : Txt K mg) : FnOk P w K mg base (L2.CX P w) 4 T.f_total_built T.d_total_built ["many"] (spOne T) := by
  have G_check_number := ok_check (P := P) (w := w) (base := base) T
  refine T.F_total_built.okX sc_total_built (fun vs H Q E h => ?_) (fun cdv A outer s H vs Q E hr h => ?_)
  · obtain ⟨p, v, g, rfl, _⟩ := h
    rfl
  · obtain ⟨p, v, g, rfl, ha, q', qe⟩ := h
    refine ⟨_, (pss_cons (ps_expr (pe_call G_check_number (hr.mono (by omega)) rfl T.g_check_number T.F_check_number.kp T.b_check_number .nil (passes_call (takes_of rfl rfl rfl rfl) (fun _ _ _ _ h => h)) (pa_cons (pv 0) pa_nil)))
      (pss_cons (ps_set (i := 1) sc_total_built.nd rfl (.inl rfl) pe_int)
      (pss_cons (ps_set (i := 2) sc_total_built.nd rfl (.inl rfl) pe_int)
      (pss_cons (ps_while (passes_of rfl) (pt_cmpR op_le (pv 2) (pv 0) (nomark _)) (pss_cons (ps_aug (i := 1) sc_total_built.nd rfl (.inl rfl) (pe_op op_mulX (pv 2) (pe_op op_sub (pe_op op_fdivW (pv 0) (pv 2)) (pe_op op_fdivW (pv 0) (pe_op op_mul pe_int (pv 2))))) ip_add)
        (pss_one (ps_aug (i := 2) sc_total_built.nd rfl (.inl rfl) pe_int iop_mul))))
      (pss_one (ps_ret (pv 1))))))), ?_⟩
    refine ⟨_, rfl, p, v, g, rfl, ha, fun hg => ?_, qe⟩
    obtain ⟨n, rfl⟩ := Option.ne_none_iff_exists'.mp hg
    obtain ⟨rfl, h0⟩ := ha.val
    have q : ∀ r : V, Q r H := fun r => q' (fun z => nomatch z) _ _ (Same.refl H)
    have hn := Nat.lt_of_le_of_lt h0 p100
    refine while_by (fun σ H' => H' = H ∧ ∃ (t s : Nat), σ = [some (.int (n : Int)), some (.int (t : Int)), some (.int (s : Int))] ∧ 0 < s ∧ s ≤ 2 * n + 1 ∧ t + s * tot (n / s) = tot n)
      (fun σ _ => n + 1 - intAt σ 2) ⟨rfl, 0, 1, rfl, by decide, by omega, by rw [Nat.div_one]; omega⟩ ?_ ?_
    · rintro σ H' ⟨rfl, t, s, rfl, hs, hs2, he⟩
      refine ⟨_, rfl, _, rfl, _, _, rfl, rfl, _, rfl, ite2 (fun e => ?_) (fun e => ?_)⟩
      · have e1 := of_decide_eq_true e
        have e2 : s ≤ n := by omega
        have hs100 : s < 2 ^ 100 := Nat.lt_of_le_of_lt e2 hn
        refine ⟨_, rfl, _, rfl, _, rfl, _, rfl, _, _, rfl, rfl, wide_div (b := 100) (by omega) (nat_cast_lt hs100) (by decide) (by decide), ?_⟩
        refine ⟨_, rfl, _, rfl, _, _, rfl, rfl, .inl ⟨by decide, by decide⟩, _, _, rfl, rfl, wide_div (b := 101) (by omega) (nat_cast_lt (n := 2 * s) (by omega)) (by decide) (by decide), ?_⟩
        have d1 : n / (2 * s) = n / s / 2 := by rw [Nat.mul_comm, Nat.div_div_eq_div_mul]
        have d2 : n / s ≤ n := Nat.div_le_self _ _
        refine ⟨_, _, rfl, rfl, ?_⟩
        have e3 : ((n : Int) / (s : Int)) - ((n : Int) / (2 * (s : Int))) = ((n / s - n / s / 2 : Nat) : Int) := by
          have a2 : ((n : Int) / (2 * (s : Int))) = ((n / s / 2 : Nat) : Int) := by
            rw [show (2 * (s : Int)) = ((2 * s : Nat) : Int) by omega, ← d1]
            rfl
          rw [a2, cdiv_nat]
          generalize n / s = z
          omega
        refine ⟨_, _, rfl, rfl, mulx_ok (a := 100) (b := 100) (nat_cast_lt hs100) (by rw [e3]; exact nat_cast_lt (by omega)) (by decide), ?_⟩
        refine ⟨_, _, rfl, rfl, ?_⟩
        refine ⟨_, rfl, _, _, rfl, rfl, .inr ⟨by decide, by decide⟩, ?_⟩
        have e4 : ((t : Int) + (s : Int) * (((n : Int) / (s : Int)) - ((n : Int) / (2 * (s : Int))))) = ((t + s * (n / s - n / s / 2) : Nat) : Int) := by
          rw [e3, Int.natCast_add, Int.natCast_mul]
        refine ⟨⟨rfl, t + s * (n / s - n / s / 2), s * 2, ?_, by omega, by omega, ?_⟩, ?_⟩
        · rw [← e4]
          rfl
        · rw [← he, tot_all (n / s), ← Nat.div_div_eq_div_mul, Nat.mul_add, Nat.mul_assoc]
          omega
        · show n + 1 - ((s : Int) * 2).toNat < n + 1 - (s : Int).toNat
          omega
      · have e1 : ¬ s ≤ n := fun z => e (dT (by omega))
        rw [Nat.div_eq_of_lt (by omega), tot_zero] at he
        refine ⟨_, rfl, ?_⟩
        have : t = tot n := by omega
        exact q _
    · rintro σ H' Q1 Q2 m ⟨x, hx, y, hy, i, j, e1, e2, c, e3, q⟩
      exact ⟨x, hx, y, hy, i, j, e1, e2, c, e3, m _ _ q⟩
def spTwo (T : Txt K mg) : Sp := fun vs H Q E => ∃ (p : Addr) (v u : V) (g g' : Option Nat), vs = [v, u] ∧ Arg H p v g ∧ Arg H p u g' ∧ ((∃ a b, g = some a ∧ g' = some b ∧ a ≤ b) → ∀ r H', Same H H' → Q r H') ∧
  (¬ (∃ a b, g = some a ∧ g' = some b ∧ a ≤ b) → E (.ref T.C_BadNumber) none H)
theorem ok_pieces (T : Txt K mg) : FnOk P w K mg base (L2.CX P w) 5 T.f_pieces T.d_pieces ["begin", "end"] (spTwo T) := by
  have G_piece_size := ok_ps (P := P) (w := w) (base := base) T
  have G_check_number := ok_check (P := P) (w := w) (base := base) T
  refine T.F_pieces.okX sc_pieces (fun vs H Q E h => ?_) (fun cdv A outer s H vs Q E hr h => ?_)
  · obtain ⟨p, v, u, g, g', rfl, _⟩ := h
    rfl
  · obtain ⟨p, v, u, g, g', rfl, ha, hb', q', qe⟩ := h
    refine ⟨_, (pss_cons (ps_expr (pe_call G_check_number (hr.mono (by omega)) rfl T.g_check_number T.F_check_number.kp T.b_check_number .nil (passes_call (takes_of rfl rfl rfl rfl) (fun _ _ _ _ h => h)) (pa_cons (pv 0) pa_nil)))
      (pss_cons (ps_expr (pe_call G_check_number (hr.mono (by omega)) rfl T.g_check_number T.F_check_number.kp T.b_check_number .nil (passes_call (takes_of rfl rfl rfl rfl) (fun _ _ _ _ h => h)) (pa_cons (pv 1) pa_nil)))
      (pss_cons (ps_if (pt_cmpR op_gt (pv 0) (pv 1) (nomark _)) (pss_one (ps_raise rfl (takes_of rfl rfl rfl rfl) (pmk_own PySem.F.excBase_ValueError T.xB T.gc_BadNumber T.kB (raises_own T.bB T.tB) rfl))) pss_nil)
      (pss_cons (ps_set (i := 2) sc_pieces.nd rfl (.inl rfl) (pe_lst pa_nil))
      (pss_cons (ps_set (i := 3) sc_pieces.nd rfl (.inl rfl) (pv 0))
      (pss_cons (ps_while (passes_of rfl) (pt_cmpR op_lt (pv 3) (pv 1) (nomark _)) (pss_cons (ps_set (i := 4) sc_pieces.nd rfl (.inl rfl) (pe_call G_piece_size (hr.mono (by omega)) rfl T.g_piece_size T.F_piece_size.kp T.b_piece_size .nil pass0 (pa_cons (pv 3) (pa_cons (pe_op op_sub (pv 1) (pv 3)) pa_nil))))
        (pss_cons (ps_expr (pe_bm PySem.F.plainAttrs_list PySem.F.slot_list_append PySem.F.type_list_append mt_append (pv 2) (pa_cons (pe_tup (pa_cons (pv 3) (pa_cons (pv 4) pa_nil))) pa_nil)))
        (pss_one (ps_aug (i := 3) sc_pieces.nd rfl (.inl rfl) (pv 4) ip_add)))))
      (pss_one (ps_ret (pv 2))))))))), ?_⟩
    refine ⟨_, rfl, p, v, g, rfl, ha, fun hg => ?_, fun z => qe fun ⟨a, b, e, _⟩ => by rw [z] at e; cases e⟩
    refine ⟨_, rfl, p, u, g', rfl, hb', fun hg' => ?_, fun z => qe fun ⟨a, b, _, e, _⟩ => by rw [z] at e; cases e⟩
    obtain ⟨a, rfl⟩ := Option.ne_none_iff_exists'.mp hg
    obtain ⟨b, rfl⟩ := Option.ne_none_iff_exists'.mp hg'
    obtain ⟨rfl, ha0⟩ := ha.val
    obtain ⟨rfl, hb0⟩ := hb'.val
    refine ⟨_, rfl, _, rfl, _, _, rfl, rfl, _, rfl, ite2 (fun e => ?_) (fun e => ?_)⟩
    · have e1 := of_decide_eq_true e
      exact qe fun ⟨a', b', e2, e3, e4⟩ => by
        cases e2
        cases e3
        omega
    have hab : a ≤ b := Nat.le_of_not_lt fun z => e (dT (by omega))
    obtain ⟨r, rfl⟩ : ∃ r, b = a + r := ⟨b - a, by omega⟩
    have h0 : a + r ≤ 10 ^ 30 := hb0
    have q : ∀ (o : Addr) H', Same H H' → Q (.ref o) H' := fun o H' s => q' ⟨a, a + r, rfl, rfl, hab⟩ _ _ s
    refine ⟨Nat.zero_le _, fun o no => ?_⟩
    refine ⟨_, rfl, ?_⟩
    have hb : a + r ≤ 2 ^ 100 := Nat.le_of_lt (Nat.lt_of_le_of_lt h0 p100)
    refine while_by (fun σ H' => ∃ (x y k : Nat) (acc : List (Nat × Nat)) (z : Option V), σ = [some (.int (a : Int)), some (.int ((a + r : Nat) : Int)), some (.ref o), some (.int (x : Int)), z] ∧ x + y = a + r ∧ enough k x y ∧ acc.length + k ≤ 201 ∧ acc ++ pcF k x y = pcF 201 a r ∧ Same H H' ∧ PL H' o acc)
      (fun σ _ => a + r - intAt σ 3) ⟨a, r, 201, [], none, rfl, rfl, enough_all h0, Nat.le_refl _, rfl, same_new no, PL.nil⟩ ?_ ?_
    · rintro σ H' ⟨x, y, k, acc, z, rfl, hxy, hk, hl, he, hs, ho⟩
      refine ⟨_, rfl, _, rfl, _, _, rfl, rfl, _, rfl, ite2 (fun e => ?_) (fun e => ?_)⟩
      · have e1 := of_decide_eq_true e
        have y0 : y ≠ 0 := by omega
        obtain ⟨k, rfl, hk2, s1, s0, _⟩ := enough_step hk y0 (by omega)
        refine ⟨_, rfl, _, rfl, _, rfl, _, _, rfl, rfl, x, y, by show [V.int (x : Int), V.int (((a + r : Nat) : Int) - (x : Int))] = _; rw [show (((a + r : Nat) : Int) - (x : Int)) = (y : Int) by omega], y0, by omega, ?_⟩
        obtain ⟨ts, t1, t2, t3⟩ := ho
        refine ⟨_, rfl, .inl ⟨rfl, _, .inl (.inl t1)⟩, _, rfl, _, rfl, le2, fun t nt => ?_⟩
        have ntp : o ≠ t := ne_of_none t1 nt
        refine ⟨o, _, _, rfl, rfl, by rw [upd_ne ntp]; exact t1, ?_, ?_⟩
        · rw [List.length_map]
          exact small1000 (by omega)
        · refine ⟨_, rfl, _, rfl, _, _, rfl, rfl, ?_⟩
          refine ⟨⟨x + szP x y, y - szP x y, k, acc ++ [(x, szP x y)], some (.int (szP x y : Int)), rfl, by omega, hk2, ?_, ?_, same_put (same_put hs (hs.free nt)) no, PL.add (x := (x, szP x y)) t1 t2 t3 nt⟩, ?_⟩
          · rw [List.length_append]
            show acc.length + 1 + k ≤ 201
            omega
          · rw [← he, pcF_pos y0, List.append_assoc]
            rfl
          · show a + r - ((x : Int) + (szP x y : Int)).toNat < a + r - ((x : Int)).toNat
            omega
      · have e1 : y = 0 := by
          have : ¬ ((x : Int) < ((a + r : Nat) : Int)) := fun z => e (dT z)
          omega
        subst e1
        rw [pcF_zero, List.append_nil] at he
        subst he
        exact ⟨_, rfl, q o H' hs⟩
    · rintro σ H' Q1 Q2 m ⟨x, hx, y, hy, i, j, e1, e2, c, e3, q⟩
      exact ⟨x, hx, y, hy, i, j, e1, e2, c, e3, m _ _ q⟩
end
end Ob

set_option Elab.async false
set_option linter.all false
set_option maxRecDepth 100000
set_option maxHeartbeats 1000000
namespace Ob
open PySem PySem.Spec PyProof.Rows L2

theorem le11 : 11 ≤ sizeLine := by decide
theorem le6' : 6 ≤ sizeLine := by decide
theorem le1 : 1 ≤ sizeLine := by decide
theorem le4 : 4 ≤ sizeLine := by decide
section
variable {P : Program} {w : World} {K : PySem.W.Frag} {mg : Str → Option Value} {base : Heap}
def spThing : Sp := fun vs H Q _ => ∃ p : Addr, vs = [.ref p] ∧ Bag H p ∧ ∀ v g H', Arg H' p v g → Bag H' p → But p H H' → Q v H'
theorem ok_thing (T : Txt K mg) : FnOk P w K mg base CX0 4 T.f_l_thing T.d_l_thing ["_law_bag_here"] spThing := by
  have G_l_take := ok_take (P := P) (w := w) (base := base) T
  refine T.F_l_thing.ok sc_l_thing (fun vs H Q E h => ?_) (fun cdv A outer s H vs Q E hr h => ?_)
  · obtain ⟨p, rfl, _⟩ := h
    rfl
  · obtain ⟨p, rfl, hb, q⟩ := h
    refine ⟨_, (pss_cons (ps_set (i := 1) sc_l_thing.nd rfl (.inl rfl) (pe_lst (pa_cons (pe_un un_neg pe_int) (pa_cons (pe_op op_add (pe_op op_pow pe_int pe_int) pe_int) (pa_cons (pe_op op_sub pe_int (pe_op op_pow pe_int pe_int)) (pa_cons pe_bl (pa_cons pe_bl (pa_cons pe_non (pa_cons pe_str (pa_cons pe_str (pa_cons (pe_lst (pa_cons pe_int pa_nil)) (pa_cons (pe_tup (pa_cons pe_int pa_nil)) (pa_cons (pe_op op_pow pe_int pe_int) pa_nil)))))))))))))
      (pss_cons (ps_set (i := 2) sc_l_thing.nd rfl (.inl rfl) (pe_lst (pa_cons (pe_call G_l_take (hr.mono (by omega)) rfl T.g_l_take T.F_l_take.kp T.b_l_take .nil pass0 (pa_cons (pv 0) (pa_cons pe_int pa_nil))) (pa_cons (pe_call G_l_take (hr.mono (by omega)) rfl T.g_l_take T.F_l_take.kp T.b_l_take .nil pass0 (pa_cons (pv 0) (pa_cons (pe_op op_pow pe_int pe_int) pa_nil))) (pa_cons (pe_op op_pow pe_int pe_int) (pa_cons pe_int pa_nil))))))
      (pss_cons (ps_if (pt_cmpR op_eq (pe_call G_l_take (hr.mono (by omega)) rfl T.g_l_take T.F_l_take.kp T.b_l_take .nil pass0 (pa_cons (pv 0) (pa_cons pe_int pa_nil))) pe_int (nomark _)) (pss_one (ps_ret (pe_ix (r := rIxL K) ix_list (pv 2) (pe_call G_l_take (hr.mono (by omega)) rfl T.g_l_take T.F_l_take.kp T.b_l_take .nil pass0 (pa_cons (pv 0) (pa_cons pe_int pa_nil))) (fun _ _ => rfl)))) pss_nil)
      (pss_one (ps_ret (pe_ix (r := rIxL K) ix_list (pv 1) (pe_call G_l_take (hr.mono (by omega)) rfl T.g_l_take T.F_l_take.kp T.b_l_take .nil pass0 (pa_cons (pv 0) (pa_cons pe_int pa_nil))) (fun _ _ => rfl))))))), ?_⟩
    have bp : ((10 : Int) ^ Int.toNat 30).natAbs < 2 ^ 200 := by rw [p10]; decide +kernel
    have bp0 : (0 : Int) < (10 : Int) ^ Int.toNat 30 := by rw [p10]; decide +kernel
    refine ⟨_, rfl, _, _, rfl, rfl, ⟨by decide, by decide, by decide⟩, _, _, rfl, rfl, _, _, rfl, rfl, ⟨by decide, by decide, by decide⟩, _, _, rfl, rfl, le1, fun l nl => ⟨le1, fun t nt => ⟨_, _, rfl, rfl, ⟨by decide, by decide, by decide⟩, le11, fun o no => ?_⟩⟩⟩
    have b1 := bag_put (o := .lst [V.int 2]) hb nl
    have b2 := bag_put (o := .tup [V.int 1]) b1 nt
    have k2 := but_put (o := .tup [V.int 1]) (but_put (o := .lst [V.int 2]) (but_refl p H) nl) nt
    have b3 := bag_put (o := .lst [V.int (-1), V.int ((10 : Int) ^ Int.toNat 30 + 1), V.int (0 - (10 : Int) ^ Int.toNat 30), V.bl true, V.bl false, V.non, V.str "3", V.str "", V.ref l, V.ref t, V.int ((10 : Int) ^ Int.toNat 60)]) b2 no
    have k3 := but_put (o := .lst [V.int (-1), V.int ((10 : Int) ^ Int.toNat 30 + 1), V.int (0 - (10 : Int) ^ Int.toNat 30), V.bl true, V.bl false, V.non, V.str "3", V.str "", V.ref l, V.ref t, V.int ((10 : Int) ^ Int.toNat 60)]) k2 no
    have nlp := bag_ne hb nl
    have ntp := bag_ne b1 nt
    have nop := bag_ne b2 no
    have nlt := ne_of_none upd_same nt
    have nlo : l ≠ o := ne_of_none (by rw [upd_ne nlt]; exact upd_same) no
    have nto := ne_of_none upd_same no
    refine ⟨_, rfl, p, _, rfl, b3, by decide, by decide, fun a H1 a0 a1 b4 k4 => ?_⟩
    refine ⟨_, rfl, _, _, rfl, rfl, ⟨by decide, by decide, by decide⟩, p, _, rfl, b4, bp0, bp, fun c H2 c0 c1 b5 k5 => ?_⟩
    refine ⟨_, _, rfl, rfl, ⟨by decide, by decide, by decide⟩, le4, fun o2 no2 => ?_⟩
    have b6 := bag_put (o := .lst [V.int a, V.int c, V.int ((10 : Int) ^ Int.toNat 30), V.int 0]) b5 no2
    have nop2 := bag_ne b5 no2
    refine ⟨_, rfl, p, _, rfl, b6, by decide, by decide, fun x H3 x0 x1 b7 k7 => ?_⟩
    have kA := but_trans (but_put (but_trans k4 k5) no2) k7
    have kAll : But p H H3 := but_trans k3 kA
    have eo : H3 o = some (.lst [V.int (-1), V.int ((10 : Int) ^ Int.toNat 30 + 1), V.int (0 - (10 : Int) ^ Int.toNat 30), V.bl true, V.bl false, V.non, V.str "3", V.str "", V.ref l, V.ref t, V.int ((10 : Int) ^ Int.toNat 60)]) := kA o _ upd_same nop
    have el : H3 l = some (.lst [V.int 2]) := kA l _ (by rw [upd_ne nlo, upd_ne nlt]; exact upd_same) nlp
    have et : H3 t = some (.tup [V.int 1]) := kA t _ (by rw [upd_ne nto]; exact upd_same) ntp
    have eo2 : H3 o2 = some (.lst [V.int a, V.int c, V.int ((10 : Int) ^ Int.toNat 30), V.int 0]) := k7 o2 _ upd_same nop2
    rw [p10] at c1
    refine ⟨rfl, _, rfl, ite2 (fun e => ?_) (fun e => ?_)⟩
    · refine ⟨_, rfl, _, rfl, p, _, rfl, b7, by decide, by decide, fun y H4 y0 y1 b8 k8 => ?_⟩
      obtain ⟨y, rfl⟩ := Int.eq_ofNat_of_zero_le y0
      have e2 := k8 o2 _ eo2 nop2
      have fin : ∀ (j : Nat) (z : Int), ([V.int a, V.int c, V.int ((10 : Int) ^ Int.toNat 30), V.int 0])[j]? = some (.int z) → 0 ≤ z → z ≤ ((10 ^ 30 : Nat) : Int) → ∃ v, atI [V.int a, V.int c, V.int ((10 : Int) ^ Int.toNat 30), V.int 0] (j : Int) = some v ∧ Q v H4 := fun j z ez z0 z1 => by
        obtain ⟨n, rfl⟩ := Int.eq_ofNat_of_zero_le z0
        exact ⟨_, atI_nat ez, q _ _ _ (.num n (by omega)) b8 (but_trans kAll k8)⟩
      have pick : ∃ v, atI [V.int a, V.int c, V.int ((10 : Int) ^ Int.toNat 30), V.int 0] (y : Int) = some v ∧ Q v H4 := by
        have hy : y < 4 := by omega
        match y, hy with
        | 0, _ => exact fin 0 a rfl a0 (by omega)
        | 1, _ => exact fin 1 c rfl c0 (by omega)
        | 2, _ => exact fin 2 _ rfl (by rw [p10]; omega) (by rw [p10]; omega)
        | 3, _ => exact fin 3 0 rfl (by decide) (by omega)
        | y + 4, hy => exact absurd hy (by omega)
      obtain ⟨v, hv, hq⟩ := pick
      exact ⟨o2, _, _, v, rfl, rfl, .inl (.inl e2), hv, hq⟩
    · refine ⟨_, rfl, _, rfl, p, _, rfl, b7, by decide, by decide, fun y H4 y0 y1 b8 k8 => ?_⟩
      obtain ⟨y, rfl⟩ := Int.eq_ofNat_of_zero_le y0
      have e2 := k8 o _ eo nop
      have el2 := k8 l _ el nlp
      have et2 := k8 t _ et ntp
      have fin : ∀ (j : Nat) (v : V) (g : Option Nat), ([V.int (-1), V.int ((10 : Int) ^ Int.toNat 30 + 1), V.int (0 - (10 : Int) ^ Int.toNat 30), V.bl true, V.bl false, V.non, V.str "3", V.str "", V.ref l, V.ref t, V.int ((10 : Int) ^ Int.toNat 60)])[j]? = some v → Arg H4 p v g →
          ∃ v, atI [V.int (-1), V.int ((10 : Int) ^ Int.toNat 30 + 1), V.int (0 - (10 : Int) ^ Int.toNat 30), V.bl true, V.bl false, V.non, V.str "3", V.str "", V.ref l, V.ref t, V.int ((10 : Int) ^ Int.toNat 60)] (j : Int) = some v ∧ Q v H4 := fun j v g ez ha => ⟨_, atI_nat ez, q _ _ _ ha b8 (but_trans kAll k8)⟩
      have pick : ∃ v, atI [V.int (-1), V.int ((10 : Int) ^ Int.toNat 30 + 1), V.int (0 - (10 : Int) ^ Int.toNat 30), V.bl true, V.bl false, V.non, V.str "3", V.str "", V.ref l, V.ref t, V.int ((10 : Int) ^ Int.toNat 60)] (y : Int) = some v ∧ Q v H4 := by
        have hy : y < 11 := by omega
        match y, hy with
        | 0, _ => exact fin 0 _ none rfl (.out _ (by omega))
        | 1, _ => exact fin 1 _ none rfl (.out _ (by rw [p10]; omega))
        | 2, _ => exact fin 2 _ none rfl (.out _ (by rw [p10]; omega))
        | 3, _ => exact fin 3 _ none rfl (.bl _)
        | 4, _ => exact fin 4 _ none rfl (.bl _)
        | 5, _ => exact fin 5 _ none rfl .non
        | 6, _ => exact fin 6 _ none rfl (.str _)
        | 7, _ => exact fin 7 _ none rfl (.str _)
        | 8, _ => exact fin 8 _ none rfl (.lst el2 nlp)
        | 9, _ => exact fin 9 _ none rfl (.tup et2 ntp)
        | 10, _ => exact fin 10 _ none rfl (.out _ (.inr (by decide +kernel)))
        | y + 11, hy => exact absurd hy (by omega)
      obtain ⟨v, hv, hq⟩ := pick
      exact ⟨o, _, _, v, rfl, rfl, .inl (.inl e2), hv, hq⟩
def spIsNum : Sp := fun vs H Q _ => ∃ (p : Addr) (v : V) (g : Option Nat), vs = [v] ∧ Arg H p v g ∧ Q (.bl g.isSome) H
theorem ok_isnum (T : Txt K mg) : FnOk P w K mg base CX0 3 T.f_l_is_number T.d_l_is_number ["_law_thing_here"] spIsNum := by
  refine T.F_l_is_number.ok sc_l_is_number (fun vs H Q E h => ?_) (fun cdv A outer s H vs Q E hr h => ?_)
  · obtain ⟨p, v, g, rfl, _⟩ := h
    rfl
  · obtain ⟨p, v, g, rfl, ha, q⟩ := h
    refine ⟨_, (pss_one (ps_ret (pe_and (pe_callB call_isi (by rfl) T.z_isinstance (by decide +kernel) (pa_cons (pv 0) (pa_cons (pe_bltn (v := .ty "int") (by rfl) T.z_int (by decide +kernel) rfl) pa_nil))) (pe_and (pe_not (pe_callB call_isi (by rfl) T.z_isinstance (by decide +kernel) (pa_cons (pv 0) (pa_cons (pe_bltn (v := .ty "bool") (by rfl) T.z_bool (by decide +kernel) rfl) pa_nil)))) (pe_one (pe_chain op_le op_le pe_int (pv 0) (pe_op op_pow pe_int pe_int))))))), ?_⟩
    obtain ⟨t, bi, bb, ty, ki, kb, hk⟩ := ha.kind (K := K)
    refine ⟨_, rfl, v, .ty "int", t, .type "int", bi, rfl, .ty _, ty, ki, bi, rfl, ?_⟩
    rcases hk with ⟨rfl, rfl, i, rfl, hi⟩ | ⟨hb, hg⟩
    · refine iteT ?_
      refine ⟨_, rfl, .int i, .ty "bool", t, .type "bool", false, rfl, .ty _, ty, kb, false, rfl, true, rfl, iteT ?_⟩
      refine ⟨_, rfl, _, _, rfl, rfl, _, rfl, ?_⟩
      by_cases h0 : (0 : Int) ≤ i
      · refine ifT (dT h0) ?_
        refine ⟨_, _, rfl, rfl, ⟨by decide, by decide, by decide⟩, _, _, rfl, rfl, ?_⟩
        have e : decide (i ≤ (10 : Int) ^ Int.toNat 30) = g.isSome := by
          rw [p10]
          cases g with
          | none =>
            refine dF fun z => ?_
            rcases hi.mpr rfl with y | y <;> omega
          | some n =>
            refine dT (Int.not_lt.mp fun z => ?_)
            exact nomatch hi.mp (.inr z)
        rw [← e] at q
        exact q
      · refine ifF (dF h0) ?_
        have e : g.isSome = false := by
          rw [hi.mp (.inl (by omega))]
          rfl
        rw [e] at q
        exact q
    · subst hg
      cases bi with
      | false => exact iteF q
      | true =>
        have hb2 : bb = true := hb.elim (fun z => nomatch z) id
        subst hb2
        refine iteT ?_
        exact ⟨_, rfl, v, .ty "bool", t, .type "bool", true, rfl, .ty _, ty, kb, true, rfl, false, rfl, iteF q⟩
end
end Ob

set_option Elab.async false
set_option linter.all false
set_option maxRecDepth 100000
set_option maxHeartbeats 1000000
namespace Ob
open PySem PySem.Spec PyProof.Rows L2

section
variable {P : Program} {w : World} {K : PySem.W.Frag} {mg : Str → Option Value} {base : Heap}
theorem kit_own {K : PySem.W.Frag} {B D : Addr} {b : Bool} (hs : PySem.W.subIn K (.ref B) (.ref B) = some true) (h1 : PySem.W.isClsIn K D = true) (h2 : PySem.W.typeIn K (.ref D) = some (.type "type")) (h3 : PySem.W.subIn K (.ref B) (.ref D) = some b) :
    PySem.W.kitOne K (.ref B) (.ref D) = some b := by
  unfold PySem.W.kitOne
  by_cases c : B = D
  · subst c
    rw [hs] at h3
    rw [← h3, if_pos (beq_self_eq_true _)]
  · rw [if_neg (by simpa using c)]
    unfold PySem.W.kitCls
    have h1' : (PySem.W.clsIn K D).isSome = true := h1
    have e : ((PySem.W.clsIn K D).isSome && PySem.W.typeIn K (.ref D) == some (.type "type")) = true := by
      rw [h1', h2]
      rfl
    exact (if_pos e).trans h3
theorem kit_noneOf {K : PySem.W.Frag} {t c : Value} {cs : List Value} (h : PySem.W.kitOne K t c = some false) (r : PySem.W.kitAny K t cs = some false) : PySem.W.kitAny K t (c :: cs) = some false :=
  kitAny_cons h (fun _ => r) fun z => nomatch z
theorem not_self (b : Bool) : (!b) = b → False := by cases b <;> simp
def okTwo (g g' : Option Nat) : Bool := match g, g' with
  | some a, some b => decide (a ≤ b)
  | _, _ => false
theorem okTwo_iff (g g' : Option Nat) : okTwo g g' = true ↔ ∃ a b, g = some a ∧ g' = some b ∧ a ≤ b := by
  constructor
  · intro h
    match g, g', h with
    | some a, some b, h => exact ⟨a, b, rfl, rfl, of_decide_eq_true h⟩
  · rintro ⟨a, b, rfl, rfl, h⟩
    exact decide_eq_true h
def spRaises (T : Txt K mg) : Sp := fun vs H Q _ => ∃ (p : Addr) (k : Nat) (v u : V) (g g' : Option Nat), vs = [.int (k : Int), v, u] ∧ Arg H p v g ∧ Arg H p u g' ∧ (k < 2 → ∀ H', Same H H' → Q (.bl (!g.isSome)) H') ∧ (¬ k < 2 → ∀ H', Same H H' → Q (.bl (!okTwo g g')) H')
theorem ok_raises (T : Txt K mg) : FnOk P w K mg base CX0 7 T.f_l_raises T.d_l_raises ["_law_kind", "_law_one", "_law_other"] (spRaises T) := by
  have G_block_sizes := ok_sizes (P := P) (w := w) (base := base) T
  have G_total_built := ok_total (P := P) (w := w) (base := base) T
  have G_pieces := ok_pieces (P := P) (w := w) (base := base) T
  refine T.F_l_raises.ok sc_l_raises (fun vs H Q E h => ?_) (fun cdv A outer s H vs Q E hr h => ?_)
  · obtain ⟨p, k, v, u, g, g', rfl, _⟩ := h
    rfl
  · obtain ⟨p, k, v, u, g, g', rfl, ha, hb, q1, q2⟩ := h
    refine ⟨_, (pss_cons (ps_try_as (i := 3) (Wout := fun _ _ _ _ => False) rfl rfl sc_l_raises.nd rfl rfl ⟨rfl, by decide, .inl T.gc_BadNumber⟩ takes0 (fun W pn xe tk _ => (pss_one (ps_if (pt_cmpR op_eq (pv 0) pe_int (nomark _)) (pss_one (ps_expr (pe_callS G_block_sizes (hr.mono (by omega)) rfl T.g_block_sizes T.F_block_sizes.kp T.b_block_sizes (fun σ => passAt tk σ) (pa_cons (pv 1) pa_nil)))) (pss_one (ps_if (pt_cmpR op_eq (pv 0) pe_int (nomark _)) (pss_one (ps_expr (pe_callS G_total_built (hr.mono (by omega)) rfl T.g_total_built T.F_total_built.kp T.b_total_built (fun σ => passAt tk σ) (pa_cons (pv 1) pa_nil)))) (pss_one (ps_expr (pe_callS G_pieces (hr.mono (by omega)) rfl T.g_pieces T.F_pieces.kp T.b_pieces (fun σ => passAt tk σ) (pa_cons (pv 1) (pa_cons (pv 2) pa_nil)))))))))) (fun a oe cls d pn hz hf => (pss_cons (ps_if (PW.pt (pw_or (pt_val (pe_callB (is_exT T.iB hz hf) (by rfl) T.z_isinstance (by decide +kernel) (pa_cons (pv 3) (pa_cons (pe_tup (pa_cons (pe_glob (v := .ref T.C_BadHistory) rfl T.gc_BadHistory rfl) (pa_cons (pe_glob (v := .ref T.C_Busy) rfl T.gc_Busy rfl) (pa_cons (pe_glob (v := .ref T.C_Empty) rfl T.gc_Empty rfl) (pa_cons (pe_glob (v := .ref T.C_NoMember) rfl T.gc_NoMember rfl) (pa_cons (pe_glob (v := .ref T.C_NotTorn) rfl T.gc_NotTorn rfl) (pa_cons (pe_glob (v := .ref T.C_Torn) rfl T.gc_Torn rfl) pa_nil))))))) pa_nil)))) (pw_or1 (pt_not (pt_val (pe_callB (is_ex1 T.iB hz hf) (by rfl) T.z_isinstance (by decide +kernel) (pa_cons (pv 3) (pa_cons (pe_glob (v := .ref T.C_OnceError) rfl T.gc_OnceError rfl) pa_nil)))))))) (pss_one (ps_ret pe_non)) pss_nil)
        (pss_one (ps_ret pe_bl)))))
      (pss_one (ps_ret pe_bl))), ?_⟩
    refine ⟨_, rfl, rfl, _, rfl, ite2 (fun e => ?_) (fun e => ?_)⟩
    · have e1 := V.int.inj (of_decide_eq_true e)
      have hk : k < 2 := by omega
      refine ⟨_, rfl, p, v, g, rfl, ha, fun hg r H' s1 => ?_, fun hg => ⟨true, T.eB, fun _ a na => ?_, fun z => nomatch z⟩⟩
      · have := q1 hk H' s1
        rw [Option.isSome_iff_ne_none.mpr hg] at this
        exact this
      · refine ⟨_, rfl, le6', fun t nt => ⟨⟨rfl, rfl⟩, t, _, _, false, rfl, upd_same, .cons (.own _) (.cons (.own _) (.cons (.own _) (.cons (.own _) (.cons (.own _) (.cons (.own _) .nil))))), T.k6, false, rfl, iteF ?_⟩⟩
        refine ⟨_, rfl, ⟨rfl, rfl⟩, _, _, true, rfl, fun u r => r, T.k1, true, rfl, iteF ?_⟩
        have z : ∀ H', Same H H' → Q (.bl true) H' := fun H' s => by
          have := q1 hk H' s
          rw [hg] at this
          exact this
        exact z _ (same_new nt)
    · have e1 : ¬ k = 0 := fun z => e (dT (by rw [z]; rfl))
      refine ⟨_, rfl, rfl, _, rfl, ite2 (fun f => ?_) (fun f => ?_)⟩
      · have f1 := V.int.inj (of_decide_eq_true f)
        have hk : k < 2 := by omega
        refine ⟨_, rfl, p, v, g, rfl, ha, fun hg r H' s1 => ?_, fun hg => ⟨true, T.eB, fun _ a na => ?_, fun z => nomatch z⟩⟩
        · have := q1 hk H' s1
          rw [Option.isSome_iff_ne_none.mpr hg] at this
          exact this
        · refine ⟨_, rfl, le6', fun t nt => ⟨⟨rfl, rfl⟩, t, _, _, false, rfl, upd_same, .cons (.own _) (.cons (.own _) (.cons (.own _) (.cons (.own _) (.cons (.own _) (.cons (.own _) .nil))))), T.k6, false, rfl, iteF ?_⟩⟩
          refine ⟨_, rfl, ⟨rfl, rfl⟩, _, _, true, rfl, fun u r => r, T.k1, true, rfl, iteF ?_⟩
          have z : ∀ H', Same H H' → Q (.bl true) H' := fun H' s => by
            have := q1 hk H' s
            rw [hg] at this
            exact this
          exact z _ (same_new nt)
      · have f1 : ¬ k = 1 := fun z => f (dT (by rw [z]; rfl))
        have hk : ¬ k < 2 := by omega
        refine ⟨_, rfl, _, rfl, p, v, u, g, g', rfl, ha, hb, fun hg r H' s1 => ?_, fun hg => ⟨true, T.eB, fun _ a na => ?_, fun z => nomatch z⟩⟩
        · have := q2 hk H' s1
          rw [(okTwo_iff g g').mpr hg] at this
          exact this
        · refine ⟨_, rfl, le6', fun t nt => ⟨⟨rfl, rfl⟩, t, _, _, false, rfl, upd_same, .cons (.own _) (.cons (.own _) (.cons (.own _) (.cons (.own _) (.cons (.own _) (.cons (.own _) .nil))))), T.k6, false, rfl, iteF ?_⟩⟩
          refine ⟨_, rfl, ⟨rfl, rfl⟩, _, _, true, rfl, fun u r => r, T.k1, true, rfl, iteF ?_⟩
          have z : ∀ H', Same H H' → Q (.bl true) H' := fun H' s => by
            have := q2 hk H' s
            rw [Bool.eq_false_iff.mpr fun z => hg ((okTwo_iff g g').mp z)] at this
            exact this
          exact z _ (same_new nt)
def spLaw (K : PySem.W.Frag) : Sp := fun vs H Q _ => ∃ (a : Addr) (ns : List Int), vs = [.ref a] ∧ SqL K H a (ns.map V.int) ∧ ns.length ≤ 63 ∧ ∀ H', Q (.bl true) H'
theorem ok_law (T : Txt K mg) {f : Addr} {fd : FuncData} (F : Fun K "law" "law" s_law f fd) : FnOk P w K mg base CX0 8 f fd ["_law_script"] (spLaw K) := by
  have G_l_bag := ok_bag (P := P) (w := w) (base := base) T
  have G_l_thing := ok_thing (P := P) (w := w) (base := base) T
  have G_l_is_number := ok_isnum (P := P) (w := w) (base := base) T
  have G_l_raises := ok_raises (P := P) (w := w) (base := base) T
  refine F.ok sc_law (fun vs H Q E h => ?_) (fun cdv A outer s H vs Q E hr h => ?_)
  · obtain ⟨a, ns, rfl, _⟩ := h
    rfl
  · obtain ⟨a, ns, rfl, hS, hlen, q⟩ := h
    refine ⟨_, (pss_cons (ps_for PassesOwn.never rfl (pi_range1 (by rfl) T.z_range (pa_cons (pe_op op_add pe_int (pe_callB (call_min2 rfl) (by rfl) T.z_min (by decide +kernel) (pa_cons pe_int (pa_cons (pe_callB call_len_seq (by rfl) T.z_len (by decide +kernel) (pa_cons (pv 0) pa_nil)) pa_nil)))) pa_nil)) (pg_name (i := 1) sc_law.nd rfl (.inl rfl)) (pss_cons (ps_set (i := 2) sc_law.nd rfl (.inl rfl) (pe_call G_l_bag (hr.mono (by omega)) rfl T.g_l_bag T.F_l_bag.kp T.b_l_bag .nil pass0 (pa_cons (pv 0) (pa_cons (pv 1) pa_nil))))
        (pss_one (ps_for PassesOwn.never rfl (pi_range1 (by rfl) T.z_range (pa_cons pe_int pa_nil)) (pg_name (i := 3) sc_law.nd rfl (.inl rfl)) (pss_cons (ps_par (i := 4) (j := 5) (by rfl) sc_law.nd rfl rfl (by decide) rfl rfl (pa_cons (pe_call G_l_thing (hr.mono (by omega)) rfl T.g_l_thing T.F_l_thing.kp T.b_l_thing .nil pass0 (pa_cons (pv 2) pa_nil)) (pa_cons (pe_call G_l_thing (hr.mono (by omega)) rfl T.g_l_thing T.F_l_thing.kp T.b_l_thing .nil pass0 (pa_cons (pv 2) pa_nil)) pa_nil)) (by rfl))
          (pss_cons (ps_set (i := 6) sc_law.nd rfl (.inl rfl) (pe_call G_l_is_number (hr.mono (by omega)) rfl T.g_l_is_number T.F_l_is_number.kp T.b_l_is_number .nil pass0 (pa_cons (pv 4) pa_nil)))
          (pss_cons (ps_for PassesOwn.never rfl (pi_range1 (by rfl) T.z_range (pa_cons pe_int pa_nil)) (pg_name (i := 7) sc_law.nd rfl (.inl rfl)) (pss_cons (ps_set (i := 8) sc_law.nd rfl (.inl rfl) (pe_call G_l_raises (hr.mono (by omega)) rfl T.g_l_raises T.F_l_raises.kp T.b_l_raises .nil pass0 (pa_cons (pv 7) (pa_cons (pv 4) (pa_cons pe_non pa_nil)))))
            (pss_one (ps_if (PW.pt (pw_or (pt_cmpR op_isN (pv 8) pe_non (nomark _)) (pw_or1 (pt_cmpR op_eq (pv 8) (pv 6) (nomark _))))) (pss_one (ps_ret pe_bl)) pss_nil))))
          (pss_cons (ps_set (i := 6) sc_law.nd rfl (.inl rfl) (pe_and (pv 6) (pe_and (pe_call G_l_is_number (hr.mono (by omega)) rfl T.g_l_is_number T.F_l_is_number.kp T.b_l_is_number .nil pass0 (pa_cons (pv 5) pa_nil)) (pe_one (pe_cmpR op_le (pv 4) (pv 5) (nomark _))))))
          (pss_cons (ps_set (i := 8) sc_law.nd rfl (.inl rfl) (pe_call G_l_raises (hr.mono (by omega)) rfl T.g_l_raises T.F_l_raises.kp T.b_l_raises .nil pass0 (pa_cons pe_int (pa_cons (pv 4) (pa_cons (pv 5) pa_nil)))))
          (pss_one (ps_if (PW.pt (pw_or (pt_cmpR op_isN (pv 8) pe_non (nomark _)) (pw_or1 (pt_cmpR op_eq (pv 8) (pv 6) (nomark _))))) (pss_one (ps_ret pe_bl)) pss_nil)))))))))))
      (pss_one (ps_ret pe_bl))), ?_⟩
    refine ⟨_, rfl, a, _, rfl, .inl hS, 4, _, rfl, _, _, rfl, rfl, _, rfl, ?_, ?_, ?_⟩
    · split <;> omega
    · split <;> omega
    generalize hN : ((1 : Int) + (if (((ns.map V.int).length : Nat) : Int) < 4 then (((ns.map V.int).length : Nat) : Int) else 4)).toNat = N
    have hN2 : N ≤ 5 := by
      rw [← hN]
      split <;> omega
    refine for_range (fun i σ H' => Same H H' ∧ ∃ y1 y2 y3 y4 y5 y6 y7 y8, σ = [some (.ref a), y1, y2, y3, y4, y5, y6, y7, y8]) ⟨Same.refl _, _, _, _, _, _, _, _, _, rfl⟩ ?_ ?_
    · rintro i σ H' hi ⟨s1, y1, y2, y3, y4, y5, y6, y7, y8, rfl⟩
      refine ⟨_, rfl, _, rfl, a, ns, i, by rw [Int.zero_add]; rfl, s1.seq hS, by omega, fun p H2 np s2 b2 => ?_⟩
      have np1 := s1.free np
      refine ⟨3, rfl, by decide, by decide, for_range (n := 3) (fun j σ H' => Same H H' ∧ Bag H' p ∧ ∃ y3 y4 y5 y6 y7 y8, σ = [some (.ref a), some (.int (0 + (i : Int))), some (.ref p), y3, y4, y5, y6, y7, y8])
        ⟨s1.trans s2, b2, _, _, _, _, _, _, rfl⟩ ?_ ?_⟩
      · rintro j σ H3 hj ⟨s3, b3, z3, z4, z5, z6, z7, z8, rfl⟩
        refine ⟨_, rfl, p, rfl, b3, fun v g H4 a4 b4 k4 => ?_⟩
        refine ⟨_, rfl, p, rfl, b4, fun u g' H5 a5 b5 k5 => ?_⟩
        have a4' := a4.but k5
        have s5 : Same H H5 := fun c o e => k5 c o (k4 c o (s3 c o e) (ne_of_none e np1)) (ne_of_none e np1)
        refine ⟨_, _, rfl, ?_⟩
        refine ⟨_, rfl, p, v, g, rfl, a4', ?_⟩
        refine ⟨2, rfl, by decide, by decide, for_range (n := 2) (fun m σ H' => Same H5 H' ∧ ∃ y7 y8, σ = [some (.ref a), some (.int (0 + (i : Int))), some (.ref p), some (.int (0 + (j : Int))), some v, some u, some (.bl g.isSome), y7, y8])
          ⟨Same.refl _, _, _, rfl⟩ ?_ ?_⟩
        · rintro m σ H6 hm ⟨s6, w7, w8, rfl⟩
          refine ⟨_, rfl, _, rfl, p, m, v, .non, g, none, by rw [Int.zero_add]; rfl, a4'.same s6, .non, fun _ H7 s7 => ?_, fun z => absurd hm z⟩
          refine ⟨_, rfl, rfl, _, rfl, ifF (dF fun z => nomatch z) ?_⟩
          refine ⟨_, rfl, _, rfl, rfl, _, rfl, ifF (dF fun z => ?_) ?_⟩
          · have z2 : (!g.isSome) = g.isSome := V.bl.inj z
            exact not_self _ z2
          · exact ⟨s6.trans s7, _, _, rfl⟩
        · rintro σ H6 ⟨s6, w7, w8, rfl⟩
          have a4'' := a4'.same s6
          have a5'' := a5.same s6
          have last : ∀ (good : Bool), good = okTwo g g' → ∀ w7 w8, (∃ v0, ([some (.ref a), some (.int (0 + (i : Int))), some (.ref p), some (.int (0 + (j : Int))), some v, some u, some (.bl good), w7, w8] : L2.St)[4]? = some (some v0)) := fun good _ w7 w8 => ⟨_, rfl⟩
          have fin : ∀ (H8 : Hp), Same H6 H8 → Same H H8 ∧ Bag H8 p := fun H8 s8 => ⟨(s5.trans s6).trans s8, bag_same b5 (s6.trans s8)⟩
          refine ⟨_, rfl, _, rfl, ?_⟩
          cases g with
          | none =>
            refine iteF ?_
            refine ⟨_, rfl, _, rfl, p, 2, v, u, none, g', rfl, a4'', a5'', fun z => absurd z (by decide), fun _ H8 s8 => ?_⟩
            refine ⟨_, rfl, rfl, _, rfl, ifF (dF fun z => nomatch z) ?_⟩
            refine ⟨_, rfl, _, rfl, rfl, _, rfl, ifF (dF fun z => nomatch V.bl.inj z) ?_⟩
            obtain ⟨f1, f2⟩ := fin H8 s8
            exact ⟨f1, f2, _, _, _, _, _, _, rfl⟩
          | some n =>
            refine iteT ?_
            refine ⟨_, rfl, p, u, g', rfl, a5'', _, rfl, ?_⟩
            cases g' with
            | none =>
              refine iteF ?_
              refine ⟨_, rfl, _, rfl, p, 2, v, u, some n, none, rfl, a4'', a5'', fun z => absurd z (by decide), fun _ H8 s8 => ?_⟩
              refine ⟨_, rfl, rfl, _, rfl, ifF (dF fun z => nomatch z) ?_⟩
              refine ⟨_, rfl, _, rfl, rfl, _, rfl, ifF (dF fun z => nomatch V.bl.inj z) ?_⟩
              obtain ⟨f1, f2⟩ := fin H8 s8
              exact ⟨f1, f2, _, _, _, _, _, _, rfl⟩
            | some n' =>
              refine iteT ?_
              obtain ⟨rfl, _⟩ := a4''.val
              obtain ⟨rfl, _⟩ := a5''.val
              refine ⟨_, rfl, _, rfl, _, _, rfl, rfl, ?_⟩
              have eg : decide ((n : Int) ≤ (n' : Int)) = okTwo (some n) (some n') := by
                show _ = decide (n ≤ n')
                by_cases c : n ≤ n'
                · rw [dT c, dT (by omega)]
                · rw [dF c, dF (by omega)]
              refine ⟨_, rfl, _, rfl, p, 2, .int (n : Int), .int (n' : Int), some n, some n', rfl, a4'', a5'', fun z => absurd z (by decide), fun _ H8 s8 => ?_⟩
              refine ⟨_, rfl, rfl, _, rfl, ifF (dF fun z => nomatch z) ?_⟩
              refine ⟨_, rfl, _, rfl, rfl, _, rfl, ifF (dF fun z => ?_) ?_⟩
              · have z2 : (!okTwo (some n) (some n')) = decide ((n : Int) ≤ (n' : Int)) := V.bl.inj z
                rw [eg] at z2
                exact not_self _ z2
              · obtain ⟨f1, f2⟩ := fin H8 s8
                exact ⟨f1, f2, _, _, _, _, _, _, rfl⟩
      · rintro σ H3 ⟨s3, b3, z3, z4, z5, z6, z7, z8, rfl⟩
        exact ⟨s3, _, _, _, _, _, _, _, _, rfl⟩
    · rintro σ H' _
      exact q _
end
end Ob

set_option Elab.async false
set_option linter.all false
set_option maxRecDepth 100000
set_option maxHeartbeats 1000000
namespace Ob
open PySem PySem.Spec PyProof.Rows L2

theorem all_mk {l : PySem.W.OpenLaw} {w : World} {K : PySem.W.Frag} {h : Heap} {mg : Str → Option Value} {fa f0 f1 f2 f3 f4 f5 f6 f7 f8 f9 f10 f11 f12 f13 f14 : Addr} (X : K.In h) (G : h.Ns mainGlobals mg) (hfa : mg "law" = some (.ref fa))
    {od0 an0 od1 an1 od2 an2 od3 an3 od4 an4 od5 an5 od6 an6 od7 an7 od8 an8 od9 an9 od10 an10 od11 an11 od12 an12 od13 an13 od14 an14 : Option Addr} {sl0 sl1 sl2 sl3 sl4 sl5 sl6 sl7 sl8 sl9 sl10 sl11 sl12 sl13 sl14 : Array (Option Value)} {oc0 kV0 dc0 pm0 cd0 ct0 oc1 kV1 dc1 pm1 cd1 ct1 oc2 kV2 dc2 pm2 cd2 ct2 oc3 kV3 dc3 pm3 cd3 ct3 oc4 kV4 dc4 pm4 cd4 ct4 oc5 kV5 dc5 pm5 cd5 ct5 oc6 kV6 dc6 pm6 cd6 ct6 oc7 kV7 dc7 pm7 cd7 ct7 oc8 kV8 dc8 pm8 cd8 ct8 oc9 kV9 dc9 pm9 cd9 ct9 oc10 kV10 dc10 pm10 cd10 ct10 oc11 kV11 dc11 pm11 cd11 ct11 oc12 kV12 dc12 pm12 cd12 ct12 oc13 kV13 dc13 pm13 cd13 ct13 oc14 kV14 dc14 pm14 cd14 ct14 : Value} {t_GREATEST : Tok} {C_OnceError C_BadNumber C_BadHistory C_NoMember C_Empty C_Busy C_Torn C_NotTorn : Addr}
    (a0 : PySem.W.nsIn K mainGlobals "block_sizes" = some (some (.ref f0))) (l0 : K.lookup f0 = some ⟨oc0, od0, .func (PySem.W.fnOf "block_sizes" "block_sizes" (defArgs s_block_sizes) (defBody s_block_sizes) (defScope s_block_sizes) .none kV0 dc0 pm0 an0 cd0 ct0), sl0⟩) (c0 : PySem.W.codeIn K cd0 "block_sizes" = true) (k0 : PySem.W.keepIn K (.ref f0) = true)
    (a1 : PySem.W.nsIn K mainGlobals "total_built" = some (some (.ref f1))) (l1 : K.lookup f1 = some ⟨oc1, od1, .func (PySem.W.fnOf "total_built" "total_built" (defArgs s_total_built) (defBody s_total_built) (defScope s_total_built) .none kV1 dc1 pm1 an1 cd1 ct1), sl1⟩) (c1 : PySem.W.codeIn K cd1 "total_built" = true) (k1 : PySem.W.keepIn K (.ref f1) = true)
    (a2 : PySem.W.nsIn K mainGlobals "pieces" = some (some (.ref f2))) (l2 : K.lookup f2 = some ⟨oc2, od2, .func (PySem.W.fnOf "pieces" "pieces" (defArgs s_pieces) (defBody s_pieces) (defScope s_pieces) .none kV2 dc2 pm2 an2 cd2 ct2), sl2⟩) (c2 : PySem.W.codeIn K cd2 "pieces" = true) (k2 : PySem.W.keepIn K (.ref f2) = true)
    (a3 : PySem.W.nsIn K mainGlobals "piece_size" = some (some (.ref f3))) (l3 : K.lookup f3 = some ⟨oc3, od3, .func (PySem.W.fnOf "piece_size" "piece_size" (defArgs s_piece_size) (defBody s_piece_size) (defScope s_piece_size) .none kV3 dc3 pm3 an3 cd3 ct3), sl3⟩) (c3 : PySem.W.codeIn K cd3 "piece_size" = true) (k3 : PySem.W.keepIn K (.ref f3) = true)
    (a4 : PySem.W.nsIn K mainGlobals "lowest_power" = some (some (.ref f4))) (l4 : K.lookup f4 = some ⟨oc4, od4, .func (PySem.W.fnOf "lowest_power" "lowest_power" (defArgs s_lowest_power) (defBody s_lowest_power) (defScope s_lowest_power) .none kV4 dc4 pm4 an4 cd4 ct4), sl4⟩) (c4 : PySem.W.codeIn K cd4 "lowest_power" = true) (k4 : PySem.W.keepIn K (.ref f4) = true)
    (a5 : PySem.W.nsIn K mainGlobals "greatest_power" = some (some (.ref f5))) (l5 : K.lookup f5 = some ⟨oc5, od5, .func (PySem.W.fnOf "greatest_power" "greatest_power" (defArgs s_greatest_power) (defBody s_greatest_power) (defScope s_greatest_power) .none kV5 dc5 pm5 an5 cd5 ct5), sl5⟩) (c5 : PySem.W.codeIn K cd5 "greatest_power" = true) (k5 : PySem.W.keepIn K (.ref f5) = true)
    (a6 : PySem.W.nsIn K mainGlobals "is_integer" = some (some (.ref f6))) (l6 : K.lookup f6 = some ⟨oc6, od6, .func (PySem.W.fnOf "is_integer" "is_integer" (defArgs s_is_integer) (defBody s_is_integer) (defScope s_is_integer) .none kV6 dc6 pm6 an6 cd6 ct6), sl6⟩) (c6 : PySem.W.codeIn K cd6 "is_integer" = true) (k6 : PySem.W.keepIn K (.ref f6) = true)
    (a7 : PySem.W.nsIn K mainGlobals "check_integer" = some (some (.ref f7))) (l7 : K.lookup f7 = some ⟨oc7, od7, .func (PySem.W.fnOf "check_integer" "check_integer" (defArgs s_check_integer) (defBody s_check_integer) (defScope s_check_integer) .none kV7 dc7 pm7 an7 cd7 ct7), sl7⟩) (c7 : PySem.W.codeIn K cd7 "check_integer" = true) (k7 : PySem.W.keepIn K (.ref f7) = true)
    (a8 : PySem.W.nsIn K mainGlobals "check_number" = some (some (.ref f8))) (l8 : K.lookup f8 = some ⟨oc8, od8, .func (PySem.W.fnOf "check_number" "check_number" (defArgs s_check_number) (defBody s_check_number) (defScope s_check_number) .none kV8 dc8 pm8 an8 cd8 ct8), sl8⟩) (c8 : PySem.W.codeIn K cd8 "check_number" = true) (k8 : PySem.W.keepIn K (.ref f8) = true)
    (a9 : PySem.W.nsIn K mainGlobals "_law_bag" = some (some (.ref f9))) (l9 : K.lookup f9 = some ⟨oc9, od9, .func (PySem.W.fnOf "_law_bag" "_law_bag" (defArgs s_l_bag) (defBody s_l_bag) (defScope s_l_bag) .none kV9 dc9 pm9 an9 cd9 ct9), sl9⟩) (c9 : PySem.W.codeIn K cd9 "_law_bag" = true) (k9 : PySem.W.keepIn K (.ref f9) = true)
    (a10 : PySem.W.nsIn K mainGlobals "_law_take" = some (some (.ref f10))) (l10 : K.lookup f10 = some ⟨oc10, od10, .func (PySem.W.fnOf "_law_take" "_law_take" (defArgs s_l_take) (defBody s_l_take) (defScope s_l_take) .none kV10 dc10 pm10 an10 cd10 ct10), sl10⟩) (c10 : PySem.W.codeIn K cd10 "_law_take" = true) (k10 : PySem.W.keepIn K (.ref f10) = true)
    (a11 : PySem.W.nsIn K mainGlobals "_law_thing" = some (some (.ref f11))) (l11 : K.lookup f11 = some ⟨oc11, od11, .func (PySem.W.fnOf "_law_thing" "_law_thing" (defArgs s_l_thing) (defBody s_l_thing) (defScope s_l_thing) .none kV11 dc11 pm11 an11 cd11 ct11), sl11⟩) (c11 : PySem.W.codeIn K cd11 "_law_thing" = true) (k11 : PySem.W.keepIn K (.ref f11) = true)
    (a12 : PySem.W.nsIn K mainGlobals "_law_is_number" = some (some (.ref f12))) (l12 : K.lookup f12 = some ⟨oc12, od12, .func (PySem.W.fnOf "_law_is_number" "_law_is_number" (defArgs s_l_is_number) (defBody s_l_is_number) (defScope s_l_is_number) .none kV12 dc12 pm12 an12 cd12 ct12), sl12⟩) (c12 : PySem.W.codeIn K cd12 "_law_is_number" = true) (k12 : PySem.W.keepIn K (.ref f12) = true)
    (a13 : PySem.W.nsIn K mainGlobals "_law_raises" = some (some (.ref f13))) (l13 : K.lookup f13 = some ⟨oc13, od13, .func (PySem.W.fnOf "_law_raises" "_law_raises" (defArgs s_l_raises) (defBody s_l_raises) (defScope s_l_raises) .none kV13 dc13 pm13 an13 cd13 ct13), sl13⟩) (c13 : PySem.W.codeIn K cd13 "_law_raises" = true) (k13 : PySem.W.keepIn K (.ref f13) = true)
    (a14 : PySem.W.nsIn K mainGlobals "law" = some (some (.ref f14))) (l14 : K.lookup f14 = some ⟨oc14, od14, .func (PySem.W.fnOf "law" "law" (defArgs s_law) (defBody s_law) (defScope s_law) .none kV14 dc14 pm14 an14 cd14 ct14), sl14⟩) (c14 : PySem.W.codeIn K cd14 "law" = true) (k14 : PySem.W.keepIn K (.ref f14) = true)
    (z_abs : PySem.W.nsIn K mainGlobals "abs" = some none)
    (z_bool : PySem.W.nsIn K mainGlobals "bool" = some none)
    (z_int : PySem.W.nsIn K mainGlobals "int" = some none)
    (z_isinstance : PySem.W.nsIn K mainGlobals "isinstance" = some none)
    (z_len : PySem.W.nsIn K mainGlobals "len" = some none)
    (z_min : PySem.W.nsIn K mainGlobals "min" = some none)
    (z_range : PySem.W.nsIn K mainGlobals "range" = some none)
    (v_GREATEST : PySem.W.nsIn K mainGlobals "GREATEST" = some (some (.int (10 ^ (30 : Nat)) t_GREATEST)))
    (gc_OnceError : PySem.W.nsIn K mainGlobals "OnceError" = some (some (.ref C_OnceError)))
    (gc_BadNumber : PySem.W.nsIn K mainGlobals "BadNumber" = some (some (.ref C_BadNumber)))
    (gc_BadHistory : PySem.W.nsIn K mainGlobals "BadHistory" = some (some (.ref C_BadHistory)))
    (gc_NoMember : PySem.W.nsIn K mainGlobals "NoMember" = some (some (.ref C_NoMember)))
    (gc_Empty : PySem.W.nsIn K mainGlobals "Empty" = some (some (.ref C_Empty)))
    (gc_Busy : PySem.W.nsIn K mainGlobals "Busy" = some (some (.ref C_Busy)))
    (gc_Torn : PySem.W.nsIn K mainGlobals "Torn" = some (some (.ref C_Torn)))
    (gc_NotTorn : PySem.W.nsIn K mainGlobals "NotTorn" = some (some (.ref C_NotTorn)))
    (xB : PySem.W.excIn K C_BadNumber [.type "ValueError", .type "Exception", .type "BaseException", .type "object"] "ValueError.__new__" = true)
    (kB : PySem.W.keepIn K (.ref C_BadNumber) = true)
    (bB : PySem.W.subIn K (.ref C_BadNumber) (.type "BaseException") = some true)
    (tB : PySem.W.typeIn K (.ref C_BadNumber) = some (.type "type"))
    (sB : PySem.W.subIn K (.ref C_BadNumber) (.ref C_BadNumber) = some true)
    (i1 : PySem.W.findIn K (.ref C_BadNumber) "__getattribute__" = some (some (.builtin "BaseException.__getattribute__")))
    (i2 : PySem.W.findIn K (.ref C_BadNumber) "__getattr__" = some none)
    (i4 : PySem.W.hasDictIn K C_BadNumber = true)
    (i5 : PySem.W.findIn K (.ref C_BadNumber) "__class__" = some (some (.builtin "object.__class__")))
    (i6 : PySem.W.specialIn K (.builtin "object.__class__") "__get__" = some (some (.builtin "getset_descriptor.__get__")))
    (i7 : PySem.W.takesIn K (.builtin "object.__class__") = some true)
    (i8 : PySem.W.mroIn K C_BadNumber (.type "object") = some true)
    (ci_BadHistory : PySem.W.isClsIn K C_BadHistory = true)
    (ct_BadHistory : PySem.W.typeIn K (.ref C_BadHistory) = some (.type "type"))
    (cs_BadHistory : PySem.W.subIn K (.ref C_BadNumber) (.ref C_BadHistory) = some false)
    (ci_Busy : PySem.W.isClsIn K C_Busy = true)
    (ct_Busy : PySem.W.typeIn K (.ref C_Busy) = some (.type "type"))
    (cs_Busy : PySem.W.subIn K (.ref C_BadNumber) (.ref C_Busy) = some false)
    (ci_Empty : PySem.W.isClsIn K C_Empty = true)
    (ct_Empty : PySem.W.typeIn K (.ref C_Empty) = some (.type "type"))
    (cs_Empty : PySem.W.subIn K (.ref C_BadNumber) (.ref C_Empty) = some false)
    (ci_NoMember : PySem.W.isClsIn K C_NoMember = true)
    (ct_NoMember : PySem.W.typeIn K (.ref C_NoMember) = some (.type "type"))
    (cs_NoMember : PySem.W.subIn K (.ref C_BadNumber) (.ref C_NoMember) = some false)
    (ci_NotTorn : PySem.W.isClsIn K C_NotTorn = true)
    (ct_NotTorn : PySem.W.typeIn K (.ref C_NotTorn) = some (.type "type"))
    (cs_NotTorn : PySem.W.subIn K (.ref C_BadNumber) (.ref C_NotTorn) = some false)
    (ci_Torn : PySem.W.isClsIn K C_Torn = true)
    (ct_Torn : PySem.W.typeIn K (.ref C_Torn) = some (.type "type"))
    (cs_Torn : PySem.W.subIn K (.ref C_BadNumber) (.ref C_Torn) = some false)
    (ci_OnceError : PySem.W.isClsIn K C_OnceError = true)
    (ct_OnceError : PySem.W.typeIn K (.ref C_OnceError) = some (.type "type"))
    (cs_OnceError : PySem.W.subIn K (.ref C_BadNumber) (.ref C_OnceError) = some true) :
    ∃ fd : FuncData, (∀ (s : Shared) (v : Value), BindsTo s fd ⟨[v], []⟩ [("_law_script", v)]) ∧ ∀ base : Heap, K.In base → base.Ns mainGlobals mg → FnOk l.prog w K mg base CX0 8 fa fd ["_law_script"] (spLaw K) := by
  have e := hfa.symm.trans (PySem.W.mg_of X G a14)
  cases e
  have F0 := fun_mk (st := s_block_sizes) l0 c0 k0
  have F1 := fun_mk (st := s_total_built) l1 c1 k1
  have F2 := fun_mk (st := s_pieces) l2 c2 k2
  have F3 := fun_mk (st := s_piece_size) l3 c3 k3
  have F4 := fun_mk (st := s_lowest_power) l4 c4 k4
  have F5 := fun_mk (st := s_greatest_power) l5 c5 k5
  have F6 := fun_mk (st := s_is_integer) l6 c6 k6
  have F7 := fun_mk (st := s_check_integer) l7 c7 k7
  have F8 := fun_mk (st := s_check_number) l8 c8 k8
  have F9 := fun_mk (st := s_l_bag) l9 c9 k9
  have F10 := fun_mk (st := s_l_take) l10 c10 k10
  have F11 := fun_mk (st := s_l_thing) l11 c11 k11
  have F12 := fun_mk (st := s_l_is_number) l12 c12 k12
  have F13 := fun_mk (st := s_l_raises) l13 c13 k13
  have F14 := fun_mk (st := s_law) l14 c14 k14
  let T : Txt K mg := {
    f_block_sizes := f0,
    d_block_sizes := _,
    F_block_sizes := F0,
    b_block_sizes := (F0.binds (ps := ["many"]) fun _ _ _ _ _ _ us hl => match us, hl with | [_], _ => rfl),
    g_block_sizes := PySem.W.mg_of X G a0,
    f_total_built := f1,
    d_total_built := _,
    F_total_built := F1,
    b_total_built := (F1.binds (ps := ["many"]) fun _ _ _ _ _ _ us hl => match us, hl with | [_], _ => rfl),
    g_total_built := PySem.W.mg_of X G a1,
    f_pieces := f2,
    d_pieces := _,
    F_pieces := F2,
    b_pieces := (F2.binds (ps := ["begin", "end"]) fun _ _ _ _ _ _ us hl => match us, hl with | [_, _], _ => rfl),
    g_pieces := PySem.W.mg_of X G a2,
    f_piece_size := f3,
    d_piece_size := _,
    F_piece_size := F3,
    b_piece_size := (F3.binds (ps := ["first", "room"]) fun _ _ _ _ _ _ us hl => match us, hl with | [_, _], _ => rfl),
    g_piece_size := PySem.W.mg_of X G a3,
    f_lowest_power := f4,
    d_lowest_power := _,
    F_lowest_power := F4,
    b_lowest_power := (F4.binds (ps := ["number"]) fun _ _ _ _ _ _ us hl => match us, hl with | [_], _ => rfl),
    g_lowest_power := PySem.W.mg_of X G a4,
    f_greatest_power := f5,
    d_greatest_power := _,
    F_greatest_power := F5,
    b_greatest_power := (F5.binds (ps := ["number"]) fun _ _ _ _ _ _ us hl => match us, hl with | [_], _ => rfl),
    g_greatest_power := PySem.W.mg_of X G a5,
    f_is_integer := f6,
    d_is_integer := _,
    F_is_integer := F6,
    b_is_integer := (F6.binds (ps := ["value"]) fun _ _ _ _ _ _ us hl => match us, hl with | [_], _ => rfl),
    g_is_integer := PySem.W.mg_of X G a6,
    f_check_integer := f7,
    d_check_integer := _,
    F_check_integer := F7,
    b_check_integer := (F7.binds (ps := ["value"]) fun _ _ _ _ _ _ us hl => match us, hl with | [_], _ => rfl),
    g_check_integer := PySem.W.mg_of X G a7,
    f_check_number := f8,
    d_check_number := _,
    F_check_number := F8,
    b_check_number := (F8.binds (ps := ["value"]) fun _ _ _ _ _ _ us hl => match us, hl with | [_], _ => rfl),
    g_check_number := PySem.W.mg_of X G a8,
    f_l_bag := f9,
    d_l_bag := _,
    F_l_bag := F9,
    b_l_bag := (F9.binds (ps := ["_law_script", "_law_at"]) fun _ _ _ _ _ _ us hl => match us, hl with | [_, _], _ => rfl),
    g_l_bag := PySem.W.mg_of X G a9,
    f_l_take := f10,
    d_l_take := _,
    F_l_take := F10,
    b_l_take := (F10.binds (ps := ["_law_bag_here", "_law_many"]) fun _ _ _ _ _ _ us hl => match us, hl with | [_, _], _ => rfl),
    g_l_take := PySem.W.mg_of X G a10,
    f_l_thing := f11,
    d_l_thing := _,
    F_l_thing := F11,
    b_l_thing := (F11.binds (ps := ["_law_bag_here"]) fun _ _ _ _ _ _ us hl => match us, hl with | [_], _ => rfl),
    g_l_thing := PySem.W.mg_of X G a11,
    f_l_is_number := f12,
    d_l_is_number := _,
    F_l_is_number := F12,
    b_l_is_number := (F12.binds (ps := ["_law_thing_here"]) fun _ _ _ _ _ _ us hl => match us, hl with | [_], _ => rfl),
    g_l_is_number := PySem.W.mg_of X G a12,
    f_l_raises := f13,
    d_l_raises := _,
    F_l_raises := F13,
    b_l_raises := (F13.binds (ps := ["_law_kind", "_law_one", "_law_other"]) fun _ _ _ _ _ _ us hl => match us, hl with | [_, _, _], _ => rfl),
    g_l_raises := PySem.W.mg_of X G a13,
    z_abs := PySem.W.mg_none_of X G z_abs,
    z_bool := PySem.W.mg_none_of X G z_bool,
    z_int := PySem.W.mg_none_of X G z_int,
    z_isinstance := PySem.W.mg_none_of X G z_isinstance,
    z_len := PySem.W.mg_none_of X G z_len,
    z_min := PySem.W.mg_none_of X G z_min,
    z_range := PySem.W.mg_none_of X G z_range,
    u_GREATEST := _,
    v_GREATEST := PySem.W.mg_of X G v_GREATEST,
    r_GREATEST := ⟨_, rfl⟩,
    C_OnceError := C_OnceError,
    gc_OnceError := PySem.W.mg_of X G gc_OnceError,
    C_BadNumber := C_BadNumber,
    gc_BadNumber := PySem.W.mg_of X G gc_BadNumber,
    C_BadHistory := C_BadHistory,
    gc_BadHistory := PySem.W.mg_of X G gc_BadHistory,
    C_NoMember := C_NoMember,
    gc_NoMember := PySem.W.mg_of X G gc_NoMember,
    C_Empty := C_Empty,
    gc_Empty := PySem.W.mg_of X G gc_Empty,
    C_Busy := C_Busy,
    gc_Busy := PySem.W.mg_of X G gc_Busy,
    C_Torn := C_Torn,
    gc_Torn := PySem.W.mg_of X G gc_Torn,
    C_NotTorn := C_NotTorn,
    gc_NotTorn := PySem.W.mg_of X G gc_NotTorn,
    xB := xB,
    kB := kB,
    bB := bB,
    tB := tB,
    eB := PySem.W.exm_ref bB i4 tB sB,
    iB := ⟨i1, i2, bB, i4, i5, i6, i7, i8⟩,
    k6 := (kit_noneOf (kit_own sB ci_BadHistory ct_BadHistory cs_BadHistory) (kit_noneOf (kit_own sB ci_Busy ct_Busy cs_Busy) (kit_noneOf (kit_own sB ci_Empty ct_Empty cs_Empty) (kit_noneOf (kit_own sB ci_NoMember ct_NoMember cs_NoMember) (kit_noneOf (kit_own sB ci_NotTorn ct_NotTorn cs_NotTorn) (kit_noneOf (kit_own sB ci_Torn ct_Torn cs_Torn) rfl)))))),
    k1 := (kit_own sB ci_OnceError ct_OnceError cs_OnceError) }
  exact ⟨PySem.W.fnOf "law" "law" (defArgs s_law) (defBody s_law) (defScope s_law) .none kV14 dc14 pm14 an14 cd14 ct14, fun s v => .of_eq rfl, fun base _ _ => ok_law T F14⟩
end Ob
open PySem PySem.W PyProof.Rows
set_option maxHeartbeats 0 in
theorem PySem.Challenge.cw_oncebuilt_k04_bad_numbers_holds : PySem.Challenge.rw_oncebuilt_k04_bad_numbers.Holds := by
  w_on; o_law; k_head; (case hw => w_witness2)
  k_fill
  refine L2.walk_of (l := PySem.Challenge.rw_oncebuilt_k04_bad_numbers) (n := 63) (k := 8) (x := "_law_script") (CX := fun _ => L2.CX0) (sp := fun w => Ob.spLaw _) rfl (by decide) rfl ⟨rfl, by decide, by decide⟩ (fun w h Y => PySem.W.kIn_of Y) ?F (fun _ _ a ns hl _ hS => ⟨a, ns, rfl, hS, hl, fun _ => rfl⟩) (fun _ _ _ _ _ h => h)
  case F =>
    intro w mg fa h KX G hmg
    refine' Ob.all_mk KX G hmg ?a0 ?l0 ?c0 ?k0 ?a1 ?l1 ?c1 ?k1 ?a2 ?l2 ?c2 ?k2 ?a3 ?l3 ?c3 ?k3 ?a4 ?l4 ?c4 ?k4 ?a5 ?l5 ?c5 ?k5 ?a6 ?l6 ?c6 ?k6 ?a7 ?l7 ?c7 ?k7 ?a8 ?l8 ?c8 ?k8 ?a9 ?l9 ?c9 ?k9 ?a10 ?l10 ?c10 ?k10 ?a11 ?l11 ?c11 ?k11 ?a12 ?l12 ?c12 ?k12 ?a13 ?l13 ?c13 ?k13 ?a14 ?l14 ?c14 ?k14 ?z_abs ?z_bool ?z_int ?z_isinstance ?z_len ?z_min ?z_range ?v_GREATEST ?gc_OnceError ?gc_BadNumber ?gc_BadHistory ?gc_NoMember ?gc_Empty ?gc_Busy ?gc_Torn ?gc_NotTorn ?xB ?kB ?bB ?tB ?sB ?i1 ?i2 ?i4 ?i5 ?i6 ?i7 ?i8 ?ci_BadHistory ?ct_BadHistory ?cs_BadHistory ?ci_Busy ?ct_Busy ?cs_Busy ?ci_Empty ?ct_Empty ?cs_Empty ?ci_NoMember ?ct_NoMember ?cs_NoMember ?ci_NotTorn ?ct_NotTorn ?cs_NotTorn ?ci_Torn ?ct_Torn ?cs_Torn ?ci_OnceError ?ct_OnceError ?cs_OnceError
    (case a0 => k_is); (case l0 => k_is); (case c0 => k_is); (case k0 => k_is); (case a1 => k_is); (case l1 => k_is); (case c1 => k_is); (case k1 => k_is); (case a2 => k_is); (case l2 => k_is); (case c2 => k_is); (case k2 => k_is); (case a3 => k_is); (case l3 => k_is); (case c3 => k_is); (case k3 => k_is); (case a4 => k_is); (case l4 => k_is); (case c4 => k_is); (case k4 => k_is); (case a5 => k_is); (case l5 => k_is); (case c5 => k_is); (case k5 => k_is); (case a6 => k_is); (case l6 => k_is); (case c6 => k_is); (case k6 => k_is); (case a7 => k_is); (case l7 => k_is); (case c7 => k_is); (case k7 => k_is); (case a8 => k_is); (case l8 => k_is); (case c8 => k_is); (case k8 => k_is); (case a9 => k_is); (case l9 => k_is); (case c9 => k_is); (case k9 => k_is); (case a10 => k_is); (case l10 => k_is); (case c10 => k_is); (case k10 => k_is); (case a11 => k_is); (case l11 => k_is); (case c11 => k_is); (case k11 => k_is); (case a12 => k_is); (case l12 => k_is); (case c12 => k_is); (case k12 => k_is); (case a13 => k_is); (case l13 => k_is); (case c13 => k_is); (case k13 => k_is); (case a14 => k_is); (case l14 => k_is); (case c14 => k_is); (case k14 => k_is); (case z_abs => k_is); (case z_bool => k_is); (case z_int => k_is); (case z_isinstance => k_is); (case z_len => k_is); (case z_min => k_is); (case z_range => k_is); (case v_GREATEST => k_is); (case gc_OnceError => k_is); (case gc_BadNumber => k_is); (case gc_BadHistory => k_is); (case gc_NoMember => k_is); (case gc_Empty => k_is); (case gc_Busy => k_is); (case gc_Torn => k_is); (case gc_NotTorn => k_is); (case xB => k_exc); (case kB => k_is); (case bB => k_is); (case tB => k_is); (case sB => first | rfl | k_is); (case i1 => k_is); (case i2 => k_is); (case i4 => k_is); (case i5 => k_is); (case i6 => k_is); (case i7 => k_is); (case i8 => k_is); (case ci_BadHistory => k_is); (case ct_BadHistory => k_is); (case cs_BadHistory => k_is); (case ci_Busy => k_is); (case ct_Busy => k_is); (case cs_Busy => k_is); (case ci_Empty => k_is); (case ct_Empty => k_is); (case cs_Empty => k_is); (case ci_NoMember => k_is); (case ct_NoMember => k_is); (case cs_NoMember => k_is); (case ci_NotTorn => k_is); (case ct_NotTorn => k_is); (case cs_NotTorn => k_is); (case ci_Torn => k_is); (case ct_Torn => k_is); (case cs_Torn => k_is); (case ci_OnceError => k_is); (case ct_OnceError => k_is); (case cs_OnceError => k_is)

