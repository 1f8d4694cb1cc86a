/- copied, NewReader, Bytes; the document's own functions on lists (package waferref1): Bits, Pack, Unpack, Number. -/
import Derived.Test.YtiikkngllmdljaaLeaf
import Derived.Test.YtiikkngllmdljaaSrc
import Derived.Test.YtiikkngllmdljaaPutM
import Derived.Lib.Hide
import Derived.Deep.LoopGhost
import Derived.Deep.DeepCutAuto
namespace Go.Proofs.Ytiikkngllmdljaa
open Go.RowKit M

theorem Try.info4 : (Try.prog.info? 4).map (fun i => (i.zero, i.size, i.bytes)) = some (some (.bool false), 1, 1) := by kernel_rfl

/-- A new slice whose cells are xs. -/
def NewRow (e : TypeId) (w : World) (xs : List Value) (en : Ending) (w' : World) : Prop :=
  ∃ sv, en = .returned sv ∧ w'.ownsRow w.heap.size e 1 sv xs.length xs ∧ Only Nil w w'

theorem bits_next (v n m : Nat) (hm : m + 1 ≤ n) (hv : v < 18446744073709551616) :
    (bitsOf (v / 2 ^ (m + 1)) (n - (m + 1))).map Value.bool ++ [Value.bool (bits BinOp.and IntKind.u64 ((v : Int) / 2 ^ m) 1 == 1)] = (bitsOf (v / 2 ^ m) (n - m)).map Value.bool := by
  have h := bits_step [] v n m 1 hm
  simp only [List.nil_append] at h
  rw [← h, List.map_append, bit_test v m hv]
  congr 1
  simp [bitsOf, List.range_succ, Nat.testBit_eq_decide_div_mod_eq]

set_option maxHeartbeats 400000 in
theorem bits_any (v n : Nat) (w : World) (hv : v < 18446744073709551616) (hn : n ≤ 64) :
    Calls Try.prog 10 #[.int .u64 v, .int .i64 n] w (NewRow 4 w ((bitsOf v n).map Value.bool)) := by
  obtain ⟨i0, hi, hz0, hz1, hz2⟩ := info_parts Try.info4
  go_enter Try.func10, Try.ntmps10
  go_wp2_with fail
  go_loopg [5, 6] n (fun m t i wr => m ≤ n ∧ i = .int .i64 ((m : Int) - 1) ∧ wr.ownsRow w.heap.size 4 1 t (n - m) ((bitsOf (v / 2 ^ m) (n - m)).map Value.bool) ∧ Only Nil w wr)
  case atStart => exact ⟨Nat.le_refl _, rfl, by simpa [bitsOf] using World.ownsRow_nil _ _ _ _, Only.refl _ _⟩
  case round =>
    obtain ⟨hm, rfl, hown, ho⟩ := hrel
    obtain ⟨m, rfl⟩ : ∃ m, m = gk := ⟨gk, rfl⟩
    by_cases hm0 : 0 < m
    · obtain ⟨m, rfl⟩ : ∃ m', m = m' + 1 := ⟨m - 1, by omega⟩
      have hsz := ho.size
      go_wp2_with (with_reducible refine wpList_append_one rfl _ _ 26 rfl w.heap.size 4 i0 (.bool false) 1 Try.underlying26 hi hz0 hz1 hz2 rfl _ _ _ rfl hown _ rfl rfl ?c1 ?c2 ?c3 ?_)
      case c1 => simp [maxLen]; omega
      case c2 => omega
      case c3 => omega
      intro g cap w1 hown1 hc1 hc2 hg1 ho1
      have ho2 := ho.nil_own hown ho1
      rw [bits_next v n m hm hv, show n - (m + 1) + 1 = n - m by omega] at hown1
      rw [show n - (m + 1) + 1 = n - m by omega]
      clear hc1 hc2 hg1 ho1 hown ho
      go_wp2_with fail
      go_roundg m
      case measure => omega
      case rel => exact ⟨by omega, by go_num, hown1, ho2⟩
    · have hm0' : m = 0 := by omega
      subst hm0'
      go_wp2_with fail
      go_ret
      refine ⟨u5, rfl, ?_, ho⟩
      simpa using hown

theorem num_step_0 (x : Nat) : IntKind.u64.wrap ((x : Int) * 2) = (((2 * x + false.toNat) % 18446744073709551616 : Nat) : Int) := by
  rw [show (x : Int) * 2 = ((x * 2 : Nat) : Int) by simp, wrap_u64]; simp; omega

theorem num_step_1 (x : Nat) : bits BinOp.or IntKind.u64 (IntKind.u64.wrap ((x : Int) * 2)) 1 = (((2 * x + true.toNat) % 18446744073709551616 : Nat) : Int) := by
  rw [show (x : Int) * 2 = ((x * 2 : Nat) : Int) by simp, wrap_u64]
  have h := bits_or_u64 (x * 2 % 18446744073709551616) 1 (Nat.mod_lt _ (by decide)) (by decide)
  rw [show ((1 : Nat) : Int) = 1 from rfl] at h
  rw [h]
  obtain ⟨f, hf⟩ : ∃ f, x * 2 % 18446744073709551616 = 2 * f := ⟨x * 2 % 18446744073709551616 / 2, by omega⟩
  have h2 := Nat.two_pow_add_eq_or_of_lt (i := 1) (b := 1) (by decide) f
  rw [hf, ← h2]
  simp only [Bool.toNat_true]
  congr 1
  omega

set_option maxHeartbeats 400000 in
theorem number_any (b : Nat) (s : Value) (l : List Bool) (w : World) (hs : Src w b s (l.map Value.bool)) (hl : l.length ≤ 1099511627776) :
    Calls Try.prog 17 #[s] w fun e w' => e = .returned (.int .u64 ((number l % 18446744073709551616 : Nat) : Int)) ∧ w = w' := by
  obtain ⟨n, hn⟩ : ∃ n, l.length = n := ⟨_, rfl⟩
  obtain ⟨ao, cap, off, rfl, hs2, hs3, hs4⟩ := hs.opened (n := n) (by simpa using hn)
  rw [hn] at hl
  have HN := Lib.hid hn
  have H2 := Lib.hid hs2
  have H3 := Lib.hid hs3
  have H4 := Lib.hid hs4
  clear hn hs2 hs3 hs4 hs
  go_enter Try.func17, Try.ntmps17
  go_wp2_with fail
  go_loopg [3, 4] n (fun m t i wr => m ≤ n ∧ i = .int .i64 ((n - m : Nat) : Int) ∧ t = .int .u64 ((number (l.take (n - m)) % 18446744073709551616 : Nat) : Int) ∧ w = wr)
  case atStart => exact ⟨Nat.le_refl _, by simp, by simp [number], rfl⟩
  case round =>
    obtain ⟨hm, rfl, rfl, rfl⟩ := hrel
    obtain ⟨m, rfl⟩ : ∃ m, m = gk := ⟨gk, rfl⟩
    obtain ⟨k, hk⟩ : ∃ k, n - m = k := ⟨_, rfl⟩
    rw [hk]
    have hkn : k ≤ n := by omega
    have HK := Lib.hid hk
    clear hk
    by_cases hkl : k < n
    · have hkl2 : k < l.length := by rw [HN.out]; exact hkl
      have hao := H2.out (by omega)
      have hc := H4.out k (.bool l[k]) (by simp [List.getElem?_eq_getElem hkl2])
      have ht : l.take (k + 1) = l.take k ++ [l[k]] := by rw [List.take_succ_eq_append_getElem hkl2]
      subst hao
      obtain ⟨x, hx⟩ : ∃ x, number (l.take k) % 18446744073709551616 = x := ⟨_, rfl⟩
      rw [hx]
      have hx2 : x < 18446744073709551616 := by rw [← hx]; exact Nat.mod_lt _ (by decide)
      have hnx : number (l.take (k + 1)) % 18446744073709551616 = (2 * x + (l[k]).toNat) % 18446744073709551616 := by
        rw [ht, number_snoc, ← hx]; omega
      have HX := Lib.hid hnx
      clear hnx ht hx
      obtain ⟨y, hy⟩ : ∃ y, l[k] = y := ⟨_, rfl⟩
      rw [hy] at hc HX
      clear hy
      cases y
      all_goals
        go_wp2_with fail
        go_roundg (m - 1)
        case measure => have := HK.out; omega
        case rel => 
          refine ⟨by omega, by have := HK.out; go_num, ?_, rfl⟩
          rw [show n - (m - 1) = k + 1 by have := HK.out; omega, HX.out]
          first | rw [num_step_1 x] | rw [num_step_0 x]
    · have hkl2 : k = n := by omega
      subst hkl2
      go_wp2_with fail
      go_ret
      exact ⟨by rw [← HN.out, List.take_length]; rfl, rfl⟩

set_option maxHeartbeats 400000 in
theorem copied_any (b : Nat) (s : Value) (xs : List Value) (w : World) (hs : Src w b s xs) (hx : ∀ u ∈ xs, u.oneCell' = true) (hl : xs.length ≤ 140737488355328) :
    Calls Try.prog 22 #[s] w (NewRow 5 w xs) := by
  obtain ⟨i0, hi, hz0, hz1, hz2⟩ := info_parts Try.info5
  go_enter Try.func22, Try.ntmps22
  go_wp2_with (at_builtin; refine wpList_append_src rfl _ _ 33 rfl w.heap.size 5 i0 (.int .u8 0) 1 Try.underlying33 hi hz0 hz1 hz2 rfl _ _ _ rfl (World.ownsRow_nil _ _ _ _) b s xs rfl hs hx ?c1 ?c2 ?c3 ?_)
  case c1 => simp [maxLen]; omega
  case c2 => omega
  case c3 => omega
  intro v' w1 hown hv ho
  go_wp2_with fail
  go_ret
  exact ⟨v', rfl, by simpa using hown, ho.mono (fun k h => by cases h)⟩

theorem U8s_one (B : List Nat) : ∀ u ∈ U8s B, u.oneCell' = true := by
  intro u hu
  simp only [U8s, List.mem_map] at hu
  obtain ⟨x, _, rfl⟩ := hu
  rfl
end Go.Proofs.Ytiikkngllmdljaa
