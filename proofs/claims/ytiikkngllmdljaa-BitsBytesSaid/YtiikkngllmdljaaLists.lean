/- The document's Pack and Unpack. -/
import Derived.Test.YtiikkngllmdljaaSlices
namespace Go.Proofs.Ytiikkngllmdljaa
open Go.RowKit M

theorem pack_byte (x k : Nat) (hx : x < 256) : bits BinOp.or IntKind.u8 (x : Int) ((128 : Int) / 2 ^ (k % 8)) = ((x ||| 2 ^ (7 - k % 8) : Nat) : Int) := by
  have h8 : k % 8 < 8 := by omega
  have e : (128 : Int) / 2 ^ (k % 8) = ((2 ^ (7 - k % 8) : Nat) : Int) := by
    generalize k % 8 = r at *
    have : r = 0 ∨ r = 1 ∨ r = 2 ∨ r = 3 ∨ r = 4 ∨ r = 5 ∨ r = 6 ∨ r = 7 := by omega
    rcases this with h | h | h | h | h | h | h | h <;> subst h <;> rfl
  have h2 : 2 ^ (7 - k % 8) < 256 := by
    have : 2 ^ (7 - k % 8) ≤ 2 ^ 7 := Nat.pow_le_pow_right (by omega) (by omega)
    omega
  rw [e, bits_or_u8 x _ hx h2]

set_option maxHeartbeats 400000 in
theorem pack_any (b : Nat) (s : Value) (l : List Bool) (w : World) (hs : Src w b s (l.map Value.bool)) (hl : l.length ≤ 1099511627776) :
    Calls Try.prog 13 #[s] w (NewRow 5 w (U8s (pack l))) := by
  obtain ⟨n, hn⟩ : ∃ n, l.length = n := ⟨_, rfl⟩
  obtain ⟨ao, cap, off, rfl, hs2, hs3, hs4⟩ := hs.opened (n := n) (by simpa using hn)
  have hb := hs.ofLt
  rw [hn] at hl
  have HN := Lib.hid hn
  have H2 := Lib.hid hs2
  have H3 := Lib.hid hs3
  have H4 := Lib.hid hs4
  have HB := Lib.hid hb
  clear hn hs2 hs3 hs4 hs hb
  obtain ⟨i0, hi, hz0, hz1, hz2⟩ := info_parts Try.info5
  obtain ⟨N, hN⟩ : ∃ N, N = (n + 7) / 8 := ⟨_, rfl⟩
  have HNN := Lib.hid hN
  clear hN
  go_enter Try.func13, Try.ntmps13
  go_wp2_with (with_reducible refine wpList_make_full _ rfl _ _ 33 rfl w.heap.size 5 i0 (.int .u8 0) 1 Try.underlying33 hi hz0 hz1 _ _ _ _ N rfl rfl ?c1 ?c2 ?c3 ?c4 ?c5 ?_)
  case c1 => rw [HNN.out]; omega
  case c2 => rw [HNN.out]; omega
  case c3 => rw [hz2, HNN.out]; omega
  case c4 => rw [HNN.out]; simp [maxLen]; omega
  case c5 => omega
  intro w1 hown ho
  have ho1 : Only Nil w w1 := (Only.of_grown ho).mono (fun k h => by cases h)
  have hown1 : w1.ownsRow w.heap.size 5 1 (.slice (some ⟨w.heap.size, 0, none⟩) N N) N (U8s (packN (l.take 0) N)) := by
    have e : U8s (packN (l.take 0) N) = (madeCells #[.int .u8 0] N).toList := by
      rw [List.take_zero, packN_nil]
      apply List.ext_getElem?
      intro j
      by_cases h : j < N <;> simp [U8s, madeCells, h, Nat.mod_one]
    rw [e]; exact hown
  clear ho hown
  go_wp2_with fail
  go_loopg [4] n (fun m i wr => m ≤ n ∧ i = .int .i64 ((n - m : Nat) : Int) ∧ wr.ownsRow w.heap.size 5 1 (.slice (some ⟨w.heap.size, 0, none⟩) N N) N (U8s (packN (l.take (n - m)) N)) ∧ Only Nil w wr)
  case atStart => exact ⟨Nat.le_refl _, by simp, by rw [Nat.sub_self]; exact hown1, ho1⟩
  case round =>
    clear hown1 ho1
    obtain ⟨hm, rfl, hown, ho⟩ := hrel
    obtain ⟨m, rfl⟩ : ∃ m, m = gk := ⟨gk, rfl⟩
    obtain ⟨k, hk⟩ : ∃ k, n - m = k := ⟨_, rfl⟩
    rw [hk] at hown ⊢
    have hkn : k ≤ n := by omega
    have HK := Lib.hid hk
    clear hk
    by_cases hkl : k < n
    · have hkl2 : k < l.length := by rw [HN.out]; exact hkl
      have hao := H2.out (by omega)
      have hbw := HB.out (by simp; omega)
      have hc0 := H4.out k (.bool l[k]) (by simp [List.getElem?_eq_getElem hkl2])
      have hc : wr.cell? ⟨b, off + k, none⟩ = some (.bool l[k]) := ho.cell hc0 (fun h => h)
      have ht : l.take (k + 1) = l.take k ++ [l[k]] := by rw [List.take_succ_eq_append_getElem hkl2]
      have htl : (l.take k).length = k := by simp; omega
      subst hao
      obtain ⟨y, hy⟩ : ∃ y, l[k] = y := ⟨_, rfl⟩
      rw [hy] at hc ht
      have HT := Lib.hid ht
      have HTL := Lib.hid htl
      clear hy hc0 ht htl
      have hN8 : k / 8 < N := by rw [HNN.out]; omega
      have c8 := hown.cellAt (k / 8) (by omega)
      have f8 := hown.frozenAt (k / 8)
      obtain ⟨x, hx⟩ : ∃ x, byteAt (l.take k) (k / 8) = x := ⟨_, rfl⟩
      have hx2 : x < 256 := by rw [← hx]; exact byteAt_lt _ _
      rw [show (U8s (packN (l.take k) N))[k / 8]? = some (.int .u8 x) by simp [U8s, getElem?_packN _ _ _ hN8, hx]] at c8
      have HX := Lib.hid hx
      clear hx
      cases y
      · go_wp2_with fail
        go_roundg (m - 1)
        case measure => have := HK.out; omega
        case rel =>
          refine ⟨by omega, by have := HK.out; go_num, ?_, ho⟩
          rw [show n - (m - 1) = k + 1 by have := HK.out; omega, HT.out, packN_snoc_false]
          exact hown
      · go_wp2_with fail
        go_region
        go_wp2_with fail
        go_roundg (m - 1)
        case measure => have := HK.out; omega
        case rel =>
          have hst := (hown.stored (k / 8) (.int .u8 ((x ||| 2 ^ (7 - k % 8) : Nat) : Int))).1.drew
          have e : U8s (packN (l.take (n - (m - 1))) N) = (U8s (packN (l.take k) N)).set (k / 8) (.int .u8 ((x ||| 2 ^ (7 - k % 8) : Nat) : Int)) := by
            rw [show n - (m - 1) = k + 1 by have := HK.out; omega, HT.out, packN_snoc_true, HTL.out, HX.out]
            simp [U8s, List.map_set]
          refine ⟨by omega, by have := HK.out; go_num, ?_, ?_⟩
          · rw [e, pack_byte x k hx2]
            exact hst
          · exact (Only.setCell (ho) (fun h => absurd h (Nat.lt_irrefl _)) _).drew
    · have hkl2 : k = n := by omega
      subst hkl2
      go_wp2_with fail
      go_ret
      refine ⟨_, rfl, ?_, ho⟩
      rw [pack_eq, HN.out, ← HNN.out]
      rw [← HN.out, List.take_length] at hown
      simpa [U8s] using hown

set_option maxHeartbeats 400000 in
theorem unpack_any (b : Nat) (s : Value) (B : List Nat) (w : World) (hs : Src w b s (U8s B)) (hB : ∀ x ∈ B, x < 256) (hl : B.length ≤ 1099511627776) :
    Calls Try.prog 15 #[s] w (NewRow 4 w ((unpack B).map Value.bool)) := by
  obtain ⟨n, hn⟩ : ∃ n, B.length = n := ⟨_, rfl⟩
  obtain ⟨ao, cap, off, rfl, hs2, hs3, hs4⟩ := hs.opened (n := n) (by simpa [U8s] using hn)
  rw [hn] at hl
  have HN := Lib.hid hn
  have H2 := Lib.hid hs2
  have H4 := Lib.hid hs4
  clear hn hs2 hs3 hs4 hs
  obtain ⟨i0, hi, hz0, hz1, hz2⟩ := info_parts Try.info4
  go_enter Try.func15, Try.ntmps15
  go_wp2_with fail
  go_loopg [3, 4] n (fun m t i wr => m ≤ n ∧ i = .int .i64 ((n - m : Nat) : Int) ∧ wr.ownsRow w.heap.size 4 1 t (8 * (n - m)) ((unpack (B.take (n - m))).map Value.bool) ∧ Only Nil w wr)
  case atStart => exact ⟨Nat.le_refl _, by simp, by simpa [unpack] using World.ownsRow_nil _ _ _ _, Only.refl _ _⟩
  case round =>
    obtain ⟨hm, rfl, hown, ho⟩ := hrel
    obtain ⟨m, rfl⟩ : ∃ m, m = gk := ⟨gk, rfl⟩
    obtain ⟨k, hk⟩ : ∃ k, n - m = k := ⟨_, rfl⟩
    rw [hk] at hown ⊢
    have hkn : k ≤ n := by omega
    have HK := Lib.hid hk
    clear hk
    by_cases hkl : k < n
    · have hkl2 : k < B.length := by rw [HN.out]; exact hkl
      have hao := H2.out (by omega)
      have hc0 := H4.out k (.int .u8 B[k]) (by simp [U8s, List.getElem?_eq_getElem hkl2])
      have ht : B.take (k + 1) = B.take k ++ [B[k]] := by rw [List.take_succ_eq_append_getElem hkl2]
      have hy2 : B[k] < 256 := hB _ (List.getElem_mem _)
      subst hao
      obtain ⟨y, hy⟩ : ∃ y, B[k] = y := ⟨_, rfl⟩
      rw [hy] at hc0 ht hy2
      have hc : wr.cell? ⟨b, off + k, none⟩ = some (.int .u8 y) := ho.cell hc0 (fun h => h)
      have hsz := ho.size
      have HT := Lib.hid ht
      clear hy hc0 ht
      go_wp2_with fail
      refine (bits_any y 8 wr (by omega) (by omega)).mono ?_
      rintro e w1 ⟨sv, rfl, hown1, ho1⟩
      have hsz1 := ho1.size
      have hown2 : w1.ownsRow w.heap.size 4 1 u3 (8 * k) ((unpack (B.take k)).map Value.bool) := ownsRow_only hown ho1 (fun _ _ h => h)
      have hsrc := Src.of_own hown1
      go_wp2_with (at_builtin; refine wpList_append_src rfl _ _ 26 rfl w.heap.size 4 i0 (.bool false) 1 Try.underlying26 hi hz0 hz1 hz2 rfl _ _ _ rfl hown2 (sv.ownBlock.getD 0) sv ((bitsOf y 8).map Value.bool) rfl hsrc ?c1 ?c2 ?c3 ?c4 ?_)
      case c1 => intro u hu; simp only [List.mem_map] at hu; obtain ⟨x, _, rfl⟩ := hu; rfl
      case c2 => simp [maxLen]; omega
      case c3 => simp; omega
      case c4 => omega
      intro v' w2 hown3 hv3 ho2
      have ho3 : Only Nil w w2 := (ho.trans ho1 (fun _ _ h => h)).nil_own hown2 ho2
      clear hv3 ho2 hown2 hown1 ho1 hsrc hown hc ho hsz1
      go_wp2_with fail
      go_roundg (m - 1)
      case measure => have := HK.out; omega
      case rel =>
        refine ⟨by omega, by have := HK.out; go_num, ?_, ho3⟩
        rw [show n - (m - 1) = k + 1 by have := HK.out; omega, HT.out, unpack_snoc, List.map_append]
        simpa [Nat.mul_add] using hown3
    · have hkl2 : k = n := by omega
      subst hkl2
      go_wp2_with fail
      go_ret
      refine ⟨_, rfl, ?_, ho⟩
      rw [← HN.out, List.take_length] at hown
      simpa using hown
end Go.Proofs.Ytiikkngllmdljaa
