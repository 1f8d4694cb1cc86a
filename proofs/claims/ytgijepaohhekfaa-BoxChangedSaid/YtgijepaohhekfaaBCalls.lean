/- Sums, words: the calls that only read. -/
import Derived.Test.YtgijepaohhekfaaVRead
import Derived.Test.YtgijepaohhekfaaBMath
import Derived.Lib.AppendStr
namespace Go.Proofs.Ytgijepaohhekfaa
open Go.RowKit M

theorem or_low (w c : Nat) (hc : c < 256) : bits BinOp.or IntKind.u32 ((w : Int) * 256 % 4294967296) (c : Int) = ((w * 256 % 4294967296 + c : Nat) : Int) := by
  rw [show (w : Int) * 256 % 4294967296 = ((w * 256 % 4294967296 : Nat) : Int) by omega, u32_or_nat _ _ (Nat.mod_lt _ (by decide)) (by omega)]
  congr 1
  have h : w * 256 % 4294967296 = 2 ^ 8 * (w % 16777216) := by omega
  rw [h, ← Nat.two_pow_add_eq_or_of_lt (i := 8) (b := c) (by omega)]
theorem or_sum (x y : Nat) (hx : x < 65521) (hy : y < 65521) : bits BinOp.or IntKind.u32 ((y : Int) * 65536) (x : Int) = ((y * 65536 + x : Nat) : Int) := by
  rw [show (y : Int) * 65536 = ((y * 65536 : Nat) : Int) by omega, u32_or_nat _ _ (by omega) (by omega)]
  congr 1
  rw [show y * 65536 = 2 ^ 16 * y by omega, ← Nat.two_pow_add_eq_or_of_lt (i := 16) (b := x) (by omega)]

set_option maxHeartbeats 400000 in
theorem sum_any (s : Value) (B : List Nat) (w : World) (hs : Row w s B) :
    Calls Try.prog 11 #[s] w fun e w' => e = .returned (.int .u32 (sumOf B : Nat)) ∧ w = w' := by
  obtain ⟨n, hn⟩ : ∃ n, B.length = n := ⟨_, rfl⟩
  obtain ⟨b, ao, cap, off, rfl, h2, h3, h4, h5, h6, h7⟩ := hs
  rw [hn] at h2 h4 ⊢
  have hR0 : ∃ x y : Nat, (1 : Int) = (x : Int) ∧ (0 : Int) = (y : Int) ∧ adl x y (B.drop 0) = adl 1 0 B ∧ x < 65521 ∧ y < 65521 := ⟨1, 0, rfl, rfl, rfl, by decide, by decide⟩
  obtain ⟨R, hR⟩ : ∃ R, adl 1 0 B = R := ⟨_, rfl⟩
  have hS : sumOf B = R.2 * 65536 + R.1 := by unfold sumOf; rw [hR]
  rw [hS]
  rw [hR] at hR0
  have HN := Lib.hid hn
  have H4 := Lib.hid h4
  have H6 := Lib.hid h6
  have H7 := Lib.hid h7
  clear hn h4 h5 h6 h7 hR hS
  unfold maxLen at h3
  go_enter Try.func11, Try.ntmps11
  go_wp2_with fail
  go_loopg [3, 4, 9] n (fun g s3 s4 k wr => g ≤ n ∧ k = .int .i64 ((n - g : Nat) : Int) ∧ w = wr ∧ ∃ x y : Nat, s3 = .int .u32 x ∧ s4 = .int .u32 y ∧ adl x y (B.drop (n - g)) = R ∧ x < 65521 ∧ y < 65521)
  case atStart =>
    obtain ⟨x, y, h1, h2, h3, h4, h5⟩ := hR0
    exact ⟨Nat.le_refl _, by simp, rfl, x, y, by rw [h1], by rw [h2], by rw [Nat.sub_self]; exact h3, h4, h5⟩
  case round =>
    clear hR0
    obtain ⟨hg, rfl, rfl, x, y, rfl, rfl, hR, hx, hy⟩ := hrel
    obtain ⟨g, rfl⟩ : ∃ g, g = gk := ⟨gk, rfl⟩
    obtain ⟨k, hk⟩ : ∃ k, n - g = k := ⟨_, rfl⟩
    rw [hk] at hR ⊢
    have HK := Lib.hid hk
    have hkn : k ≤ n := by omega
    clear hk
    by_cases hkl : k < n
    · have hkB : k < B.length := by rw [HN.out]; omega
      have hao := H4.out (by omega)
      subst hao
      obtain ⟨c, hc⟩ : ∃ c, B[k] = c := ⟨_, rfl⟩
      have hc2 : B[k]? = some c := by rw [List.getElem?_eq_getElem hkB, hc]
      have hc8 : c < 256 := H7.out c (by rw [← hc]; exact List.getElem_mem _)
      have c0 := H6.out k (.int .u8 c) (by simp [U8s, hc2])
      rw [List.drop_eq_getElem_cons hkB, hc, adl] at hR
      have HR := Lib.hid hR
      clear hc hc2 hR
      go_wp2_with fail
      go_roundg (g - 1)
      case measure => have := HK.out; omega
      case rel =>
        have h1 := HK.out
        refine ⟨by omega, by go_num, rfl, (x + c) % 65521, (y + (x + c) % 65521) % 65521, by go_num, by go_num, ?_, Nat.mod_lt _ (by decide), Nat.mod_lt _ (by decide)⟩
        rw [show n - (g - 1) = k + 1 by omega]
        exact HR.out
    · have hkn' : k = n := by omega
      subst hkn'
      rw [List.drop_eq_nil_of_le (by rw [HN.out]; exact Nat.le_refl _)] at hR
      have e1 : R = (x, y) := hR.symm
      subst e1
      have HO := Lib.hid (or_sum x y hx hy)
      clear hR
      go_wp2_with fail
      go_ret
      exact ⟨ret_of HO.out, rfl⟩

set_option maxHeartbeats 400000 in
theorem sum_any1 (s : Value) (B : List Nat) (w : World) (hs : Row w s B) :
    Calls Try.prog 12 #[s] w fun e w' => e = .returned (.int .u32 (sumOf B : Nat)) ∧ w = w' := by
  obtain ⟨n, hn⟩ : ∃ n, B.length = n := ⟨_, rfl⟩
  obtain ⟨b, ao, cap, off, rfl, h2, h3, h4, h5, h6, h7⟩ := hs
  rw [hn] at h2 h4 ⊢
  have hR0 : ∃ x y : Nat, (1 : Int) = (x : Int) ∧ (0 : Int) = (y : Int) ∧ adl x y (B.drop 0) = adl 1 0 B ∧ x < 65521 ∧ y < 65521 := ⟨1, 0, rfl, rfl, rfl, by decide, by decide⟩
  obtain ⟨R, hR⟩ : ∃ R, adl 1 0 B = R := ⟨_, rfl⟩
  have hS : sumOf B = R.2 * 65536 + R.1 := by unfold sumOf; rw [hR]
  rw [hS]
  rw [hR] at hR0
  have HN := Lib.hid hn
  have H4 := Lib.hid h4
  have H6 := Lib.hid h6
  have H7 := Lib.hid h7
  clear hn h4 h5 h6 h7 hR hS
  unfold maxLen at h3
  go_enter Try.func12, Try.ntmps12
  go_wp2_with fail
  go_loopg [3, 4, 5] n (fun g s3 s4 k wr => g ≤ n ∧ k = .int .i64 ((n - g : Nat) : Int) ∧ w = wr ∧ ∃ x y : Nat, s3 = .int .u32 x ∧ s4 = .int .u32 y ∧ adl x y (B.drop (n - g)) = R ∧ x < 65521 ∧ y < 65521)
  case atStart =>
    obtain ⟨x, y, h1, h2, h3, h4, h5⟩ := hR0
    exact ⟨Nat.le_refl _, by simp, rfl, x, y, by rw [h1], by rw [h2], by rw [Nat.sub_self]; exact h3, h4, h5⟩
  case round =>
    clear hR0
    obtain ⟨hg, rfl, rfl, x, y, rfl, rfl, hR, hx, hy⟩ := hrel
    obtain ⟨g, rfl⟩ : ∃ g, g = gk := ⟨gk, rfl⟩
    obtain ⟨k, hk⟩ : ∃ k, n - g = k := ⟨_, rfl⟩
    rw [hk] at hR ⊢
    have HK := Lib.hid hk
    have hkn : k ≤ n := by omega
    clear hk
    by_cases hkl : k < n
    · have hkB : k < B.length := by rw [HN.out]; omega
      have hao := H4.out (by omega)
      subst hao
      obtain ⟨c, hc⟩ : ∃ c, B[k] = c := ⟨_, rfl⟩
      have hc2 : B[k]? = some c := by rw [List.getElem?_eq_getElem hkB, hc]
      have hc8 : c < 256 := H7.out c (by rw [← hc]; exact List.getElem_mem _)
      have c0 := H6.out k (.int .u8 c) (by simp [U8s, hc2])
      rw [List.drop_eq_getElem_cons hkB, hc, adl] at hR
      have HR := Lib.hid hR
      clear hc hc2 hR
      go_wp2_with fail
      go_roundg (g - 1)
      case measure => have := HK.out; omega
      case rel =>
        have h1 := HK.out
        refine ⟨by omega, by go_num, rfl, (x + c) % 65521, (y + (x + c) % 65521) % 65521, by go_num, by go_num, ?_, Nat.mod_lt _ (by decide), Nat.mod_lt _ (by decide)⟩
        rw [show n - (g - 1) = k + 1 by omega]
        exact HR.out
    · have hkn' : k = n := by omega
      subst hkn'
      rw [List.drop_eq_nil_of_le (by rw [HN.out]; exact Nat.le_refl _)] at hR
      have e1 : R = (x, y) := hR.symm
      subst e1
      have HO := Lib.hid (or_sum x y hx hy)
      clear hR
      go_wp2_with fail
      go_ret
      exact ⟨ret_of HO.out, rfl⟩

set_option maxHeartbeats 400000 in
theorem word_any (s : Value) (B : List Nat) (w : World) (hs : Row w s B) :
    Calls Try.prog 19 #[s] w fun e w' => e = .returned (.int .u32 (wordN B : Nat)) ∧ w = w' := by
  obtain ⟨n, hn⟩ : ∃ n, B.length = n := ⟨_, rfl⟩
  obtain ⟨b, ao, cap, off, rfl, h2, h3, h4, h5, h6, h7⟩ := hs
  rw [hn] at h2 h4 ⊢
  have hR0 : ∃ x : Nat, (0 : Int) = (x : Int) ∧ (B.drop 0).foldl (fun w c => w * 256 % 4294967296 + c) x = wordN B ∧ x < 4294967296 := ⟨0, rfl, rfl, by decide⟩
  obtain ⟨R, hR⟩ : ∃ R, wordN B = R := ⟨_, rfl⟩
  rw [hR] at hR0 ⊢
  have HN := Lib.hid hn
  have H4 := Lib.hid h4
  have H6 := Lib.hid h6
  have H7 := Lib.hid h7
  clear hn h4 h5 h6 h7 hR
  unfold maxLen at h3
  go_enter Try.func19, Try.ntmps19
  go_wp2_with fail
  go_loopg [3, 8] n (fun g s3 k wr => g ≤ n ∧ k = .int .i64 ((n - g : Nat) : Int) ∧ w = wr ∧ ∃ x : Nat, s3 = .int .u32 x ∧ (B.drop (n - g)).foldl (fun w c => w * 256 % 4294967296 + c) x = R ∧ x < 4294967296)
  case atStart =>
    obtain ⟨x, h1, h2, h3⟩ := hR0
    exact ⟨Nat.le_refl _, by simp, rfl, x, by rw [h1], by rw [Nat.sub_self]; exact h2, h3⟩
  case round =>
    clear hR0
    obtain ⟨hg, rfl, rfl, x, rfl, hR, hx⟩ := hrel
    obtain ⟨g, rfl⟩ : ∃ g, g = gk := ⟨gk, rfl⟩
    obtain ⟨k, hk⟩ : ∃ k, n - g = k := ⟨_, rfl⟩
    rw [hk] at hR ⊢
    have HK := Lib.hid hk
    have hkn : k ≤ n := by omega
    clear hk
    by_cases hkl : k < n
    · have hkB : k < B.length := by rw [HN.out]; omega
      have hao := H4.out (by omega)
      subst hao
      obtain ⟨c, hc⟩ : ∃ c, B[k] = c := ⟨_, rfl⟩
      have hc2 : B[k]? = some c := by rw [List.getElem?_eq_getElem hkB, hc]
      have hc8 : c < 256 := H7.out c (by rw [← hc]; exact List.getElem_mem _)
      have c0 := H6.out k (.int .u8 c) (by simp [U8s, hc2])
      have ho := or_low x c hc8
      rw [List.drop_eq_getElem_cons hkB, hc, List.foldl_cons] at hR
      have HR := Lib.hid hR
      clear hc hc2 hR
      go_wp2_with fail
      go_roundg (g - 1)
      case measure => have := HK.out; omega
      case rel =>
        have h1 := HK.out
        refine ⟨by omega, by go_num, rfl, x * 256 % 4294967296 + c, rfl, ?_, by omega⟩
        rw [show n - (g - 1) = k + 1 by omega]
        exact HR.out
    · have hkn' : k = n := by omega
      subst hkn'
      rw [List.drop_eq_nil_of_le (by rw [HN.out]; exact Nat.le_refl _)] at hR
      have e1 : x = R := hR
      subst e1
      clear hR
      go_wp2_with fail
      go_ret
      exact ⟨rfl, rfl⟩

theorem own_new {w : World} {g base : Nat} {cs : Array Value} {e : TypeId} {xs : List Value} (h : Blk w g cs e) (hb : base ≤ g) (hxs : cs.toList = xs) (hm : xs.length ≤ maxLen) :
    w.ownsRow base e 1 (.slice (some ⟨g, 0, none⟩) xs.length xs.length) xs.length xs := by
  subst hxs
  refine ⟨by simp, Or.inr ⟨g, _, cs, rfl, hb, h, Nat.le_refl _, hm, by simp, List.take_of_length_le (by simp)⟩⟩

theorem four_cells (v : Nat) (hv : v < 4294967296) : (#[Value.int IntKind.u8 ((v : Int) / 16777216), Value.int IntKind.u8 ((v : Int) / 65536 % 256), Value.int IntKind.u8 ((v : Int) / 256 % 256), Value.int IntKind.u8 ((v : Int) % 256)] : Array Value).toList = U8s (four v) := by
  simp only [U8s, four, List.map_cons, List.map_nil, List.cons.injEq, Value.int.injEq, true_and, and_true]
  refine ⟨?_, ?_, ?_, ?_⟩ <;> omega
theorem four_any (v : Nat) (w : World) (hv : v < 4294967296) :
    Calls Try.prog 17 #[.int .u32 v] w (NewRow 5 w (U8s (four v))) := by
  go_enter Try.func17, Try.ntmps17
  go_wp2
  go_ret
  refine ⟨_, rfl, ?_, (Only.refl _ _).alloc _⟩
  exact own_new (Blk.new _ _ _) (Nat.le_refl _) (four_cells v hv) (by rw [U8s_len, four_len]; decide)

theorem appendWord_any (s : Value) (B : List Nat) (v base : Nat) (w : World) (hs : w.ownsRow base 5 1 s B.length (U8s B)) (hv : v < 4294967296) (hl : B.length ≤ 1099511627776) (hb : base ≤ w.heap.size) :
    Calls Try.prog 15 #[s, .int .u32 v] w fun e w' => ∃ sv, e = .returned sv ∧ w'.ownsRow base 5 1 sv (B ++ four v).length (U8s (B ++ four v)) ∧ Only (Own s.ownBlock) w w' := by
  obtain ⟨n, hn⟩ : ∃ n, B.length = n := ⟨_, rfl⟩
  have hfc := four_cells v hv
  obtain ⟨i0, hi, hz0, hz1, hz2⟩ := info_parts Try.info5
  have hlen : (B ++ four v).length = n + 4 := by rw [List.length_append, four_len, hn]
  rw [hlen, U8s_append, ← hfc]
  rw [hn] at hs hl
  have HN := Lib.hid hn
  clear hn hfc hlen
  go_enter Try.func15, Try.ntmps15
  go_wp2_with (at_builtin; refine wpList_append_row rfl _ _ 22 rfl base 5 i0 (.int .u8 0) 1 1 Try.underlying22 hi hz0 hz1 hz2 rfl (by decide) _ n (U8s B) rfl (hs.alloc _) ⟨w.heap.size, 0, none⟩ 4 4 [Value.int IntKind.u8 ((v : Int) / 16777216), Value.int IntKind.u8 ((v : Int) / 65536 % 256), Value.int IntKind.u8 ((v : Int) / 256 % 256), Value.int IntKind.u8 ((v : Int) % 256)] rfl rfl ?c1 ?c2 (by decide) ?c3 ?c4 ?c5 ?_)
  case c1 =>
    intro j u hj
    rw [addr_add, (Blk.new w _ 5).cell]
    simpa using hj
  case c2 => intro u hu; simp at hu; rcases hu with rfl | rfl | rfl | rfl <;> rfl
  case c3 => simp [maxLen]; omega
  case c4 => omega
  case c5 => simp; omega
  intro g cap w' hown hc1 hc2 hg ho
  go_wp2_with fail
  go_ret
  exact ⟨_, rfl, hown, ((Only.refl (Own s.ownBlock) w).alloc _).trans ho (fun _ _ h => h)⟩
end Go.Proofs.Ytgijepaohhekfaa
