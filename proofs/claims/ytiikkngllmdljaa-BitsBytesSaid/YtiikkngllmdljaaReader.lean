/- The reader: NewReader, Left, Get, Rest; the writer's Bytes. -/
import Derived.Test.YtiikkngllmdljaaSlices
import Derived.Test.YtiikkngllmdljaaGetM
import Derived.Deep.QuietTactic
import Derived.BigQuiet
namespace Go.Proofs.Ytiikkngllmdljaa
open Go.RowKit M

/-- A reader of a copy of the bytes, m bits of which have been handed out. -/
def RRep (w : World) (b : Nat) (B : List Nat) (m : Nat) (r : Option Nat) : Prop :=
  ∃ sv, Blk w b #[sv, .int .i64 m] 52 ∧ w.ownsRow 0 5 1 sv B.length (U8s B) ∧ sv.ownBlock = r ∧ r ≠ some b

set_option maxHeartbeats 400000 in
theorem newReader_any (b : Nat) (s : Value) (B : List Nat) (w : World) (hs : Src w b s (U8s B)) (hl : B.length ≤ 1099511627776) :
    Calls Try.prog 14 #[s] w fun e w' => ∃ a r, e = .returned (.pointer (some ⟨a, 0, none⟩)) ∧ w.heap.size ≤ a ∧ RRep w' a B 0 r ∧ (∀ k, r = some k → w.heap.size ≤ k) ∧ Only Nil w w' := by
  go_enter Try.func14, Try.ntmps14
  go_wp2_with fail
  refine (copied_any b s (U8s B) w hs (U8s_one B) (by simp [U8s]; omega)).mono ?_
  rintro e w1 ⟨sv, rfl, hown, ho⟩
  have hsz := ho.size
  obtain ⟨ao, cap, off, hsv, _, _, _⟩ := (Src.of_own hown).opened (n := (U8s B).length) rfl
  subst hsv
  go_wp2_with fail
  go_ret
  refine ⟨w1.heap.size, _, rfl, hsz, ⟨_, Blk.new _ _ _, ?_, rfl, ?_⟩, fun k hk => (hown.lt k hk).1, ho.alloc _⟩
  · have := (ownsRow_base hown (Nat.zero_le _)).alloc (.cells #[.slice ao (U8s B).length cap, .int .i64 0] 52)
    simpa [U8s] using this
  · intro h
    have := (hown.lt _ h).2
    omega

set_option maxHeartbeats 400000 in
theorem bytes_any (a b : Nat) (s v1 : Value) (xs : List Value) (w : World) (hB : Blk w a #[s, v1] 47) (hs : Src w b s xs) (hx : ∀ u ∈ xs, u.oneCell' = true) (hl : xs.length ≤ 140737488355328) :
    Calls Try.prog 12 #[.pointer (some ⟨a, 0, none⟩)] w (NewRow 5 w xs) := by
  have c0 := hB.cell 0
  simp at c0
  go_enter Try.func12, Try.ntmps12
  go_wp2_with fail
  refine (copied_any b s xs w hs hx hl).mono ?_
  rintro e w1 ⟨sv, rfl, hown, ho⟩
  go_wp2_with fail
  go_ret
  exact ⟨sv, rfl, hown, ho⟩

set_option maxHeartbeats 400000 in
theorem left_any (b m : Nat) (B : List Nat) (w : World) {r : Option Nat} (hR : RRep w b B m r) (hm : m ≤ 8 * B.length) (hl : B.length ≤ 1099511627776) :
    Calls Try.prog 18 #[.pointer (some ⟨b, 0, none⟩)] w fun e w' => e = .returned (.int .i64 ((8 * B.length - m : Nat) : Int)) ∧ ∃ q, w' = w.drewN q := by
  obtain ⟨sv, hB, hown, _, _⟩ := hR
  have c0 := hB.cell 0
  have c1 := hB.cell 1
  simp at c0 c1
  obtain ⟨ao, cap, off, rfl, _, _, _⟩ := (Src.of_own hown).opened (n := B.length) (by simp [U8s])
  go_enter Try.func18, Try.ntmps18
  go_wp2_with fail
  go_quiet (fail)
  go_wp2_with fail
  go_ret
  exact ⟨by show Ending.returned _ = _; congr 1; go_num, nq, rfl⟩

/-- The word as the walk reckons it. -/
theorem get_word (Z c k a : Nat) (hZ : Z < 2 ^ a) (hc : c < 2 ^ k) (hak : a + k ≤ 64) :
    bits BinOp.or IntKind.u64 (IntKind.u64.wrap ((Z : Int) * 2 ^ k)) (c : Int) = ((Z * 2 ^ k + c : Nat) : Int) := by
  have h2 : Z * 2 ^ k + c < 2 ^ a * 2 ^ k := by
    have h3 : (Z + 1) * 2 ^ k ≤ 2 ^ a * 2 ^ k := Nat.mul_le_mul_right _ hZ
    rw [Nat.add_mul] at h3; omega
  rw [← Nat.pow_add] at h2
  have h4 : 2 ^ (a + k) ≤ 2 ^ 64 := Nat.pow_le_pow_right (by omega) hak
  have e : (Z : Int) * 2 ^ k = ((Z * 2 ^ k : Nat) : Int) := by simp
  rw [e, wrap_u64, Nat.mod_eq_of_lt (by omega), bits_or_u64 _ _ (by omega) (by omega), or_shift _ _ _ hc]

set_option maxHeartbeats 400000 in
theorem get_any (b m n : Nat) (B : List Nat) (w : World) {r : Option Nat} (hR : RRep w b B m r) (hm : m + n ≤ 8 * B.length) (hB8 : ∀ x ∈ B, x < 256) (hn : n ≤ 64) (hl : B.length ≤ 1099511627776) :
    Calls Try.prog 16 #[.pointer (some ⟨b, 0, none⟩), .int .i64 n] w fun e w' =>
      e = .returned (.tuple #[.int .u64 ((number (((unpack B).drop m).take n) : Nat) : Int), .bool true]) ∧ RRep w' b B (m + n) r ∧ Only (One b) w w' := by
  have hf : fitsB n = true := by simp [fitsB]; omega
  have hm2 : m ≤ 8 * B.length := by omega
  have hgt : decide (8 * B.length - m < n) = false := by simp; omega
  go_enter Try.func16, Try.ntmps16
  go_wp2_with (first
    | (go_at_call 20; refine (sizeFits_any _ _).mono ?_; rintro e w' ⟨rfl, rfl⟩)
    | (go_at_call 18; refine (left_any b m B w hR hm2 hl).mono ?_; rintro e w' ⟨rfl, q, rfl⟩))
  have hR2 : RRep (w.drewN q) b B m r := hR
  have ho2 : Only (One b) w (w.drewN q) := ⟨rfl, rfl, rfl, Nat.le_refl _, fun _ _ _ => rfl⟩
  generalize w.drewN q = w0 at *
  go_loopg [1, 6] n (fun g t v wr => g ≤ n ∧ t = .int .i64 g ∧ v = .int .u64 ((number (((unpack B).drop m).take (n - g)) : Nat) : Int) ∧ RRep wr b B (m + (n - g)) r ∧ Only (One b) w wr)
  case atStart => exact ⟨Nat.le_refl _, rfl, by simp [number], by simpa using hR2, ho2⟩
  case round =>
    clear hR2 ho2
    obtain ⟨hg, rfl, rfl, hR3, ho⟩ := hrel
    obtain ⟨g, rfl⟩ : ∃ g, g = gk := ⟨gk, rfl⟩
    obtain ⟨a, ha⟩ : ∃ a, n - g = a := ⟨_, rfl⟩
    rw [ha] at hR3 ⊢
    have HA := Lib.hid ha
    clear ha
    by_cases hg0 : 0 < g
    · obtain ⟨sv, hB, hown, hsv, hne⟩ := hR3
      have hp : m + a < 8 * B.length := by have := HA.out; omega
      obtain ⟨p, hpe⟩ : ∃ p, m + a = p := ⟨_, rfl⟩
      rw [hpe] at hB hp
      have HP := Lib.hid hpe
      clear hpe
      obtain ⟨gb, cap, rfl, _, hc1, hc2, _⟩ := ownsRow_shape hown (by omega)
      have c0 := hB.cell 0
      have c1 := hB.cell 1
      have f1 := hB.free 1
      simp at c0 c1
      have hp8 : p / 8 < B.length := by omega
      have cx := hown.cellAt (p / 8) (by omega)
      obtain ⟨x, hx⟩ : ∃ x, B.getD (p / 8) 0 = x := ⟨_, rfl⟩
      have hx2 : x < 256 := by
        rw [← hx, List.getD, List.getElem?_eq_getElem hp8]; exact hB8 _ (List.getElem_mem _)
      have hxv : (U8s B)[p / 8]? = some (.int .u8 x) := by
        have : B[p / 8]? = some x := by rw [← hx, List.getD, List.getElem?_eq_getElem hp8]; rfl
        simp [U8s, this]
      rw [hxv] at cx
      have HX := Lib.hid hx
      clear hx hxv
      obtain ⟨Z, hZ⟩ : ∃ Z, number (((unpack B).drop m).take a) = Z := ⟨_, rfl⟩
      have hZ2 : Z < 2 ^ a := by
        have := number_lt (((unpack B).drop m).take a)
        rw [hZ] at this
        exact Nat.lt_of_lt_of_le this (Nat.pow_le_pow_right (by omega) (by simp; omega))
      rw [hZ]
      have HZ := Lib.hid hZ
      have HZ2 := Lib.hid hZ2
      clear hZ hZ2
      go_upto_region 6 with fail
      go_cut [8] (fun s8 wx => (∃ k : Nat, s8 = .int .i64 k ∧ 0 < k ∧ k ≤ g ∧ k + p % 8 ≤ 8) ∧ wr = wx)
      case first =>
        go_wp2_with fail
        all_goals go_meet
        · exact ⟨⟨g, rfl, hg0, Nat.le_refl _, by omega⟩, rfl⟩
        · exact ⟨⟨8 - p % 8, by go_num, by omega, by omega, by omega⟩, rfl⟩
      case rest =>
        obtain ⟨⟨k, rfl, hk0, hk1, hk2⟩, rfl⟩ := hcut
        obtain ⟨g', rfl⟩ : ∃ g', g = g' + k := ⟨g - k, by omega⟩
        obtain ⟨s, hs⟩ : ∃ s, p % 8 + k + s = 8 := ⟨8 - p % 8 - k, by omega⟩
        have hs1 : (8 : Int) - (p : Int) % 8 = ((k + s : Nat) : Int) := by omega
        rw [hs1]
        clear hs1
        have HS := Lib.hid hs
        clear hs
        have hs2 : s ≤ 8 := by have := HS.out; omega
        have hk8 : k ≤ 8 := by omega
        obtain ⟨c, hc⟩ : ∃ c, x / 2 ^ s % 2 ^ k = c := ⟨_, rfl⟩
        have hcall : ∀ q, Calls Try.prog 21 #[.int .u64 ((x : Int) / 2 ^ s), .int .i64 k] (wr.drewN q) (fun e w'' => e = .returned (.int .u64 (c : Int)) ∧ w'' = wr.drewN q) := by
          intro q
          have h := lowest_any (x / 2 ^ s) k (wr.drewN q) (Nat.lt_of_le_of_lt (Nat.div_le_self _ _) (by omega)) (by omega)
          rw [hc] at h
          have e : ((x / 2 ^ s : Nat) : Int) = (x : Int) / 2 ^ s := by simp
          rw [e] at h
          exact h.mono fun _ _ ⟨h1, h2⟩ => ⟨h1, h2.symm⟩
        have HC := Lib.hid hc
        have HCall := Lib.hid hcall
        clear hc hcall
        go_wp2_with fail
        go_quiet ((go_at_call 21; exact Calls.quiet_of_same (HCall.out _)))
        go_wp2_with fail
        go_roundg g'
        case measure => omega
        case rel =>
          have e1 : n - g' = a + k := by have := HA.out; omega
          have e2 : m + (n - g') = p + k := by have := HA.out; have := HP.out; omega
          refine ⟨by omega, rfl, ?_, ⟨_, ?_, ?_, hsv, hne⟩, ?_⟩
          · rw [e1, number_next B m a k s x (by rw [HP.out]; exact HS.out) (by rw [HP.out]; exact hp8) (by rw [HP.out]; exact HX.out) (by have := HA.out; omega), HZ.out, HC.out]
            rw [get_word Z c k a HZ2.out (by rw [← HC.out]; exact Nat.mod_lt _ (Nat.two_pow_pos k)) (by have := HA.out; omega)]
          · rw [e2]
            have hBd : Blk (wr.drewN nq) b #[.slice (some ⟨gb, 0, none⟩) B.length cap, .int .i64 p] 52 := hB
            have h1 := hBd.setCell 1 (.int .i64 ((p + k : Nat) : Int))
            simpa using h1
          · have hod : (wr.drewN nq).ownsRow 0 5 1 (.slice (some ⟨gb, 0, none⟩) B.length cap) B.length (U8s B) := hown
            exact ownsRow_set_other hod _ _ (fun h => hne (hsv.symm.trans h))
          · have hod : Only (One b) w (wr.drewN nq) := ⟨ho.os, ho.tape, ho.output, ho.size, ho.block⟩
            exact Only.setCell' (One b) hod rfl _
    · have hg0' : g = 0 := by omega
      subst hg0'
      go_wp2_with fail
      go_ret2
      have e : a = n := by have := HA.out; omega
      subst e
      exact ⟨rfl, hR3, ho⟩

/-- Get refuses: a size that is none, or fewer bits left. -/
theorem get_none (b m : Nat) (n : Int) (B : List Nat) (w : World) {r : Option Nat} (hR : RRep w b B m r) (hm : m ≤ 8 * B.length) (hl : B.length ≤ 1099511627776) (hn : ¬ (0 ≤ n ∧ n ≤ 64 ∧ n ≤ (8 * B.length - m : Nat))) :
    Calls Try.prog 16 #[.pointer (some ⟨b, 0, none⟩), .int .i64 n] w fun e w' =>
      e = .returned (.tuple #[.int .u64 0, .bool false]) ∧ ∃ q, w' = w.drewN q := by
  by_cases hf0 : 0 ≤ n ∧ n ≤ 64
  · have hf : fitsB n = true := by simp [fitsB]; omega
    obtain ⟨k, rfl⟩ := Int.eq_ofNat_of_zero_le hf0.1
    have hgt : decide (8 * B.length - m < k) = true := by simp; omega
    clear hn hf0
    go_enter Try.func16, Try.ntmps16
    go_wp2_with (first
      | (go_at_call 20; refine (sizeFits_any _ _).mono ?_; rintro e w' ⟨rfl, rfl⟩)
      | (go_at_call 18; refine (left_any b m B w hR hm hl).mono ?_; rintro e w' ⟨rfl, q, rfl⟩))
    go_ret2
    exact ⟨rfl, q, rfl⟩
  · have hf : fitsB n = false := by simp [fitsB]; omega
    clear hn hf0
    go_enter Try.func16, Try.ntmps16
    go_wp2_with (go_at_call 20; refine (sizeFits_any _ _).mono ?_; rintro e w' ⟨rfl, rfl⟩)
    go_ret2
    exact ⟨rfl, 0, rfl⟩

theorem put_none (b : Nat) (v n : Int) (w : World) (hf : fitsB n = false) :
    Calls Try.prog 9 #[.pointer (some ⟨b, 0, none⟩), .int .u64 v, .int .i64 n] w fun e w' => e = .returned (.bool false) ∧ w = w' := by
  go_enter Try.func9, Try.ntmps9
  go_wp2_with (go_at_call 20; refine (sizeFits_any _ _).mono ?_; rintro e w' ⟨rfl, rfl⟩)
  go_ret
  exact ⟨rfl, rfl⟩
end Go.Proofs.Ytiikkngllmdljaa
