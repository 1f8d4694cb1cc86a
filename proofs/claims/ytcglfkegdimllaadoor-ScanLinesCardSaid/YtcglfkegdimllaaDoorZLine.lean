/- Symbols: which line and column a place is in, both sides. -/
import Derived.Test.YtcglfkegdimllaaDoorZSigns
set_option linter.unusedSimpArgs false
set_option linter.unusedVariables false
namespace Go.Proofs.YtcglfkegdimllaaDoor
open Go.RowKit M

/-- The last LF below a place; -1: none. -/
def lastS (s : ByteArray) : Nat → Int
  | 0 => -1
  | i + 1 => if bt s i = 10 then (i : Int) else lastS s i
/-- How many LFs there are below a place. -/
def cntS (s : ByteArray) : Nat → Nat
  | 0 => 0
  | i + 1 => if bt s i = 10 then cntS s i + 1 else cntS s i
theorem lastS_bnd (s : ByteArray) : ∀ i, -1 ≤ lastS s i ∧ lastS s i < (i : Int)
  | 0 => ⟨Int.le_refl _, by show (-1 : Int) < 0; decide⟩
  | i + 1 => by
    have := lastS_bnd s i
    unfold lastS; split <;> constructor <;> omega
theorem cntS_le (s : ByteArray) : ∀ i, cntS s i ≤ i
  | 0 => Nat.le_refl _
  | i + 1 => by have := cntS_le s i; unfold cntS; split <;> omega
theorem cntS_list (s : ByteArray) : ∀ i, i ≤ s.size → Lib.countByte (s.data.toList.take i) 10 = cntS s i
  | 0, _ => rfl
  | i + 1, h => by
    have ih := cntS_list s i (by omega)
    have hl := size_list s
    rw [List.take_succ_eq_append_getElem (by omega)]
    unfold Lib.countByte at ih ⊢
    rw [List.count_append, ih, cntS]
    have hb : bt s i = (s.data.toList[i]'(by omega)).toNat := by unfold bt; rw [List.getElem?_eq_getElem (by omega)]; rfl
    by_cases g : bt s i = 10
    · rw [if_pos g]
      rw [hb] at g
      have : s.data.toList[i]'(by omega) = 10 := UInt8.toNat_inj.1 g
      rw [this]; rfl
    · rw [if_neg g]
      have : ¬ s.data.toList[i]'(by omega) = 10 := by intro h2; rw [hb, h2] at g; exact g rfl
      rw [List.count_cons, List.count_nil, if_neg (by intro h2; exact this (by simpa using h2)), Nat.add_zero]
theorem lastS_lib (s : ByteArray) (p : Nat) (hp : p ≤ s.size) : ∀ i, i ≤ p → Lib.lastIdx (s.extract 0 p) 10 i = lastS s i
  | 0, _ => rfl
  | i + 1, h => by
    have hl := size_list s
    have he : (s.extract 0 p).size = p := by rw [← size_list, ext_list, List.length_take, List.length_drop, size_list]; omega
    rw [Lib.lastIdx, lastS, lastS_lib s p hp i (by omega)]
    have e : ((s.extract 0 p).data[i]!).toNat = bt s i := by
      rw [LastIndex.byteBang _ i (by omega), bt_eq _ i (by omega)]
      unfold bt; rw [ext_list, List.drop_zero, Nat.sub_zero, List.getElem?_take_of_lt (by omega)]
    rw [e]
    by_cases g : bt s i = 10
    · rw [if_pos g, if_pos (by omega)]
    · rw [if_neg g, if_neg (by omega)]
/-- A place brought into a text. -/
def plS (n : Nat) (pos : Int) : Nat := (min (max pos 0) (n : Int)).toNat
theorem plS_eq (n : Nat) (pos : Int) : min (max pos 0) (n : Int) = (plS n pos : Int) := by unfold plS; omega
theorem plS_le (n : Nat) (pos : Int) : plS n pos ≤ n := by unfold plS; omega
/-- What both Lines tell. -/
def linV (s : ByteArray) (p : Nat) : Value := .tuple #[.int .i64 (1 + cntS s p : Nat), .int .i64 ((p : Int) - lastS s p)]
theorem retII {a b c d : Int} (h : a = b) (k : c = d) : Ending.returned (.tuple #[.int .i64 a, .int .i64 c]) = .returned (.tuple #[.int .i64 b, .int .i64 d]) := by rw [h, k]

set_option maxRecDepth 10000 in
set_option maxHeartbeats 1600000 in
theorem lineI_any (s : ByteArray) (n : Nat) (hn : s.size = n) (hb : n ≤ 1000000) (pos : Int) (w : World) :
    Calls Tryd.prog 19 #[.string s, .int .i64 pos] w fun e w' => e = .returned (linV s (plS n pos)) ∧ w = w' := by
  have hp := plS_eq n pos
  have hpn := plS_le n pos
  obtain ⟨p, hpp⟩ : ∃ p, plS n pos = p := ⟨_, rfl⟩
  rw [hpp] at hp hpn ⊢
  have he : (s.extract 0 p).size = p := by rw [← size_list, ext_list, List.length_take, List.length_drop, size_list]; omega
  have c1 := fun w => Tryd.strings_Count_one (s.extract 0 p) 10 w
  rw [ext_list, List.drop_zero, Nat.sub_zero, cntS_list s p (by omega)] at c1
  have c2 := fun w => Tryd.strings_LastIndexByte (s.extract 0 p) 10 (by omega) w
  unfold Lib.lastIndexByte at c2
  rw [he, lastS_lib s p (by omega) p (Nat.le_refl _)] at c2
  obtain ⟨l1, l2⟩ := lastS_bnd s p
  have l3 := cntS_le s p
  obtain ⟨c, hc⟩ : ∃ c, cntS s p = c := ⟨_, rfl⟩
  obtain ⟨l, hl⟩ : ∃ l, lastS s p = l := ⟨_, rfl⟩
  unfold linV
  rw [hc] at c1 l3 ⊢
  rw [hl] at c2 l1 l2 ⊢
  have p0 : (0 : Int) ≤ (p : Int) := Int.natCast_nonneg _
  have p1 : (p : Int) ≤ (n : Int) := by omega
  clear hc hl hpp
  go_enter Tryd.func19, Tryd.ntmps19
  go_wp2_with fail
  refine (c1 _).mono ?_
  rintro e w1 ⟨rfl, rfl⟩
  go_wp2_with fail
  refine (c2 _).mono ?_
  rintro e w1 ⟨rfl, rfl⟩
  go_wp2_with fail
  go_ret2
  exact ⟨retII (by go_num) (by go_num), rfl⟩
theorem placeH_any (k n : Int) (hn : 1 ≤ n) (hn2 : n ≤ 1000000) : ∃ p : Nat, (p : Int) < n ∧ ∀ w,
    Calls Tryd.prog 18 #[.int .i64 k, .int .i64 n] w fun e w' => e = .returned (.int .i64 p) ∧ w = w' := by
  have h1 := Int.lt_tmod_of_pos k (show (0 : Int) < n by omega)
  have h2 := Int.tmod_lt_of_pos k (show (0 : Int) < n by omega)
  obtain ⟨t, ht⟩ : ∃ t, k.tmod n = t := ⟨_, rfl⟩
  rw [ht] at h1 h2
  have hw : IntKind.i64.wrap t = t := by rw [IntKind.wrap_i64]; omega
  have hne : (n == 0) = false := not_beq (by omega)
  by_cases h0 : t < 0
  · obtain ⟨p, hp⟩ : ∃ p : Nat, t + n = p := ⟨(t + n).toNat, by omega⟩
    refine ⟨p, by omega, fun w => ?_⟩
    go_enter Tryd.func18, Tryd.ntmps18
    go_wp2
    go_ret
    exact ⟨by first | rfl | (rw [← hp]; rfl) | (rw [← hp, hw]; rfl), rfl⟩
  · obtain ⟨p, hp⟩ : ∃ p : Nat, t = p := ⟨t.toNat, by omega⟩
    refine ⟨p, by omega, fun w => ?_⟩
    go_enter Tryd.func18, Tryd.ntmps18
    go_wp2
    go_ret
    exact ⟨by first | rfl | (rw [← hp]; rfl) | (rw [← hp, hw]; rfl), rfl⟩

set_option maxRecDepth 10000 in
set_option maxHeartbeats 1600000 in
theorem lineR_any (s : ByteArray) (n : Nat) (hn : s.size = n) (hb : n ≤ 1000000) (pos : Int) (w : World) :
    Calls Tryd.prog 20 #[.string s, .int .i64 pos] w fun e w' => e = .returned (linV s (plS n pos)) ∧ w = w' := by
  have hp := plS_eq n pos
  have hpn := plS_le n pos
  obtain ⟨p, hpp⟩ : ∃ p, plS n pos = p := ⟨_, rfl⟩
  rw [hpp] at hp hpn ⊢
  clear hpp
  go_enter Tryd.func20, Tryd.ntmps20
  go_wp2_with fail
  go_loopg [6, 7, 8] p (fun g l c i wr => wr = w ∧ ∃ (k : Nat) (x : Nat) (y : Int), i = .int .i64 (k : Int) ∧ l = .int .i64 (x : Int) ∧ c = .int .i64 y ∧ k ≤ p ∧ g = p - k ∧ x = 1 + cntS s k ∧ y = (k : Int) - lastS s k ∧ x ≤ 1 + k ∧ 1 ≤ y ∧ y ≤ k + 1)
  case atStart => exact ⟨rfl, 0, 1, 1, rfl, rfl, rfl, Nat.zero_le _, rfl, rfl, rfl, by omega, by omega, by omega⟩
  case round =>
    obtain ⟨rfl, k, x, y, rfl, rfl, rfl, hk, hg, hx, hy, hx2, hy1, hy2⟩ := hrel
    have HG := Lib.hid hg
    have HX := Lib.hid hx
    have HY := Lib.hid hy
    clear hg hx hy
    have k0 : (0 : Int) ≤ (k : Int) := Int.natCast_nonneg _
    by_cases hkp : k < p
    · have k1 : (k : Int) < (p : Int) := by omega
      have ix := fun w => ix_at s n k hn (by omega) w
      by_cases g : bt s k = 10
      · have e1 : cntS s (k + 1) = cntS s k + 1 := by rw [cntS, if_pos g]
        have e2 : lastS s (k + 1) = (k : Int) := by rw [lastS, if_pos g]
        have E1 := Lib.hid e1
        have E2 := Lib.hid e2
        rw [g] at ix
        clear e1 e2 g
        go_wp2_with fail
        go_roundg (p - (k + 1))
        case measure => have := HG.out; omega
        case rel => exact ⟨rfl, k + 1, x + 1, 1, by go_num, by go_num, rfl, by omega, rfl, by rw [E1.out, HX.out]; omega, by rw [E2.out]; omega, by omega, by omega, by omega⟩
      · have e1 : cntS s (k + 1) = cntS s k := by rw [cntS, if_neg g]
        have e2 : lastS s (k + 1) = lastS s k := by rw [lastS, if_neg g]
        have E1 := Lib.hid e1
        have E2 := Lib.hid e2
        have g1 : ((bt s k : Int) == 10) = false := not_beq (by omega)
        obtain ⟨c, hc⟩ : ∃ c, bt s k = c := ⟨_, rfl⟩
        rw [hc] at ix g1
        clear e1 e2 g hc
        go_wp2_with fail
        go_roundg (p - (k + 1))
        case measure => have := HG.out; omega
        case rel => exact ⟨rfl, k + 1, x, y + 1, by go_num, rfl, by go_num, by omega, rfl, by rw [E1.out, HX.out], by rw [E2.out, HY.out]; omega, by omega, by omega, by omega⟩
    · have hkp' : k = p := by omega
      subst hkp'
      go_wp2_with fail
      go_ret2
      exact ⟨retII (by rw [← HX.out]) HY.out, rfl⟩

set_option maxRecDepth 10000 in
set_option maxHeartbeats 1600000 in
theorem lines_any (s : ByteArray) (n : Nat) (hn : s.size = n) (hb : n ≤ 9223372036854775807) (pos : Int) (hp1 : -9223372036854775808 ≤ pos) (hp2 : pos ≤ 9223372036854775807) (w : World) (hA : Asc w) :
    Calls Tryd.prog 6 #[.string s, .int .i64 pos] w fun e w' => e = .returned (.bool true) ∧ Only Nil w w' := by
  have cK := known11 w hA
  by_cases h300 : 300 < n
  · have t1 : (300 : Int) < (n : Int) := by omega
    have HB := Lib.hid hb
    clear hA hp1 hp2 hb
    go_enter Tryd.func6, Tryd.ntmps6
    go_wp2_with fail
    refine cK.mono ?_
    rintro e w1 ⟨rfl, ho1⟩
    clear cK
    go_wp2_with fail
    go_ret
    exact ⟨rfl, ho1⟩
  · have t1 : decide ((300 : Int) < (n : Int)) = false := by simp; omega
    have hb2 : n ≤ 300 := by omega
    have cI := fun pos w => lineI_any s n hn (by omega) pos w
    have cR := fun pos w => lineR_any s n hn (by omega) pos w
    obtain ⟨q, hq, cP⟩ := placeH_any pos ((n : Int) + 1) (by omega) (by omega)
    clear hA hb hp1 hp2
    go_enter Tryd.func6, Tryd.ntmps6
    go_wp2_with fail
    refine cK.mono ?_
    rintro e w1 ⟨rfl, ho1⟩
    clear cK
    go_wp2_with fail
    refine (cP _).mono ?_
    rintro e w2 ⟨rfl, rfl⟩
    clear cP
    go_wp2_with fail
    have hB0 := Blk.new w1 #[Value.int .i64 pos, .int .i64 (q : Int)] 3
    have ho2 : Only Nil w (w1.alloc (.cells #[Value.int .i64 pos, .int .i64 (q : Int)] 3)) := ho1.alloc _
    obtain ⟨w2, hw2⟩ : ∃ w2, w1.alloc (.cells #[Value.int .i64 pos, .int .i64 (q : Int)] 3) = w2 := ⟨_, rfl⟩
    rw [hw2] at hB0 ho2 ⊢
    obtain ⟨rb, hrb⟩ : ∃ rb, w1.heap.size = rb := ⟨_, rfl⟩
    rw [hrb] at hB0 ⊢
    have c0 := hB0.cell 0
    have c1 := hB0.cell 1
    simp only [List.getElem?_toArray, List.getElem?_cons_zero, List.getElem?_cons_succ] at c0 c1
    have hlt := hB0.lt
    have HO := Lib.hid ho2
    clear hw2 hrb hB0 ho1 ho2
    go_loopg [24] 2 (fun g i wr => wr = w2 ∧ ∃ (k : Nat), i = .int .i64 (k : Int) ∧ k ≤ 2 ∧ g = 2 - k)
    case atStart => exact ⟨rfl, 0, rfl, by omega, rfl⟩
    case round =>
      obtain ⟨rfl, k, rfl, hk, hg⟩ := hrel
      have HG := Lib.hid hg
      clear hg
      rcases (show k = 0 ∨ k = 1 ∨ k = 2 by omega) with rfl | rfl | rfl
      · skip
        obtain ⟨a, b, hab⟩ : ∃ a b, linV s (plS n pos) = .tuple #[.int .i64 a, .int .i64 b] := ⟨_, _, rfl⟩
        have dI := cI pos
        have dR := cR pos
        rw [hab] at dI dR
        clear cI cR hab
        go_wp2_with fail
        refine (dI _).mono ?_
        rintro e w9 ⟨rfl, rfl⟩
        go_wp2_with fail
        refine (dR _).mono ?_
        rintro e w9 ⟨rfl, rfl⟩
        go_wp2_with fail
        go_roundg 1
        case measure => have := HG.out; omega
        case rel => exact ⟨rfl, 1, by first | rfl | go_num, by omega, rfl⟩
      · skip
        obtain ⟨a, b, hab⟩ : ∃ a b, linV s (plS n (q : Int)) = .tuple #[.int .i64 a, .int .i64 b] := ⟨_, _, rfl⟩
        have dI := cI (q : Int)
        have dR := cR (q : Int)
        rw [hab] at dI dR
        clear cI cR hab
        go_wp2_with fail
        refine (dI _).mono ?_
        rintro e w9 ⟨rfl, rfl⟩
        go_wp2_with fail
        refine (dR _).mono ?_
        rintro e w9 ⟨rfl, rfl⟩
        go_wp2_with fail
        go_roundg 0
        case measure => have := HG.out; omega
        case rel => exact ⟨rfl, 2, by first | rfl | go_num, by omega, rfl⟩
      · go_wp2_with fail
        go_ret
        exact ⟨rfl, HO.out⟩
end Go.Proofs.YtcglfkegdimllaaDoor
