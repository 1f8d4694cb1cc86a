import Derived.Test.YtiikkngllmdljaaLeaf
import Derived.Test.YtiikkngllmdljaaApp
import Derived.Test.YtiikkngllmdljaaPutM
import Derived.StillTailTactics
import Derived.Lib.Hide
import Derived.Deep.LoopGhost
import Derived.Deep.DeepCutAuto
namespace Go.Proofs.Ytiikkngllmdljaa
open Go.RowKit M


def WRep (w : World) (b : Nat) (L : List Bool) (r : Option Nat) : Prop :=
  ∃ sv, Blk w b #[sv, .int .i64 L.length] 47 ∧ w.ownsRow 0 5 1 sv (pack L).length (U8s (pack L)) ∧ sv.ownBlock = r ∧ r ≠ some b


def PutPost (w : World) (b : Nat) (L : List Bool) (r : Option Nat) (w' : World) : Prop :=
  ∃ r', WRep w' b L r' ∧ (r' = r ∨ ∃ k, r' = some k ∧ w.heap.size ≤ k) ∧ Only (fun k => k = b ∨ some k = r) w w'

/-- The round's state ahead of the store: the row is padded, so that there is a byte to write into. -/
def Padded (b M q : Nat) (P : List Nat) (r : Option Nat) (wr w' : World) : Prop :=
  ∃ g cap, Blk w' b #[.slice (some ⟨g, 0, none⟩) (q + 1) cap, .int .i64 M] 47 ∧ w'.ownsRow 0 5 1 (.slice (some ⟨g, 0, none⟩) (q + 1) cap) (q + 1) (U8s P) ∧
    (some g = r ∨ wr.heap.size ≤ g) ∧ g ≠ b ∧ Only (fun k => k = b ∨ some k = r) wr w'

theorem padded_new {wr w1 : World} {b M N g cap : Nat} {L : List Bool} {sv : Value} {r : Option Nat} (hM : M = L.length) (hN : N = (pack L).length) (hu : M % 8 = 0)
    (hsv : sv.ownBlock = r) (hne : r ≠ some b) (hB : Blk w1 b #[sv, .int .i64 M] 47) (hb : b < wr.heap.size)
    (hown : w1.ownsRow 0 5 1 (.slice (some ⟨g, 0, none⟩) (N + 1) cap) (N + 1) (U8s (pack L) ++ [.int .u8 0]))
    (hg : some g = sv.ownBlock ∨ wr.heap.size ≤ g) (ho : Only (Own sv.ownBlock) wr w1) :
    Padded b M (M / 8) (padP L) r wr (w1.setCell ⟨b, 0, none⟩ (.slice (some ⟨g, 0, none⟩) (N + 1) cap)) := by
  subst hsv
  have hgb : g ≠ b := by
    rintro rfl
    rcases hg with h | h
    · exact hne h.symm
    · omega
  have hN2 : N = M / 8 := by rw [hN, length_pack]; omega
  subst hN2
  refine ⟨g, cap, by simpa using hB.setCell 0 _, ?_, hg, hgb, ?_⟩
  · have : U8s (padP L) = U8s (pack L) ++ [.int .u8 0] := by rw [padP_new L (by omega)]; simp [U8s]
    rw [this]
    exact ownsRow_set_other hown _ _ (by simp [Value.ownBlock]; exact hgb)
  · exact Only.setCell' (fun k => k = b ∨ some k = sv.ownBlock) (ho.mono (fun k hk => Or.inr hk)) (Or.inl rfl) _

theorem padded_old {wr : World} {b M N : Nat} {L : List Bool} {sv : Value} {r : Option Nat} (hM : M = L.length) (hN : N = (pack L).length) (hu : ¬ M % 8 = 0)
    (hsv : sv.ownBlock = r) (hne : r ≠ some b) (hB : Blk wr b #[sv, .int .i64 M] 47)
    (hown : wr.ownsRow 0 5 1 sv N (U8s (pack L))) : Padded b M (M / 8) (padP L) r wr wr := by
  have hN2 : N = M / 8 + 1 := by rw [hN, length_pack]; omega
  obtain ⟨g, cap, rfl, _, _, _, _⟩ := ownsRow_shape hown (by omega)
  subst hN2
  refine ⟨g, cap, hB, ?_, Or.inl hsv, ?_, Only.refl _ _⟩
  · rw [padP_old L (by omega)]; exact hown
  · rintro rfl; exact hne hsv.symm

/-- What the round's end leaves. -/
theorem put_step {w wr wd : World} {b g cap q M k s c m n v : Nat} {L L' : List Bool} {r r' : Option Nat}
    (hL' : L' = L ++ bitsOf (v / 2 ^ (m + k)) (n - (m + k))) (hM : M = L'.length) (hq : M / 8 = q) (hs : M % 8 + k + s = 8) (hk : 0 < k) (hmn : m + k ≤ n) (hc : v / 2 ^ m % 2 ^ k = c)
    (hr : r' = r ∨ ∃ k, r' = some k ∧ w.heap.size ≤ k) (ho : Only (fun k => k = b ∨ some k = r) w wr)
    (hB : Blk wd b #[.slice (some ⟨g, 0, none⟩) (q + 1) cap, .int .i64 M] 47)
    (hown : wd.ownsRow 0 5 1 (.slice (some ⟨g, 0, none⟩) (q + 1) cap) (q + 1) (U8s (padP L')))
    (hg : some g = r' ∨ wr.heap.size ≤ g) (hgb : g ≠ b) (hod : Only (fun k => k = b ∨ some k = r') wr wd) (X : Value)
    (hX : X = .int .u8 ((byteAt L' q ||| c * 2 ^ s : Nat) : Int)) :
    ∃ r'', WRep ((wd.setCell ⟨g, q, none⟩ X).setCell ⟨b, 1, none⟩ (.int .i64 ((M : Int) + k))) b (L ++ bitsOf (v / 2 ^ m) (n - m)) r'' ∧
      (r'' = r ∨ ∃ k, r'' = some k ∧ w.heap.size ≤ k) ∧ Only (fun k => k = b ∨ some k = r) w ((wd.setCell ⟨g, q, none⟩ X).setCell ⟨b, 1, none⟩ (.int .i64 ((M : Int) + k))) := by
  have hnew : L ++ bitsOf (v / 2 ^ m) (n - m) = L' ++ bitsOf c k := by rw [hL', ← hc]; exact (bits_step L v n m k hmn).symm
  have hpk : pack (L' ++ bitsOf c k) = (padP L').set q (byteAt L' q ||| c * 2 ^ s) := by
    have := pack_put L' c k s hk (by rw [← hc]; exact Nat.mod_lt _ (Nat.two_pow_pos k)) (by omega)
    rw [show L'.length / 8 = q by omega] at this
    exact this
  have hfresh : some g = r ∨ w.heap.size ≤ g := by
    have := ho.size
    rcases hg with h | h
    · rcases hr with h2 | ⟨k, h2, h3⟩
      · left; rw [h, h2]
      · right; rw [h2] at h; injection h with h; omega
    · right; omega
  rw [hnew]
  refine ⟨some g, ⟨.slice (some ⟨g, 0, none⟩) (q + 1) cap, ?_, ?_, rfl, by simpa using hgb⟩, ?_, ?_⟩
  · have h1 := (hB.setOther ⟨g, q, none⟩ X hgb.symm).setCell 1 (.int .i64 ((M : Int) + k))
    have e : ((L' ++ bitsOf c k).length : Int) = (M : Int) + k := by rw [hM]; simp
    rw [e]
    simpa using h1
  · have h1 := (hown.stored q X).1
    have h2 := ownsRow_set_other h1 ⟨b, 1, none⟩ (.int .i64 ((M : Int) + k)) (by simpa [Value.ownBlock] using hgb)
    have e : U8s (pack (L' ++ bitsOf c k)) = (U8s (padP L')).set q X := by
      rw [hpk, hX]; simp [U8s, List.map_set]
    have e2 : (pack (L' ++ bitsOf c k)).length = q + 1 := by rw [hpk]; simp; omega
    rw [e, e2]
    exact h2
  · rcases hfresh with h | h
    · left; exact h
    · right; exact ⟨g, rfl, h⟩
  · have hw1 : Only (fun k => k = b ∨ some k = r' ∨ k = g) wr ((wd.setCell ⟨g, q, none⟩ X).setCell ⟨b, 1, none⟩ (.int .i64 ((M : Int) + k))) :=
      Only.setCell' (fun k => k = b ∨ some k = r' ∨ k = g) (Only.setCell' (fun k => k = b ∨ some k = r' ∨ k = g) (hod.mono (fun i hi => hi.imp id Or.inl)) (Or.inr (Or.inr rfl)) _) (Or.inl rfl) _
    refine ho.trans hw1 ?_
    rintro i hi (h | h | h)
    · exact Or.inl h
    · rcases hr with h2 | ⟨k, h2, h3⟩
      · right; rw [h, h2]
      · rw [h2] at h; injection h with h; omega
    · subst h
      rcases hfresh with h | h
      · right; exact h
      · omega

/-- The byte as the walk reckons it. -/
theorem put_byte (x c s k : Nat) (hx : x < 256) (hc : c < 2 ^ k) (hks : k + s ≤ 8) :
    bits BinOp.or IntKind.u8 (x : Int) (IntKind.u64.wrap ((c : Int) * 2 ^ s) % 256) = ((x ||| c * 2 ^ s : Nat) : Int) := by
  have h1 : c * 2 ^ s < 256 := by
    have h2 : c * 2 ^ s < 2 ^ k * 2 ^ s := Nat.mul_lt_mul_of_pos_right hc (Nat.two_pow_pos s)
    rw [← Nat.pow_add] at h2
    have h3 : 2 ^ (k + s) ≤ 2 ^ 8 := Nat.pow_le_pow_right (by omega) hks
    omega
  have e : (c : Int) * 2 ^ s = ((c * 2 ^ s : Nat) : Int) := by simp
  rw [e, wrap_u64, Nat.mod_eq_of_lt (by omega), show ((c * 2 ^ s : Nat) : Int) % 256 = ((c * 2 ^ s : Nat) : Int) by omega, bits_or_u8 _ _ hx h1]

set_option maxHeartbeats 400000 in
theorem put_any (v n b : Nat) (L : List Bool) (r : Option Nat) (w : World) (hv : v < 18446744073709551616) (hn : n ≤ 64) (hw : WRep w b L r) (hL : L.length ≤ 1099511627776) :
    Calls Try.prog 9 #[.pointer (some ⟨b, 0, none⟩), .int .u64 v, .int .i64 n] w fun e w' => e = .returned (.bool true) ∧ PutPost w b (L ++ bitsOf v n) r w' := by
  have hf : fitsB n = true := by simp [fitsB]; omega
  go_enter Try.func9, Try.ntmps9
  go_wp2_with (go_at_call 20; refine (sizeFits_any _ _).mono ?_; rintro e w' ⟨rfl, rfl⟩)
  go_loopg [2] n (fun m t wr => m ≤ n ∧ t = .int .i64 m ∧ ∃ r', WRep wr b (L ++ bitsOf (v / 2 ^ m) (n - m)) r' ∧ (r' = r ∨ ∃ k, r' = some k ∧ w.heap.size ≤ k) ∧ Only (fun k => k = b ∨ some k = r) w wr)
  case atStart => exact ⟨Nat.le_refl _, rfl, r, by simpa [bitsOf] using hw, Or.inl rfl, Only.refl _ _⟩
  case round =>
    obtain ⟨hm, rfl, r', hW, hr, honly⟩ := hrel
    obtain ⟨m, rfl⟩ : ∃ m, m = gk := ⟨gk, rfl⟩
    obtain ⟨L', hL'⟩ : ∃ L', L' = L ++ bitsOf (v / 2 ^ m) (n - m) := ⟨_, rfl⟩
    rw [← hL'] at hW
    have HL := Lib.hid hL'
    clear hL' hw
    have hML : L'.length ≤ 1099511627840 := by rw [HL.out]; simp; omega
    have HW := Lib.hid hW
    obtain ⟨sv, hB, hown, hsv, hne⟩ := hW
    obtain ⟨M, hM⟩ : ∃ M, M = L'.length := ⟨_, rfl⟩
    obtain ⟨N, hN⟩ : ∃ N, N = (pack L').length := ⟨_, rfl⟩
    have hN1 : N ≤ 1099511627840 := by rw [hN, length_pack]; omega
    rw [← hM] at hB hML
    rw [← hN] at hown
    have HM := Lib.hid hM
    have HN := Lib.hid hN
    clear hM hN
    by_cases hm0 : 0 < m
    · have c0 := hB.cell 0
      have c1 := hB.cell 1
      have f0 := hB.free 0
      have f1 := hB.free 1
      simp at c0 c1
      obtain ⟨i0, hi, hz0, hz1, hz2⟩ := info_parts Try.info5
      go_upto_if 21 with fail
      go_cut [7] (fun s7 wx => s7 = .int .i64 ((M % 8 : Nat) : Int) ∧ Padded b M (M / 8) (padP L') r' wr wx)
      case first =>
        by_cases hu : M % 8 = 0
        · have t1 : (((M : Int) % 8) == 0) = true := by rw [beq_iff_eq]; omega
          have HU := Lib.hid hu
          clear hu
          go_wp2_with (with_reducible refine wpList_append_one rfl _ _ 33 rfl 0 5 i0 (.int .u8 0) 1 Try.underlying33 hi hz0 hz1 hz2 rfl _ _ _ rfl hown (.int .u8 0) rfl rfl ?c1 ?c2 (Nat.zero_le _) ?_)
          case c1 => simp [maxLen]; omega
          case c2 => simp; omega
          intro g cap w1 hown1 hc1 hc2 hg1 ho1
          have hB1 := hB.kept ho1 (fun h => hne (Eq.symm h))
          have d0 := hB1.cell 0
          have d1 := hB1.cell 1
          have e0 := hB1.free 0
          have e1 := hB1.free 1
          simp at d0 d1
          clear c0 c1 f0 f1
          go_wp2_with fail
          go_meet
          case rel => exact ⟨by go_num, padded_new HM.out HN.out HU.out hsv hne hB1 hB.lt hown1 (by rw [hsv]; exact hg1) (by rw [hsv]; exact ho1)⟩
        · have t1 : (((M : Int) % 8) == 0) = false := by rw [beq_eq_false_iff_ne]; omega
          have HU := Lib.hid hu
          clear hu
          go_wp2_with fail
          go_meet
          case rel => exact ⟨by go_num, padded_old HM.out HN.out HU.out hsv hne hB hown⟩
      case rest =>
        obtain ⟨rfl, hP⟩ := hcut
        obtain ⟨g, cap, hB2, hown2, hg2, hgb, ho2⟩ := hP
        clear c0 c1 f0 f1 hB hown
        have c0 := hB2.cell 0
        have c1 := hB2.cell 1
        have f0 := hB2.free 0
        have f1 := hB2.free 1
        simp at c0 c1
        go_upto_region 8 with fail
        go_cut [9] (fun s9 wx => (∃ k : Nat, s9 = .int .i64 k ∧ 0 < k ∧ k ≤ m ∧ k + M % 8 ≤ 8) ∧ wc = wx)
        case first =>
          go_wp2_with fail
          all_goals go_meet
          · exact ⟨⟨m, rfl, hm0, Nat.le_refl _, by omega⟩, rfl⟩
          · exact ⟨⟨8 - M % 8, by go_num, by omega, by omega, by omega⟩, rfl⟩
        case rest =>
          obtain ⟨⟨k, rfl, hk0, hk1, hk2⟩, rfl⟩ := hcut
          obtain ⟨m', rfl⟩ : ∃ m', m = m' + k := ⟨m - k, by omega⟩
          go_wp2_with fail
          obtain ⟨s, hs⟩ : ∃ s, M % 8 + k + s = 8 := ⟨8 - M % 8 - k, by omega⟩
          have hs1 : (8 : Int) - (M : Int) % 8 = ((k + s : Nat) : Int) := by omega
          rw [hs1]
          clear hs1
          obtain ⟨q, hq⟩ : ∃ q, M / 8 = q := ⟨_, rfl⟩
          rw [hq] at c0 hown2
          have HS := Lib.hid hs
          have HQ := Lib.hid hq
          clear hs hq
          have hq1 : q ≤ 1099511627840 := by have := HQ.out; omega
          have hs2 : s ≤ 8 := by have := HS.out; omega
          have hlen := hown2.1
          obtain ⟨x, hxe⟩ : ∃ x : Nat, byteAt L' q = x := ⟨_, rfl⟩
          have hx2 : x < 256 := by rw [← hxe]; exact byteAt_lt _ _
          have hx : (U8s (padP L'))[q]? = some (.int .u8 x) := by
            have := getElem?_padP L'
            rw [← HM.out, HQ.out, hxe] at this
            simp [U8s, this]
          have HXE := Lib.hid hxe
          clear hxe
          have cq := hown2.cellAt q (by omega)
          have fq := hown2.frozenAt q
          rw [hx] at cq
          have HX := Lib.hid hx
          have HLen := Lib.hid hlen
          clear hx hlen
          have w1 : IntKind.i64.wrap (q : Int) = q := IntWalk.i64_in _ (by omega)
          have w2 : (0 : Int) ≤ (q : Int) := by omega
          have w3 : (q : Int) < (q : Int) + 1 := by omega
          have w4 : IntKind.i64.wrap ((k : Int) + (s : Int) - (k : Int)) = s := by rw [show ((k : Int) + (s : Int) - (k : Int)) = s by omega]; exact IntWalk.i64_in _ (by omega)
          have w5 : (m' : Int) ≤ 64 := by omega
          have w6 : (s : Int) ≤ 64 := by omega
          obtain ⟨c, hc⟩ : ∃ c, v / 2 ^ m' % 2 ^ k = c := ⟨_, rfl⟩
          have hcall : Calls Try.prog 21 #[.int .u64 ((v : Int) / 2 ^ m'), .int .i64 k] wc.drew (fun e w'' => e = .returned (.int .u64 (c : Int)) ∧ w'' = wc.drew) := by
            have h := lowest_any (v / 2 ^ m') k wc.drew (Nat.lt_of_le_of_lt (Nat.div_le_self _ _) hv) (by omega)
            rw [hc] at h
            have e : ((v / 2 ^ m' : Nat) : Int) = (v : Int) / 2 ^ m' := by simp
            rw [e] at h
            exact h.mono fun _ _ ⟨h1, h2⟩ => ⟨h1, h2.symm⟩
          have HC := Lib.hid hc
          clear hc
          refine wp_region_still_tail 24 (by kernel_rfl) (by kernel_rfl) ?_
          simp only [List.take_succ_cons, List.take_zero, List.drop_succ_cons, List.drop_zero]
          simp only [World.drew_eq]
          repeat still_step
          still_call hcall
          repeat still_step
          refine wpStill_nil ?_
          have hBd : Blk wc.drew b #[.slice (some ⟨g, 0, none⟩) (q + 1) cap, .int .i64 M] 47 := by rw [← HQ.out]; exact hB2.drew
          have hownd : wc.drew.ownsRow 0 5 1 (.slice (some ⟨g, 0, none⟩) (q + 1) cap) (q + 1) (U8s (padP L')) := hown2.drew
          have hod : Only (fun k => k = b ∨ some k = r') wr wc.drew := ho2.drew
          clear hcall c0 c1 f0 f1 cq fq hB2 hown2 ho2
          generalize wc.drew = wd at *
          clear wc
          have cq := hownd.cellAt q (by omega)
          have fq := hownd.frozenAt q
          rw [HX.out] at cq
          have d1 : ∀ u, (wd.setCell ⟨g, q, none⟩ u).cell? ⟨b, 1, none⟩ = some (.int .i64 M) := fun u => (hBd.setOther _ u hgb.symm).cell 1
          have d2 : ∀ u, (wd.setCell ⟨g, q, none⟩ u).frozen? ⟨b, 1, none⟩ = false := fun u => (hBd.setOther _ u hgb.symm).free 1
          go_wp2_with fail
          go_roundg m'
          case measure => omega
          case rel =>
            refine ⟨by omega, rfl, ?_⟩
            refine put_step HL.out HM.out HQ.out HS.out hk0 hm HC.out hr honly hBd hownd hg2 hgb hod _ ?_
            rw [put_byte x c s k hx2 (by rw [← HC.out]; exact Nat.mod_lt _ (Nat.two_pow_pos k)) (by have := HS.out; omega), HXE.out]
    · have hm0' : m = 0 := by omega
      subst hm0'
      go_wp2_with fail
      go_ret
      exact ⟨rfl, r', by have := HW.out; rw [HL.out] at this; simpa using this, hr, honly⟩
end Go.Proofs.Ytiikkngllmdljaa
