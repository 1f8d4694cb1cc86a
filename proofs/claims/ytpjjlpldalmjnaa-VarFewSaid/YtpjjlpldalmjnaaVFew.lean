/- The walk of the law VarFew. -/
import Derived.Test.YtpjjlpldalmjnaaVKnown
namespace Go.Proofs.Ytpjjlpldalmjnaa
open Go.RowKit M

/-- How many bytes a number has more than none, if it isn't nought. -/
def tailLen (g : Nat) : Nat := if g = 0 then 0 else (putVar g).length
theorem putVar_tail (g : Nat) : (putVar g).length = 1 + tailLen (g / 128) := by
  unfold tailLen
  by_cases h : g < 128
  · rw [putVar_small h, if_pos (by omega)]; rfl
  · rw [putVar_more h, if_neg (by omega), List.length_cons]; omega
theorem tail_step {g : Nat} (h : 0 < g) : tailLen g = 1 + tailLen (g / 128) := by
  rw [← putVar_tail, tailLen, if_neg (by omega)]

set_option maxHeartbeats 800000 in
theorem few_any (a0 b cut : Nat) (w : World) (ha0 : a0 < 18446744073709551616) (hb : b < 18446744073709551616) (hcut : cut < 256) :
    Calls Try.prog 5 #[.int .u64 a0, .int .u64 b, .int .u8 cut] w fun e w' => e = .returned (.bool true) ∧ Only Nil w w' := by
  obtain ⟨t, ht⟩ : ∃ t, cut % 64 = t := ⟨_, rfl⟩
  have et : bits BinOp.and IntKind.u8 (cut : Int) 63 = (t : Int) := by rw [and_63 cut hcut, ht]
  have ht2 : t < 64 := by omega
  obtain ⟨a, haa⟩ : ∃ a, a0 / 2 ^ t = a := ⟨_, rfl⟩
  have ea : (a0 : Int) / 2 ^ t = (a : Int) := by rw [shr_eq, haa]
  have ha : a < 18446744073709551616 := by rw [← haa]; exact Nat.lt_of_le_of_lt (Nat.div_le_self _ _) ha0
  have pa := fun w => put_nil a w ha
  have pb := fun w => put_nil b w hb
  obtain ⟨la, hla⟩ : ∃ l, (putVar a).length = l := ⟨_, rfl⟩
  obtain ⟨lb, hlb⟩ : ∃ l, (putVar b).length = l := ⟨_, rfl⟩
  have hm1 : a ≤ b → la ≤ lb := fun h => by rw [← hla, ← hlb]; exact putVar_mono b a h
  have hm2 : b ≤ a → lb ≤ la := fun h => by rw [← hla, ← hlb]; exact putVar_mono a b h
  have hta : 1 + tailLen (a / 128) = la := by rw [← hla, putVar_tail]
  have hla10 : la ≤ 10 := by rw [← hla]; exact putVar_len a ha
  have hs : ∃ k : Nat, (1 : Int) = (k : Int) ∧ k + tailLen (a / 128) = la := ⟨1, rfl, hta⟩
  have HLA := Lib.hid hla
  have HLB := Lib.hid hlb
  have HM1 := Lib.hid hm1
  have HM2 := Lib.hid hm2
  clear ht haa hla hlb hm1 hm2 hta
  go_enter Try.func5, Try.ntmps5
  go_wp2_with (go_at_call 7; refine (known_any w).mono ?_; rintro e w1 ⟨rfl, ho1⟩)
  go_loopg [7, 8] (a / 128) (fun g n v wr => g < 18446744073709551616 ∧ v = .int .u64 (g : Int) ∧ w1 = wr ∧ ∃ k : Nat, n = .int .i64 k ∧ k + tailLen g = la)
  case atStart => 
    obtain ⟨k, h1, h2⟩ := hs
    exact ⟨by omega, by go_num, rfl, k, by rw [h1], h2⟩
  case round =>
    clear hs
    obtain ⟨hg, rfl, rfl, k, rfl, hk⟩ := hrel
    obtain ⟨g, rfl⟩ : ∃ g, g = gk := ⟨gk, rfl⟩
    have hk10 : k ≤ 10 := by omega
    by_cases hg0 : 0 < g
    · rw [tail_step hg0] at hk
      have HK := Lib.hid hk
      clear hk
      go_wp2_with fail
      go_roundg (g / 128)
      case measure => omega
      case rel => exact ⟨by omega, by go_num, rfl, k + 1, by go_num, by have := HK.out; omega⟩
    · have e0 : g = 0 := by omega
      have ek : k = la := by rw [e0] at hk; simpa [tailLen] using hk
      subst ek
      clear hk e0
      go_wp2_with fail
      refine (pa w1).mono ?_
      rintro e w2 ⟨s2, rfl, hown2, ho2⟩
      go_wp2_with fail
      refine (pb w2).mono ?_
      rintro e w3 ⟨s3, rfl, hown3, ho3⟩
      have ho := (ho1.trans ho2 (fun _ _ h => h)).trans ho3 (fun _ _ h => h)
      obtain ⟨ao2, cap2, off2, hs2, _, _, _⟩ := (Src.of_own hown2).opened (n := k) (by rw [U8s_len]; exact HLA.out)
      obtain ⟨ao3, cap3, off3, hs3, _, _, _⟩ := (Src.of_own hown3).opened (n := lb) (by rw [U8s_len]; exact HLB.out)
      clear hown2 hown3 ho1 ho2 ho3 pa pb
      subst hs2
      subst hs3
      by_cases hab : a ≤ b
      · have hl := HM1.out hab
        by_cases hll : k < lb
        · go_wp2_with fail
          go_ret
          exact ⟨rfl, ho⟩
        · have hlq : k = lb := by omega
          subst hlq
          go_wp2_with fail
          go_ret
          exact ⟨rfl, ho⟩
      · have hl := HM2.out (by omega)
        by_cases hll : lb < k
        · have hne : ((k : Int) == (lb : Int)) = false := by rw [beq_eq_false_iff_ne]; omega
          have hnl : decide (k < lb) = false := by simp; omega
          go_wp2_with fail
          go_ret
          exact ⟨rfl, ho⟩
        · have hlq : k = lb := by omega
          subst hlq
          go_wp2_with fail
          go_ret
          exact ⟨rfl, ho⟩
end Go.Proofs.Ytpjjlpldalmjnaa
