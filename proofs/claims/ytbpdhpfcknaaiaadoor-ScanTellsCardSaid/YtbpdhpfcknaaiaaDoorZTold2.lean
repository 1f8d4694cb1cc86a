/- Symbols: told is true of any text. -/
import Derived.Test.YtbpdhpfcknaaiaaDoorZTold
set_option linter.unusedSimpArgs false
set_option linter.unusedVariables false
namespace Go.Proofs.YtbpdhpfcknaaiaaDoor
open Go.RowKit M

theorem scanS_len (t : Txt) (kw) : ∀ k i L, scanS t kw k i = .ok L → L.length ≤ k
  | 0, i, L, h => by cases h
  | k + 1, i, L, h => by
    rw [scanS] at h
    split at h
    · cases h
    split at h
    · injection h with h; subst h; show 1 ≤ k + 1; omega
    · cases hs : symS t (skipE t i).1 with
      | error e => rw [hs] at h; cases h
      | ok x =>
        rw [hs] at h
        simp only at h
        cases hk : scanS t kw k x.fin with
        | error e => rw [hk] at h; cases h
        | ok l => rw [hk] at h; injection h with h; subst h; have := scanS_len t kw k x.fin l hk; show l.length + 1 ≤ k + 1; omega
theorem allS_ok (s : ByteArray) (n : Nat) (hn : s.size = n) (L) (h : allS s = .ok L) : L.length ≤ n + 1 := by
  unfold allS at h
  split at h
  · cases h
  · have := scanS_len _ _ _ _ _ h; rw [show (tx s).n = n from hn] at this; omega
theorem allS_err (s : ByteArray) (e) (h : allS s = .error e) : e.2 = 30 ∨ e.2 = 34 := by
  unfold allS at h
  split at h
  · injection h with h; subst h; exact .inr rfl
  · exact scanE_err _ _ _ _ (Nat.zero_le _) h

set_option maxRecDepth 10000 in
set_option maxHeartbeats 1600000 in
theorem told_any (s : ByteArray) (n : Nat) (hn : s.size = n) (hb : n ≤ 900000) (w : World) (hA : Asc w) :
    Calls Tryd.prog 7 #[.string s] w fun e w' => e = .returned (.bool true) ∧ Only Nil w w' := by
  have c1 := all_any s n hn (by omega) w hA
  have c2 := fun w => scanR_any s n hn (by omega) w
  cases hr : allS s with
  | error pk =>
    obtain ⟨p, k⟩ := pk
    have hk := allS_err s _ hr
    rw [hr] at c1 c2
    have hk0 : ((k : Int) == 0) = false := not_beq (by simp only at hk; omega)
    clear hr hk
    go_enter Tryd.func7, Tryd.ntmps7
    go_wp2_with fail
    refine c1.mono ?_
    rintro e w1 ⟨⟨b, rfl, d0, d1⟩, ho1⟩
    go_wp2_with fail
    refine (c2 _).mono ?_
    rintro e w2 ⟨rfl, ho2⟩
    have q0 := ho2.cell d0 (fun h => h)
    have q1 := ho2.cell d1 (fun h => h)
    have HO := Lib.hid (ho1.trans ho2 (fun _ _ h => h))
    clear d0 d1 c1 c2 ho1 ho2
    go_wp2_with fail
    go_ret
    exact ⟨rfl, HO.out⟩
  | ok L =>
    have hL := allS_ok s n hn L hr
    rw [hr] at c1 c2
    clear hr
    go_enter Tryd.func7, Tryd.ntmps7
    go_wp2_with fail
    refine c1.mono ?_
    rintro e w1 ⟨⟨v1, rfl, hown1⟩, ho1⟩
    go_wp2_with fail
    refine (c2 _).mono ?_
    rintro e w2 ⟨⟨v2, rfl, hown2⟩, ho2⟩
    have T1 := (TSrc.of_own hown1).kept ho2
    have T2 := TSrc.of_own hown2
    have cT := tokens_same _ _ v1 v2 s L w2 T1 T2 (by omega)
    have HO := Lib.hid (ho1.trans ho2 (fun _ _ h => h))
    clear c1 c2 ho1 ho2 hown1 hown2 T1 T2 hL
    go_wp2_with fail
    refine cT.mono ?_
    rintro e w3 ⟨rfl, ho3⟩
    clear cT
    go_wp2_with fail
    go_ret
    exact ⟨rfl, HO.out.trans ho3 (fun _ _ h => h)⟩
end Go.Proofs.YtbpdhpfcknaaiaaDoor
