/- A port that is filled. -/
import Derived.Test.YtpadipjppncabaaPKnow
set_option linter.unusedSimpArgs false
set_option linter.unusedVariables false
namespace Go.Proofs.Ytpadipjppncabaa
open Go.RowKit Go.Conc M

theorem B8_at {l : List Int} {k : Nat} {x : Int} (h : l[k]? = some x) : (B8 l)[k]? = some (.int .u8 x) := by simp [B8, h]
theorem fill_step (l : List Int) (cap k : Nat) (x : Int) (h : l[k]? = some x) : (if fits cap (l.take (min k cap)) false then l.take (min k cap) ++ [x] else l.take (min k cap)) = l.take (min (k + 1) cap) := by
  obtain ⟨hk, hx⟩ := List.getElem?_eq_some_iff.1 h
  by_cases g : k < cap
  · have e1 : min k cap = k := by omega
    have e2 : min (k + 1) cap = k + 1 := by omega
    have hf : fits cap (l.take k) false = true := by simp [fits]; omega
    rw [e1, e2, if_pos hf, List.take_succ_eq_append_getElem hk, hx]
  · have e1 : min k cap = cap := by omega
    have e2 : min (k + 1) cap = cap := by omega
    have hf : fits cap (l.take cap) false = false := by simp [fits]; omega
    rw [e1, e2, hf]
    simp

set_option maxRecDepth 100000 in
set_option maxHeartbeats 3200000 in
theorem filled_any (room : Int) (b : Nat) (sv : Value) (l : List Int) (w : World) (hs : Src w b sv (B8 l)) (hn : l.length ≤ 1000) :
    Calls Try.prog 14 #[.int .i64 room, sv] w fun e w' => ∃ p c, e = .returned (ptr p) ∧ PAt w' p c (capOf room) (l.take (capOf room)) false ∧ c = w.heap.size ∧ p = c + 1 ∧ Only Nil w w' := by
  have cN := newP room w
  obtain ⟨ao, cap, off, rfl, p1, p2, p3⟩ := id hs
  rw [B8_len] at p1 ⊢
  obtain ⟨n, hnn⟩ : ∃ n, l.length = n := ⟨_, rfl⟩
  rw [hnn] at p1 hn ⊢
  have HN := Lib.hid hnn
  have H1 := Lib.hid p3
  have G1 := Lib.hid p1
  obtain ⟨C, hC⟩ : ∃ C, capOf room = C := ⟨_, rfl⟩
  rw [hC] at cN ⊢
  clear p1 p2 p3 hs hnn hC
  go_enter Try.func14, Try.ntmps14
  go_wp2_with fail
  refine cN.mono ?_
  rintro e w1 ⟨rfl, h1, o1⟩
  obtain ⟨c, hcc⟩ : ∃ c, w.heap.size = c := ⟨_, rfl⟩
  rw [hcc] at h1
  obtain ⟨p, hp⟩ : ∃ p, c + 1 = p := ⟨_, rfl⟩
  rw [hp] at h1
  have HC := Lib.hid hcc
  have HP := Lib.hid hp
  have O1 := Lib.hid o1
  have HA := Lib.hid h1
  unfold ptr
  clear cN o1 h1
  rw [hcc, hp]
  clear hcc hp
  go_wp2_with fail
  go_loopg [6] n (fun g i wr => ∃ (k : Nat), i = .int .i64 (k : Int) ∧ k ≤ n ∧ g = n - k ∧ PAt wr p c C (l.take (min k C)) false ∧ Only Nil w wr)
  case atStart => exact ⟨0, rfl, Nat.zero_le _, rfl, by rw [Nat.zero_min]; exact HA.out, O1.out⟩
  case round =>
    clear HA O1
    obtain ⟨k, rfl, hk, hg, hA, ho⟩ := hrel
    have HG := Lib.hid hg
    have HO := Lib.hid ho
    clear hg
    have k0 : (0 : Int) ≤ (k : Int) := Int.natCast_nonneg _
    by_cases hkn : k < n
    · have k1 : (k : Int) < (n : Int) := by omega
      obtain ⟨x, hx⟩ : ∃ x, l[k]? = some x := ⟨_, List.getElem?_eq_getElem (by rw [HN.out]; exact hkn)⟩
      have e1 := G1.out (by omega)
      subst e1
      have t1 := ho.cell (H1.out k _ (B8_at hx)) (fun h => h)
      have hlt := World.block_lt_of_cell? wr _ t1
      have cO := offerP hA x
      rw [fill_step l C k x hx] at cO
      obtain ⟨bl, hbl⟩ : ∃ bl, fits C (l.take (min k C)) false = bl := ⟨_, rfl⟩
      rw [hbl] at cO
      unfold ptr at cO
      clear hA hbl ho hx
      go_wp2_with fail
      refine cO.mono ?_
      rintro e w2 ⟨rfl, h2, o2⟩
      have H2 := Lib.hid h2
      have O2 := Lib.hid (HO.out.trans o2 (fun i hi h => by have := HC.out; have := HP.out; rcases h with h | h <;> omega))
      clear cO h2 o2
      go_wp2_with fail
      go_roundg (n - (k + 1))
      case measure => have := HG.out; omega
      case rel => exact ⟨k + 1, by go_num, by omega, rfl, H2.out, O2.out⟩
    · have hkn' : k = n := by omega
      subst hkn'
      have k1 : (k : Int) ≤ (k : Int) := Int.le_refl _
      have HA := Lib.hid hA
      clear hA ho
      go_wp2_with fail
      go_ret
      have e9 : l.take (min k C) = l.take C := by rw [← HN.out, List.take_eq_take_iff]; omega
      exact ⟨p, c, rfl, by rw [← e9]; exact HA.out, HC.out.symm, HP.out.symm, HO.out⟩
end Go.Proofs.Ytpadipjppncabaa
