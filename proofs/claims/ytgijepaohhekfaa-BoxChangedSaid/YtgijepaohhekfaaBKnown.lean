/- The chapter's example. -/
import Derived.Test.YtgijepaohhekfaaBWrap
import Derived.Test.YtgijepaohhekfaaBOpen1
namespace Go.Proofs.Ytgijepaohhekfaa
open Go.RowKit M

theorem mark_row (w : World) (B : List Nat) (m : Nat × Nat) (n : Nat) (hn : B.length = n) (hm : n ≤ maxLen) (h8 : ∀ x ∈ B, x < 256) : Row (w.alloc (.cells (U8s B).toArray 5 m)) (.slice (some ⟨w.heap.size, 0, none⟩) n n) B := by
  subst hn
  refine ⟨w.heap.size, _, _, 0, rfl, Nat.le_refl _, hm, fun _ => rfl, fun h => (by cases h), fun j u hj => ?_, h8⟩
  have : (w.alloc (.cells (U8s B).toArray 5 m)).heap[w.heap.size]? = some (.cells (U8s B).toArray 5 m) := by
    show (w.heap.push _)[w.heap.size]? = _
    simp
  simp only [World.cell?, this]
  simpa using hj
theorem nil_row (w : World) : Row w (.slice none 0 0) [] :=
  ⟨0, none, 0, 0, rfl, Nat.le_refl _, Nat.zero_le _, fun h => by simp at h, fun _ => rfl, fun i u hi => by simp [U8s] at hi, fun x hx => by simp at hx⟩

theorem open_val (s : Value) (B : List Nat) (w : World) (hs : Row w s B) (hl : B.length ≤ 100000) (k : Nat) (P : List Nat) (e : Nat) (hV : openV B = (k, P, e)) (K E : Int) (hK : K = k) (hE : E = e) (L : Nat) (hL : P.length = L) :
    Calls Try.prog 10 #[s] w fun en w' => ∃ sv, en = .returned (.tuple #[.int .u8 K, sv, .int .i64 E]) ∧ w'.ownsRow w.heap.size 5 1 sv L (U8s P) ∧ Only Nil w w' := by
  have h := open_any s B w hs hl
  rw [hV] at h
  subst hK hE hL
  exact h
theorem open_val1 (s : Value) (B : List Nat) (w : World) (hs : Row w s B) (hl : B.length ≤ 100000) (k : Nat) (P : List Nat) (e : Nat) (hV : openV B = (k, P, e)) (K E : Int) (hK : K = k) (hE : E = e) (L : Nat) (hL : P.length = L) :
    Calls Try.prog 13 #[s] w fun en w' => ∃ sv, en = .returned (.tuple #[.int .u8 K, sv, .int .i64 E]) ∧ w'.ownsRow w.heap.size 5 1 sv L (U8s P) ∧ Only Nil w w' := by
  have h := open_any1 s B w hs hl
  rw [hV] at h
  subst hK hE hL
  exact h
theorem openV_nil : openV [] = (0, [], 20) := by rfl

set_option maxRecDepth 100000 in
set_option maxHeartbeats 1600000 in
theorem known_any (w : World) :
    Calls Try.prog 7 #[] w fun e w' => e = .returned (.bool true) ∧ Only Nil w w' := by
  have hF := open_file 3 [97, 98] (by decide)
  have hFl : (fileOf 3 [97, 98]).length = 12 := by rw [fileOf_len, putVar_small (by decide)]; rfl
  have hF8 := fileOf_lt 3 [97, 98] (by decide) (by decide)
  have hwrap := fun w m => wrap_any 3 _ [97, 98] _ (mark_row w [97, 98] m 2 rfl (by decide) (by decide)) (by decide) (by decide)
  obtain ⟨F, hFd⟩ : ∃ F, fileOf 3 [97, 98] = F := ⟨_, rfl⟩
  simp only [hFd, hFl] at hF hFl hF8 hwrap
  have hopen := fun s w hs => open_val s F w hs (by rw [hFl]; decide) 3 [97, 98] 0 hF 3 0 rfl rfl 2 rfl
  have hopen0 := fun w => open_val _ [] w (nil_row w) (by decide) 0 [] 20 openV_nil 0 20 rfl rfl 0 rfl
  have hsum := fun w m => sum_any _ _ _ (mark_row w [87, 105, 107, 105, 112, 101, 100, 105, 97] m 9 rfl (by decide) (by decide))
  rw [show sumOf [87, 105, 107, 105, 112, 101, 100, 105, 97] = 300286872 by decide] at hsum
  have HOPEN := Lib.hid hopen
  have HSUM := Lib.hid hsum
  have HWRAP := Lib.hid hwrap
  have HF8 := Lib.hid hF8
  have HFL := Lib.hid hFl
  clear hopen hsum hwrap hF8 hFl hF hFd
  have kc := fun (w : World) (C : Array Value) (n c : Nat) => Lib.run_convert_bytes_const (P := Try.prog) w 22 5 C n c Try.underlying22 Try.underlying5
  go_enter Try.func7, Try.ntmps7
  go_wp2_with fail
  refine (HWRAP.out w _).mono ?_
  rintro e w2 ⟨v2, rfl, hown2, ho2⟩
  have ho02 : Only Nil w w2 := ((Only.refl Nil w).alloc _).trans ho2 (fun _ _ h => h)
  obtain ⟨ao2, cap2, off2, rfl, hx1, hx2, hx3⟩ := (Src.of_own hown2).opened (n := 12) (by rw [U8s_len]; exact HFL.out)
  have hrow2 := Row.of_own hown2 HF8.out
  clear ho2 hown2 hx1 hx2 hx3
  go_wp2_with fail
  refine (HOPEN.out _ w2 hrow2).mono ?_
  rintro e w3 ⟨v3, rfl, hown3, ho3⟩
  have ho03 := ho02.trans ho3 (fun _ _ h => h)
  have hsrc3 := Src.of_own hown3
  clear ho02 ho3 hrow2 hown3
  go_wp2_with fail
  refine (hopen0 w3).mono ?_
  rintro e w4 ⟨v4, rfl, _, ho4⟩
  have ho04 := ho03.trans ho4 (fun _ _ h => h)
  have hsrc4 := hsrc3.kept ho4 (fun _ h => h)
  clear ho03 ho4 hsrc3 hopen0
  go_wp2_with fail
  refine (HSUM.out w4 _).mono ?_
  rintro e w5 ⟨rfl, rfl⟩
  have hsrc5 := hsrc4.kept ((Only.refl Nil w4).alloc (.cells (U8s [87, 105, 107, 105, 112, 101, 100, 105, 97]).toArray 5 (9, 10))) (fun _ h => h)
  have hcv := conv_src _ _ v3 [97, 98] hsrc5
  rw [show strOf [97, 98] = { data := #[97, 98] } from rfl] at hcv
  have ho := ho04.alloc (.cells (U8s [87, 105, 107, 105, 112, 101, 100, 105, 97]).toArray 5 (9, 10))
  clear hsrc5 hsrc4 kc
  go_wp2_with fail
  go_ret
  exact ⟨rfl, ho⟩
end Go.Proofs.Ytgijepaohhekfaa
