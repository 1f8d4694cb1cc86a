/- The chapter's example. -/
import Derived.Test.YtiikkngllmdljaaPut
import Derived.Test.YtiikkngllmdljaaLists
import Derived.Test.YtiikkngllmdljaaRest
namespace Go.Proofs.Ytiikkngllmdljaa
open Go.RowKit M

theorem bytes_rep (b : Nat) (L : List Bool) (r : Option Nat) (w : World) (h : WRep w b L r) (hl : L.length ≤ 1099511627776) :
    Calls Try.prog 12 #[.pointer (some ⟨b, 0, none⟩)] w (NewRow 5 w (U8s (pack L))) := by
  obtain ⟨sv, hB, hown, _, _⟩ := h
  exact bytes_any b (sv.ownBlock.getD 0) sv _ (U8s (pack L)) w hB (Src.of_own hown) (U8s_one _) (by simp [U8s]; omega)

theorem len_rep (b : Nat) (L : List Bool) (r : Option Nat) (w : World) (h : WRep w b L r) :
    Calls Try.prog 11 #[.pointer (some ⟨b, 0, none⟩)] w fun e w' => e = .returned (.int .i64 L.length) ∧ w = w' := by
  obtain ⟨sv, hB, hown, _, _⟩ := h
  have c1 := hB.cell 1
  simp at c1
  exact len_any ⟨b, 0, none⟩ L.length w c1

theorem WRep.kept {S : Nat → Prop} {w w' : World} {b : Nat} {L : List Bool} {r : Option Nat} (h : WRep w b L r) (ho : Only S w w') (hb : ¬ S b) (hr : ∀ k, r = some k → ¬ S k) : WRep w' b L r := by
  obtain ⟨sv, hB, hown, h1, h2⟩ := h
  exact ⟨sv, hB.kept ho hb, ownsRow_only hown ho (fun k hk => hr k (by rw [← h1]; exact hk)), h1, h2⟩
theorem RRep.kept {S : Nat → Prop} {w w' : World} {b m : Nat} {B : List Nat} {r : Option Nat} (h : RRep w b B m r) (ho : Only S w w') (hb : ¬ S b) (hr : ∀ k, r = some k → ¬ S k) : RRep w' b B m r := by
  obtain ⟨sv, hB, hown, h1, h2⟩ := h
  exact ⟨sv, hB.kept ho hb, ownsRow_only hown ho (fun k hk => hr k (by rw [← h1]; exact hk)), h1, h2⟩

theorem WRep.lt {w : World} {b : Nat} {L : List Bool} {r : Option Nat} (h : WRep w b L r) : b < w.heap.size ∧ ∀ k, r = some k → k < w.heap.size := by
  obtain ⟨sv, hB, hown, h1, h2⟩ := h
  exact ⟨hB.lt, fun k hk => (hown.lt k (by rw [h1]; exact hk)).2⟩
theorem RRep.lt {w : World} {b m : Nat} {B : List Nat} {r : Option Nat} (h : RRep w b B m r) : b < w.heap.size ∧ ∀ k, r = some k → k < w.heap.size := by
  obtain ⟨sv, hB, hown, h1, h2⟩ := h
  exact ⟨hB.lt, fun k hk => (hown.lt k (by rw [h1]; exact hk)).2⟩
theorem RRep.drewN {w : World} {b m : Nat} {B : List Nat} {r : Option Nat} (h : RRep w b B m r) (q : Nat) : RRep (w.drewN q) b B m r := h
theorem only_drewN {S : Nat → Prop} {a w : World} (h : Only S a w) (q : Nat) : Only S a (w.drewN q) := ⟨h.os, h.tape, h.output, h.size, h.block⟩

theorem WRep.new (w : World) : WRep (w.alloc (.cells #[.slice none 0 0, .int .i64 0] 47)) w.heap.size [] none :=
  ⟨_, Blk.new w _ _, World.ownsRow_nil _ _ _ _, rfl, by simp⟩

set_option maxHeartbeats 400000 in
theorem known_any (w : World) : Calls Try.prog 7 #[] w fun e w' => e = .returned (.bool true) ∧ Only Nil w w' := by
  go_enter Try.func7, Try.ntmps7
  go_wp2_with fail
  refine (newWriter_any w).mono ?_
  rintro e w1 ⟨rfl, hw1⟩
  have hW := WRep.new w
  rw [← hw1] at hW
  have ho : Only Nil w w1 := by rw [hw1]; exact (Only.refl _ _).alloc _
  have HW1 := Lib.hid hw1
  clear hw1
  go_wp2_with fail
  refine (put_any 5 3 w.heap.size [] none w1 (by omega) (by omega) hW (by simp)).mono ?_
  rintro e w2 ⟨rfl, r2, hW2, hr2, ho2⟩
  go_wp2_with fail
  refine (put_none w.heap.size 1 65 w2 (by decide)).mono ?_
  rintro e w2' ⟨rfl, rfl⟩
  have hpk : pack ([] ++ bitsOf 5 3) = [160] := by decide
  have hW2' := bytes_rep w.heap.size _ r2 w2 hW2 (by simp)
  rw [hpk] at hW2'
  go_wp2_with fail
  refine hW2'.mono ?_
  rintro e w3 ⟨sv3, rfl, hown3, ho3⟩
  go_wp2_with fail
  refine (newReader_any (sv3.ownBlock.getD 0) sv3 [160] w3 (Src.of_own hown3) (by simp)).mono ?_
  rintro e w4 ⟨a, r4, rfl, ha, hR4, hr4, ho4⟩
  go_wp2_with fail
  refine (get_any a 0 3 [160] w4 hR4 (by simp) (by simp) (by omega) (by simp)).mono ?_
  rintro e w5 ⟨he, hR5, ho5⟩
  have hn5 : number (((unpack [160]).drop 0).take 3) = 5 := by decide
  rw [hn5] at he
  subst he
  have s3 := ho3.size
  have s4 := ho4.size
  have s5 := ho5.size
  have l2 := hW2.lt
  have hW5 : WRep w5 w.heap.size ([] ++ bitsOf 5 3) r2 := by
    have h3 := hW2.kept ho3 (fun h => h) (fun _ _ h => h)
    have h4 := h3.kept ho4 (fun h => h) (fun _ _ h => h)
    exact h4.kept ho5 (fun h => by have : w.heap.size = a := h; omega) (fun k hk h => by have h1 : k = a := h; have := l2.2 k hk; omega)
  have hb5 := bytes_rep w.heap.size _ r2 w5 hW5 (by simp)
  rw [hpk] at hb5
  go_wp2_with fail
  refine hb5.mono ?_
  rintro e w6 ⟨sv6, rfl, hown6, ho6⟩
  have hcv := conv_src w6 _ sv6 [160] (Src.of_own hown6)
  have hst : strOf [160] = ⟨#[160]⟩ := by rfl
  rw [hst] at hcv
  have hlen := len_rep w.heap.size _ r2 w6 (hW5.kept ho6 (fun h => h) (fun _ _ h => h))
  have hl3 : ((([] ++ bitsOf 5 3).length : Nat) : Int) = 3 := by simp
  rw [hl3] at hlen
  have hR6 := hR5.kept ho6 (fun h => h) (fun _ _ h => h)
  have hleft := left_any a (0 + 3) [160] w6 hR6 (by simp) (by simp)
  have hl5 : ((8 * [160].length - (0 + 3) : Nat) : Int) = 5 := by simp
  rw [hl5] at hleft
  go_wp2_with (first
    | (go_at_call 11; refine hlen.mono ?_; rintro e w7 ⟨rfl, rfl⟩)
    | (go_at_call 18; refine hleft.mono ?_; rintro e w7 ⟨rfl, q, rfl⟩))
  refine (rest_any a (0 + 3) [160] _ (hR6.drewN q) (by simp) (by simp) (by simp)).mono ?_
  have hrest : restB [160] (0 + 3) = true := by decide
  rw [hrest]
  rintro e w8 ⟨rfl, q2, rfl⟩
  go_wp2_with fail
  go_ret
  refine ⟨rfl, ?_⟩
  have sz := ho.size
  have e1 : w1.heap.size = w.heap.size + 1 := by rw [HW1.out]; simp
  have t2 : Only Nil w w2 := ho.trans ho2 (fun i hi h => by rcases h with h | h; omega; cases h)
  have t5 : Only Nil w w5 := ((t2.trans ho3 (fun _ _ h => h)).trans ho4 (fun _ _ h => h)).trans ho5 (fun i hi h => by
    have h1 : i = a := h
    have := t2.size
    omega)
  exact only_drewN (t5.trans ho6 (fun _ _ h => h)) (q + q2)
end Go.Proofs.Ytiikkngllmdljaa
