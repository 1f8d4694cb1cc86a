/- The laws' known: heights of three instructions. -/
import Derived.Test.YtbgmdckfkfkglaaHHtsR
import Derived.Test.YtbgmdckfkfkglaaHMade
set_option linter.unusedSimpArgs false
set_option linter.unusedVariables false
namespace Go.Proofs.Ytbgmdckfkfkglaa
open Go.RowKit M

set_option maxRecDepth 10000 in
set_option maxHeartbeats 1600000 in
theorem ints_same (b1 b2 : Nat) (s1 s2 : Value) (X : List Int) (w : World) (h1 : Src w b1 s1 (Ints X)) (h2 : Src w b2 s2 (Ints X)) (hl : X.length ≤ 1000) :
    Calls Try.prog 19 #[s1, s2] w fun e w' => e = .returned (.bool true) ∧ Only Nil w w' := by
  obtain ⟨n, hn⟩ : ∃ n, X.length = n := ⟨_, rfl⟩
  obtain ⟨ao1, cap1, off1, rfl, p2, p3, p4⟩ := h1
  obtain ⟨ao2, cap2, off2, rfl, q2, q3, q4⟩ := h2
  rw [Ints_len, hn] at p2 q2
  rw [Ints_len, hn]
  have HN := Lib.hid hn
  have H1 := Lib.hid p4
  have H2 := Lib.hid q4
  have G1 := Lib.hid p2
  have G2 := Lib.hid q2
  rw [hn] at hl
  clear hn p4 p3 p2 q4 q3 q2
  go_enter Try.func19, Try.ntmps19
  go_wp2_with fail
  go_loopg [5] n (fun m i wr => m ≤ n ∧ i = .int .i64 ((n - m : Nat) : Int) ∧ Only Nil w wr)
  case atStart => exact ⟨Nat.le_refl _, by simp, Only.refl _ _⟩
  case round =>
    obtain ⟨hm, rfl, ho⟩ := hrel
    obtain ⟨m, rfl⟩ : ∃ m, m = gk := ⟨gk, rfl⟩
    obtain ⟨k, hk⟩ : ∃ k, n - m = k := ⟨_, rfl⟩
    rw [hk]
    have hkn : k ≤ n := by omega
    have HK := Lib.hid hk
    clear hk
    by_cases hkl : k < n
    · have hkl2 : k < X.length := by rw [HN.out]; exact hkl
      obtain ⟨y, hy⟩ : ∃ y, X[k]? = some y := ⟨_, List.getElem?_eq_getElem hkl2⟩
      have hi : (Ints X)[k]? = some (.int .i64 y) := by simp [Ints, hy]
      have e1 := G1.out (by omega)
      have e2 := G2.out (by omega)
      subst e1
      subst e2
      have t1 := ho.cell (H1.out k _ hi) (fun h => h)
      have t2 := ho.cell (H2.out k _ hi) (fun h => h)
      have k0 : (0 : Int) ≤ (k : Int) := Int.natCast_nonneg _
      have k1 : (k : Int) < (n : Int) := by omega
      clear hi hy hkl2
      go_wp2_with fail
      go_quiet (fail)
      go_wp2_with fail
      go_roundg (m - 1)
      case measure => have := HK.out; omega
      case rel => exact ⟨by omega, by have := HK.out; go_num, M.Only.drewN ho _⟩
    · have hkl2 : k = n := by omega
      subst hkl2
      go_wp2_with fail
      go_ret
      exact ⟨rfl, ho⟩

def lK : List Cod := [⟨1, 4⟩, ⟨3, 0⟩, ⟨0, 0⟩]
def lK2 : List Cod := [⟨0, 0⟩, ⟨25, 9⟩]
theorem lK_chk : chk lK = none := by decide +kernel
theorem lK2_chk : chk lK2 = some 1 := by decide +kernel
def kK : Nat → Option Nat := fun i => if i = 0 then some 0 else if i = 1 then some 1 else if i = 2 then some 0 else none
theorem kK_cases {i h : Nat} (e : kK i = some h) : (i = 0 ∧ h = 0) ∨ (i = 1 ∧ h = 1) ∨ (i = 2 ∧ h = 0) := by
  unfold kK at e
  split at e
  · injection e; omega
  · split at e
    · injection e; omega
    · split at e
      · injection e; omega
      · cases e
theorem lK_told : Hgts lK true [0, 1, 0] := by
  have r1 : M.Reach lK 1 1 := Reach.next (L := lK) (i := 0) (h := 0) (j := 1) Reach.zero (by decide) (by decide) (by decide) (by decide)
  have r2 : M.Reach lK 2 0 := Reach.next (L := lK) (i := 1) (h := 1) (j := 2) r1 (by decide) (by decide) (by decide) (by decide)
  refine hgts_ok (K := kK) lK_chk rfl (fun i h e => ?_) (fun i h e => ?_) rfl (fun i hi => ?_)
  · rcases kK_cases e with ⟨rfl, rfl⟩ | ⟨rfl, rfl⟩ | ⟨rfl, rfl⟩
    · exact ⟨by decide, by decide⟩
    · exact ⟨by decide, by decide⟩
    · exact ⟨by decide, by decide⟩
  · rcases kK_cases e with ⟨rfl, rfl⟩ | ⟨rfl, rfl⟩ | ⟨rfl, rfl⟩
    · exact Reach.zero
    · exact r1
    · exact r2
  · have hl : lK.length = 3 := rfl
    rw [hl] at hi
    have : i = 0 ∨ i = 1 ∨ i = 2 := by omega
    rcases this with rfl | rfl | rfl <;> rfl
theorem lK_fits : ∀ c ∈ lK, c.Fits := by
  intro c hc
  simp [lK] at hc
  rcases hc with rfl | rfl | rfl <;> (unfold Cod.Fits; decide)
theorem lK2_fits : ∀ c ∈ lK2, c.Fits := by
  intro c hc
  simp [lK2] at hc
  rcases hc with rfl | rfl <;> (unfold Cod.Fits; decide)

theorem csrc_new (w : World) (L : List Cod) (t : TypeId) {S : Nat → Prop} {w' : World} (cs : Array Value) (hc : cs.toList = codCells L) (ho : Only S (w.alloc (.cells cs t)) w') (hS : ¬ S w.heap.size) (n : Nat) (hn : L.length = n) (hm : n ≤ 1000) : CSrc w' w.heap.size (.slice (some ⟨w.heap.size, 0, none⟩) n n) L := by
  subst hn
  exact ⟨_, L.length, 0, rfl, Nat.le_refl _, by unfold maxLen; omega, fun _ => rfl, cAt_new w L t cs hc ho hS⟩

set_option maxRecDepth 10000 in
set_option maxHeartbeats 3200000 in
theorem known8_any (w : World) : Calls Try.prog 13 #[] w fun e w' => e = .returned (.bool true) ∧ Only Nil w w' := by
  go_enter Try.func13, Try.ntmps13
  go_wp2_with fail
  have hs1 := csrc_new w lK 49 #[.int .i64 1, .int .i32 4, .int .i64 3, .int .i32 0, .int .i64 0, .int .i32 0] rfl (Only.refl Nil _) (fun h => h) 3 rfl (by decide)
  have ho1 : Only Nil w (w.alloc (.cells #[.int .i64 1, .int .i32 4, .int .i64 3, .int .i32 0, .int .i64 0, .int .i32 0] 49)) := (Only.refl _ _).alloc _
  have c1 := chkI_any w.heap.size _ 3 3 lK _ hs1 rfl lK_fits (by decide)
  rw [chkI_none lK_chk] at c1
  refine c1.mono ?_
  rintro e w2 ⟨rfl, ho2⟩
  have hs2 := hs1.kept ho2
  have c2 := htsI_any w.heap.size _ 3 3 lK _ hs2 rfl lK_fits (by decide)
  have ho12 := ho1.trans ho2 (fun _ _ h => h)
  clear c1 hs1 ho1 ho2
  go_wp2_with fail
  refine c2.mono ?_
  rintro e w3 ⟨ok, H, v, rfl, hT, hown, ho3⟩
  obtain ⟨rfl, rfl⟩ := hgts_one hT lK_told
  have ho13 := ho12.trans ho3 (fun _ _ h => h)
  clear c2 hs2 ho12 ho3 hT
  obtain ⟨av, cv, rfl⟩ := own_slice hown
  have HOWN := Lib.hid hown
  clear hown
  go_wp2_with fail
  have hs3 := csrc_new w3 lK2 49 #[.int .i64 0, .int .i32 0, .int .i64 25, .int .i32 9] rfl (Only.refl Nil _) (fun h => h) 2 rfl (by decide)
  have ho4 : Only Nil w3 (w3.alloc (.cells #[.int .i64 0, .int .i32 0, .int .i64 25, .int .i32 9] 49)) := (Only.refl _ _).alloc _
  have c3 := chkI_any w3.heap.size _ 2 2 lK2 _ hs3 rfl lK2_fits (by decide)
  rw [chkI_some lK2_chk] at c3
  refine c3.mono ?_
  rintro e w5 ⟨rfl, ho5⟩
  have ho15 := ho4.trans ho5 (fun _ _ h => h)
  have hown5 := ownsRow_only HOWN.out ho15 (fun _ _ h => h)
  have hoW := ho13.trans ho15 (fun _ _ h => h)
  clear c3 hs3 ho4 ho5
  have cI := fun (w' : World) (ho : Only Nil w5 w') (h2 : Src w' w5.heap.size (.slice (some ⟨w5.heap.size, 0, none⟩) 3 3) (Ints [0, 1, 0])) => ints_same _ _ _ _ [0, 1, 0] w' ((Src.of_own hown5).kept ho (fun _ h => h)) h2 (by decide)
  have HW := Lib.hid hoW
  clear hown5 ho15 ho13 hoW
  go_wp2_with fail
  have hB6 := Blk.new w5 #[.int .i64 0, .int .i64 1, .int .i64 0] 3
  have hs6 : Src (w5.alloc (.cells #[.int .i64 0, .int .i64 1, .int .i64 0] 3)) w5.heap.size (.slice (some ⟨w5.heap.size, 0, none⟩) 3 3) (Ints [0, 1, 0]) :=
    ⟨_, 3, 0, rfl, fun _ => rfl, nofun, fun i u hu => by rw [Nat.zero_add, hB6.cell i]; simpa [Ints] using hu⟩
  refine (cI _ ((Only.refl _ _).alloc _) hs6).mono ?_
  rintro e w6 ⟨rfl, ho6⟩
  go_wp2_with fail
  go_ret
  exact ⟨rfl, (HW.out.alloc _).trans ho6 (fun _ _ h => h)⟩
end Go.Proofs.Ytbgmdckfkfkglaa
