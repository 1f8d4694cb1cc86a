/- Layer 20: new dictionaries, both; both beside one another. -/
import Derived.Test.YthdolanamcmooaaJRef
import Derived.Test.YthdolanamcmooaaGArgs
import Derived.BigRegion
set_option linter.unusedSimpArgs false
set_option linter.unusedVariables false
namespace Go.Proofs.Ythdolanamcmooaa
open Go.RowKit M

theorem DAt.lt {w : World} {b mb most : Nat} {l : List ByteArray} {nv : Value} (h : DAt w b mb most l nv) : ∀ k, Own2 b mb nv.ownBlock k → k < w.heap.size := by
  rintro k (rfl | rfl | hk)
  · exact h.blk.lt
  · exact h.map.lt
  · exact (h.names.lt k hk.symm).2
theorem RAt.lt {w : World} {b most : Nat} {l : List ByteArray} {nv : Value} (h : RAt w b most l nv) : ∀ k, OwnR b nv.ownBlock k → k < w.heap.size := by
  rintro k (rfl | hk)
  · exact h.blk.lt
  · exact (h.names.lt k hk.symm).2
/-- A dictionary that the call has made. -/
structure DNew (w0 w : World) (b mb most : Nat) (l : List ByteArray) (nv : Value) : Prop where
  at_ : DAt w b mb most l nv
  ge : ∀ k, Own2 b mb nv.ownBlock k → w0.heap.size ≤ k
  only : Only Nil w0 w
structure RNew (w0 w : World) (b most : Nat) (l : List ByteArray) (nv : Value) : Prop where
  at_ : RAt w b most l nv
  ge : ∀ k, OwnR b nv.ownBlock k → w0.heap.size ≤ k
  only : Only Nil w0 w
theorem DNew.put {w0 w w' : World} {b mb most : Nat} {l : List ByteArray} {nv : Value} {s : ByteArray} {e : Ending} (h : DNew w0 w b mb most l nv) (hp : PutI w b mb most l nv s e w') : ∃ nv', e = .returned (putV most l s) ∧ DNew w0 w' b mb most (putD most l s) nv' ∧ Only (Own2 b mb nv.ownBlock) w w' ∧ Moved w nv nv' := by
  obtain ⟨nv', he, hD, ho, hm⟩ := hp
  refine ⟨nv', he, ⟨hD, ?_, h.only.trans ho (fun i hi hk => by have := h.ge i hk; omega)⟩, ho, hm⟩
  rintro k (rfl | rfl | hk)
  · exact h.ge _ (Or.inl rfl)
  · exact h.ge _ (Or.inr (Or.inl rfl))
  · rcases hm with hm | ⟨j, hm, hj⟩
    · exact h.ge k (Or.inr (Or.inr (by rw [hk, hm])))
    · rw [hm] at hk; injection hk with hk; have := h.only.size; omega
theorem RNew.put {w0 w w' : World} {b most : Nat} {l : List ByteArray} {nv : Value} {s : ByteArray} {e : Ending} (h : RNew w0 w b most l nv) (hp : PutR w b most l nv s e w') : ∃ nv', e = .returned (putV most l s) ∧ RNew w0 w' b most (putD most l s) nv' ∧ Only (OwnR b nv.ownBlock) w w' ∧ Moved w nv nv' := by
  obtain ⟨nv', he, hD, ho, hm⟩ := hp
  refine ⟨nv', he, ⟨hD, ?_, h.only.trans ho (fun i hi hk => by have := h.ge i hk; omega)⟩, ho, hm⟩
  rintro k (rfl | hk)
  · exact h.ge _ (Or.inl rfl)
  · rcases hm with hm | ⟨j, hm, hj⟩
    · exact h.ge k (Or.inr (by rw [hk, hm]))
    · rw [hm] at hk; injection hk with hk; have := h.only.size; omega
theorem putV_shape (most : Nat) (l : List ByteArray) (s : ByteArray) : ∃ a c d, putV most l s = .tuple #[.int .i64 a, .bool c, .bool d] := by
  unfold putV
  split
  · exact ⟨_, _, _, rfl⟩
  · split
    · exact ⟨_, _, _, rfl⟩
    · exact ⟨_, _, _, rfl⟩
theorem seedD_len (most : Nat) (seed : List ByteArray) (k : Nat) : (seedD most [] (seed.take k)).length ≤ k := by
  induction k with
  | zero => simp [seedD]
  | succ k ih =>
    by_cases h : k < seed.length
    · rw [seedD_snoc most [] seed k seed[k] (List.getElem?_eq_getElem h)]
      have := putD_len most (seedD most [] (seed.take k)) seed[k]
      omega
    · rw [List.take_of_length_le (by omega)] at ih ⊢
      omega

set_option maxRecDepth 10000 in
set_option maxHeartbeats 1600000 in
theorem newI_any (N : Int) (m : Nat) (hm : m = clampD N) (a : Option Addr) (n cap sb : Nat) (seed : List ByteArray) (w : World) (hn : seed.length = n) (hs : Src w sb (.slice a n cap) (Strs seed)) (hn9 : n ≤ 100) (hz : ∀ z ∈ seed, z.size ≤ maxLen) :
    Calls Try.prog 45 #[.int .i64 N, .slice a n cap] w fun e w' => ∃ b mb nv, e = .returned (.pointer (some ⟨b, 0, none⟩)) ∧ DNew w w' b mb m (seedD m [] seed) nv := by
  have hm1 := clampD_le N
  have hm2 := clampD_eq N
  rw [← hm] at hm1 hm2
  clear hm
  obtain ⟨N0, hN0⟩ : ∃ N0, (if N < 0 then 0 else N) = N0 := ⟨_, rfl⟩
  have hN1 : (if 65536 < N0 then 65536 else N0) = (m : Int) := by rw [← hm2, ← hN0]; split <;> split <;> omega
  clear hm2
  have HN := Lib.hid hn
  have HS := Lib.hid hs
  have HZ := Lib.hid hz
  clear hn hs hz
  have mk : ∀ w, (Instr.makeMap 137 none).run Try.prog w = .ok (.map (some w.heap.size)) (w.alloc (.map #[] 0)) := fun w => by
    simp [Instr.makeMap, run_underlying Try.underlying137, Result.andThen]
  go_enter Try.func45, Try.ntmps45
  go_wp2_with fail
  have hM0 := SMap.made w
  have ho0 : Only Nil w (w.alloc (.map #[] 0)) := (Only.refl _ _).alloc _
  have hs0 : (w.alloc (.map #[] 0)).heap.size = w.heap.size + 1 := by simp
  have hB0 := Blk.new (w.alloc (.map #[] 0)) #[.int .i64 m, .slice none 0 0, .map (some w.heap.size)] 139
  have ho1 : Only Nil w ((w.alloc (.map #[] 0)).alloc (.cells #[.int .i64 m, .slice none 0 0, .map (some w.heap.size)] 139)) := ho0.alloc _
  have hM1 := hM0.kept (S := Nil) (w' := (w.alloc (.map #[] 0)).alloc (.cells #[.int .i64 m, .slice none 0 0, .map (some w.heap.size)] 139)) ((Only.refl _ _).alloc _) (fun h => h)
  have HD0 := Lib.hid (show DNew w ((w.alloc (.map #[] 0)).alloc (.cells #[.int .i64 m, .slice none 0 0, .map (some w.heap.size)] 139)) (w.heap.size + 1) w.heap.size m (seedD m [] (seed.take 0)) (.slice none 0 0) from
    ⟨⟨by rw [← hs0]; exact hB0, World.ownsRow_nil _ _ _ _, hM1, by omega, nofun, nofun⟩, (by rintro k (rfl | rfl | hk) <;> first | omega | cases hk), ho1⟩)
  obtain ⟨w1, hw1⟩ : ∃ w1, (w.alloc (.map #[] 0)).alloc (.cells #[.int .i64 m, .slice none 0 0, .map (some w.heap.size)] 139) = w1 := ⟨_, rfl⟩
  rw [hw1] at HD0 ⊢
  obtain ⟨b, hb⟩ : ∃ b, w.heap.size + 1 = b := ⟨_, rfl⟩
  rw [hb] at HD0 ⊢
  obtain ⟨mb, hmb⟩ : ∃ mb, w.heap.size = mb := ⟨_, rfl⟩
  rw [hmb] at HD0 ⊢
  clear hmb
  clear hM0 ho0 hs0 hB0 ho1 hM1 mk hw1 hb hN0 hN1
  go_loopg [16] n (fun g i wr => ∃ (k : Nat) (nv : Value), i = .int .i64 (k : Int) ∧ k ≤ n ∧ g = n - k ∧ DNew w wr b mb m (seedD m [] (seed.take k)) nv)
  case atStart => exact ⟨0, _, rfl, Nat.zero_le _, rfl, HD0.out⟩
  case round =>
    clear HD0
    obtain ⟨k, nv, rfl, hk, hg, hD⟩ := hrel
    have HG := Lib.hid hg
    clear hg
    have k0 : (0 : Int) ≤ (k : Int) := Int.natCast_nonneg _
    by_cases hkn : k < n
    · have k1 : (k : Int) < (n : Int) := by omega
      obtain ⟨s, hs⟩ : ∃ s, seed[k]? = some s := ⟨_, List.getElem?_eq_getElem (by rw [HN.out]; exact hkn)⟩
      have hsz := HZ.out s (List.mem_of_getElem? hs)
      obtain ⟨_, _, off, e, p1, p2, p3⟩ := HS.out.kept hD.only (fun _ h => h)
      simp only [Value.slice.injEq] at e
      obtain ⟨rfl, hxx, rfl⟩ := e
      clear hxx
      have e1 := p1 (by rw [Strs_len, HN.out]; omega)
      subst e1
      have t1 := p3 k _ (Strs_at hs)
      have hll := seedD_len m seed k
      have cP := putI_any b mb m _ nv s wr hD.at_ hsz (by omega) hm1
      have hsn := seedD_snoc m [] seed k s hs
      have HSN := Lib.hid hsn
      have HDk := Lib.hid hD
      clear hD hs p1 p2 p3 hsn hll hsz
      go_wp2_with fail
      with_reducible refine cP.mono ?_
      rintro e w2 hp
      obtain ⟨nv2, rfl, hD2, _, _⟩ := HDk.out.put hp
      rw [← HSN.out] at hD2
      obtain ⟨x1, x2, x3, hx⟩ := putV_shape m (seedD m [] (seed.take k)) s
      rw [hx]
      have HD2 := Lib.hid hD2
      clear cP hp hD2 HDk hx
      go_wp2_with fail
      go_roundg (n - (k + 1))
      case measure => have := HG.out; omega
      case rel => exact ⟨k + 1, _, by go_num, by omega, rfl, HD2.out⟩
    · have hkn' : k = n := by omega
      subst hkn'
      have e9 : seed.take k = seed := List.take_of_length_le (by rw [HN.out]; exact Nat.le_refl _)
      rw [e9] at hD
      have HDk := Lib.hid hD
      have k1 : (k : Int) ≤ (k : Int) := Int.le_refl _
      clear e9 hD
      go_wp2_with fail
      go_ret
      exact ⟨_, mb, _, rfl, HDk.out⟩

set_option maxRecDepth 10000 in
set_option maxHeartbeats 1600000 in
theorem newR_any (N : Int) (m : Nat) (hm : m = clampD N) (a : Option Addr) (n cap sb : Nat) (seed : List ByteArray) (w : World) (hn : seed.length = n) (hs : Src w sb (.slice a n cap) (Strs seed)) (hn9 : n ≤ 100) (hz : ∀ z ∈ seed, z.size ≤ maxLen) :
    Calls Try.prog 46 #[.int .i64 N, .slice a n cap] w fun e w' => ∃ b nv, e = .returned (.pointer (some ⟨b, 0, none⟩)) ∧ RNew w w' b m (seedD m [] seed) nv := by
  have hm1 := clampD_le N
  have hm2 := clampD_eq N
  rw [← hm] at hm1 hm2
  clear hm
  obtain ⟨N0, hN0⟩ : ∃ N0, (if N < 0 then 0 else N) = N0 := ⟨_, rfl⟩
  have hN1 : (if 65536 < N0 then 65536 else N0) = (m : Int) := by rw [← hm2, ← hN0]; split <;> split <;> omega
  clear hm2
  have HN := Lib.hid hn
  have HS := Lib.hid hs
  have HZ := Lib.hid hz
  clear hn hs hz
  go_enter Try.func46, Try.ntmps46
  go_wp2_with fail
  have hB0 := Blk.new w #[.slice none 0 0, .int .i64 m] 80
  have ho1 : Only Nil w (w.alloc (.cells #[.slice none 0 0, .int .i64 m] 80)) := (Only.refl _ _).alloc _
  have HD0 := Lib.hid (show RNew w (w.alloc (.cells #[.slice none 0 0, .int .i64 m] 80)) w.heap.size m (seedD m [] (seed.take 0)) (.slice none 0 0) from
    ⟨⟨hB0, World.ownsRow_nil _ _ _ _, nofun⟩, (by rintro k (rfl | hk) <;> first | omega | cases hk), ho1⟩)
  obtain ⟨w1, hw1⟩ : ∃ w1, w.alloc (.cells #[.slice none 0 0, .int .i64 m] 80) = w1 := ⟨_, rfl⟩
  rw [hw1] at HD0 ⊢
  obtain ⟨b, hb⟩ : ∃ b, w.heap.size = b := ⟨_, rfl⟩
  rw [hb] at HD0 ⊢
  clear hB0 ho1 hw1 hb hN0 hN1
  go_loopg [6] n (fun g i wr => ∃ (k : Nat) (nv : Value), i = .int .i64 (k : Int) ∧ k ≤ n ∧ g = n - k ∧ RNew w wr b m (seedD m [] (seed.take k)) nv)
  case atStart => exact ⟨0, _, rfl, Nat.zero_le _, rfl, HD0.out⟩
  case round =>
    clear HD0
    obtain ⟨k, nv, rfl, hk, hg, hD⟩ := hrel
    have HG := Lib.hid hg
    clear hg
    have k0 : (0 : Int) ≤ (k : Int) := Int.natCast_nonneg _
    by_cases hkn : k < n
    · have k1 : (k : Int) < (n : Int) := by omega
      obtain ⟨s, hs⟩ : ∃ s, seed[k]? = some s := ⟨_, List.getElem?_eq_getElem (by rw [HN.out]; exact hkn)⟩
      have hsz := HZ.out s (List.mem_of_getElem? hs)
      obtain ⟨_, _, off, e, p1, p2, p3⟩ := HS.out.kept hD.only (fun _ h => h)
      simp only [Value.slice.injEq] at e
      obtain ⟨rfl, hxx, rfl⟩ := e
      clear hxx
      have e1 := p1 (by rw [Strs_len, HN.out]; omega)
      subst e1
      have t1 := p3 k _ (Strs_at hs)
      have hll := seedD_len m seed k
      have cP := putR_any b m _ nv s wr hD.at_ (by omega) hm1
      have hsn := seedD_snoc m [] seed k s hs
      have HSN := Lib.hid hsn
      have HDk := Lib.hid hD
      clear hD hs p1 p2 p3 hsn hll hsz
      go_wp2_with fail
      with_reducible refine cP.mono ?_
      rintro e w2 hp
      obtain ⟨nv2, rfl, hD2, _, _⟩ := HDk.out.put hp
      rw [← HSN.out] at hD2
      obtain ⟨x1, x2, x3, hx⟩ := putV_shape m (seedD m [] (seed.take k)) s
      rw [hx]
      have HD2 := Lib.hid hD2
      clear cP hp hD2 HDk hx
      go_wp2_with fail
      go_roundg (n - (k + 1))
      case measure => have := HG.out; omega
      case rel => exact ⟨k + 1, _, by go_num, by omega, rfl, HD2.out⟩
    · have hkn' : k = n := by omega
      subst hkn'
      have e9 : seed.take k = seed := List.take_of_length_le (by rw [HN.out]; exact Nat.le_refl _)
      rw [e9] at hD
      have HDk := Lib.hid hD
      have k1 : (k : Int) ≤ (k : Int) := Int.le_refl _
      clear e9 hD
      go_wp2_with fail
      go_ret
      exact ⟨_, _, rfl, HDk.out⟩
end Go.Proofs.Ythdolanamcmooaa
