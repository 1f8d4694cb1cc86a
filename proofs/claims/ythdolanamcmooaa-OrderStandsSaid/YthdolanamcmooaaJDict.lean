/- Layer 20: the program's dictionary. -/
import Derived.Test.YthdolanamcmooaaGInts
import Derived.Test.YthdolanamcmooaaGMap
import Derived.Test.YthdolanamcmooaaJMath
import Derived.Deep.RegionLaw
set_option linter.unusedSimpArgs false
set_option linter.unusedVariables false
namespace Go.Proofs.Ythdolanamcmooaa
open Go.RowKit M

def Strs (l : List ByteArray) : List Value := l.map Value.string
theorem Strs_len (l : List ByteArray) : (Strs l).length = l.length := by simp [Strs]
theorem Strs_at {l : List ByteArray} {k : Nat} {s : ByteArray} (h : l[k]? = some s) : (Strs l)[k]? = some (.string s) := by simp [Strs, h]
theorem Strs_snoc (l : List ByteArray) (s : ByteArray) : Strs (l ++ [s]) = Strs l ++ [.string s] := by simp [Strs]
theorem infoStr : (Try.prog.info? 9).map (fun i => (i.zero, i.size, i.bytes)) = some (some (.string ByteArray.empty), 1, 16) := by kernel_rfl
theorem zeroInt (w : World) : (zeroValue 3).run Try.prog w = .ok (.int .i64 0) w := by kernel_rfl
/-- Each name's number. -/
def numK (l : List ByteArray) : ByteArray → Option Value := fun s => if posB l s < l.length then some (.int .i64 (posB l s : Nat)) else none
theorem numK_in {l : List ByteArray} {s : ByteArray} (h : posB l s < l.length) : numK l s = some (.int .i64 (posB l s : Nat)) := if_pos h
theorem numK_out {l : List ByteArray} {s : ByteArray} (h : ¬ posB l s < l.length) : numK l s = none := if_neg h
theorem numK_snoc {l : List ByteArray} {s : ByteArray} (h : ¬ posB l s < l.length) : upS (numK l) s (.int .i64 (l.length : Nat)) = numK (l ++ [s]) := by
  funext t
  unfold upS numK
  rw [posB_snoc]
  by_cases e : t = s
  · subst e
    simp [h]
  · rw [if_neg e]
    by_cases g : posB l t < l.length
    · simp [g]; omega
    · have e2 : ¬ s = t := fun h => e h.symm
      simp [g, e2]

def Own2 (b mb : Nat) (ob : Option Nat) : Nat → Prop := fun k => k = b ∨ k = mb ∨ some k = ob
/-- A dictionary at b, its map at mb. -/
structure DAt (w : World) (b mb most : Nat) (l : List ByteArray) (nv : Value) : Prop where
  blk : Blk w b #[.int .i64 most, nv, .map (some mb)] 139
  names : w.ownsRow 0 9 1 nv l.length (Strs l)
  map : SMap w mb l.length (numK l)
  ne : b ≠ mb
  nb : nv.ownBlock ≠ some b
  nm : nv.ownBlock ≠ some mb
theorem DAt.kept {S : Nat → Prop} {w w' : World} {b mb most : Nat} {l : List ByteArray} {nv : Value} (h : DAt w b mb most l nv) (ho : Only S w w') (h1 : ∀ k, Own2 b mb nv.ownBlock k → ¬ S k) : DAt w' b mb most l nv :=
  ⟨h.blk.kept ho (h1 b (Or.inl rfl)), ownsRow_only h.names ho (fun k hk => h1 k (Or.inr (Or.inr hk.symm))), h.map.kept ho (h1 mb (Or.inr (Or.inl rfl))), h.ne, h.nb, h.nm⟩
theorem DAt.nil {w w' : World} {b mb most : Nat} {l : List ByteArray} {nv : Value} (h : DAt w b mb most l nv) (ho : Only Nil w w') : DAt w' b mb most l nv := h.kept ho (fun _ _ h => h)
/-- What Put tells. -/
def putV (most : Nat) (l : List ByteArray) (s : ByteArray) : Value :=
  if posB l s < l.length then .tuple #[.int .i64 (posB l s : Nat), .bool false, .bool true] else if most ≤ l.length then .tuple #[.int .i64 0, .bool false, .bool false] else .tuple #[.int .i64 (l.length : Nat), .bool true, .bool true]
/-- The block of a row that may have grown. -/
def Moved (w : World) (v v' : Value) : Prop := v'.ownBlock = v.ownBlock ∨ ∃ k, v'.ownBlock = some k ∧ w.heap.size ≤ k
/-- What Put leaves. -/
def PutI (w : World) (b mb most : Nat) (l : List ByteArray) (nv : Value) (s : ByteArray) (e : Ending) (w' : World) : Prop :=
  ∃ nv', e = .returned (putV most l s) ∧ DAt w' b mb most (putD most l s) nv' ∧ Only (Own2 b mb nv.ownBlock) w w' ∧ Moved w nv nv'

set_option maxRecDepth 10000 in
set_option maxHeartbeats 1600000 in
theorem putI_any (b mb most : Nat) (l : List ByteArray) (nv : Value) (s : ByteArray) (w : World) (hD : DAt w b mb most l nv) (hs : s.size ≤ maxLen) (hl : l.length ≤ 1000) (hm : most ≤ 65536) :
    Calls Try.prog 47 #[.pointer (some ⟨b, 0, none⟩), .string s] w (PutI w b mb most l nv s) := by
  have c0 : w.cell? ⟨b, 0, none⟩ = some (.int .i64 most) := hD.blk.cell 0
  have c1 : w.cell? ⟨b, 1, none⟩ = some nv := hD.blk.cell 1
  have c2 : w.cell? ⟨b, 2, none⟩ = some (.map (some mb)) := hD.blk.cell 2
  have f1 := hD.blk.free 1
  have hlt := hD.blk.lt
  have look := hD.map.look2 (mt := 137) (et := 3) Try.underlying137 (zeroInt w) s hs
  obtain ⟨i0, hi0, hz0, hz1, hz2⟩ := info_parts infoStr
  by_cases g : posB l s < l.length
  · rw [numK_in g] at look
    simp only [Option.getD_some, Option.isSome_some] at look
    have e1 : putV most l s = .tuple #[.int .i64 (posB l s : Nat), .bool false, .bool true] := if_pos g
    have e2 : putD most l s = l := if_pos g
    have HD := Lib.hid (show DAt w b mb most (putD most l s) nv by rw [e2]; exact hD)
    have HE := Lib.hid e1
    obtain ⟨p, hp⟩ : ∃ p, posB l s = p := ⟨_, rfl⟩
    rw [hp] at look HE
    clear hD e1 e2 hp g
    go_enter Try.func47, Try.ntmps47
    go_wp2_with fail
    go_ret3
    exact ⟨nv, by rw [HE.out]; rfl, HD.out, Only.refl _ _, Or.inl rfl⟩
  · rw [numK_out g] at look
    simp only [Option.getD_none, Option.isSome_none] at look
    obtain ⟨ao, cap, hnv⟩ := sl_of_own hD.names
    by_cases g2 : most ≤ l.length
    · have e1 : putV most l s = .tuple #[.int .i64 0, .bool false, .bool false] := by unfold putV; rw [if_neg g, if_pos g2]
      have e2 : putD most l s = l := by unfold putD; rw [if_neg g, if_pos g2]
      have HD := Lib.hid (show DAt w b mb most (putD most l s) nv by rw [e2]; exact hD)
      have HE := Lib.hid e1
      rw [hnv] at c1
      have t1 : decide (most ≤ l.length) = true := by simpa using g2
      have HNV := Lib.hid hnv
      clear hD e1 e2 g g2 hnv
      obtain ⟨n, hn⟩ : ∃ n, l.length = n := ⟨_, rfl⟩
      rw [hn] at c1 t1 hl
      clear hn
      have t2 : (most : Int) ≤ (n : Int) := by simpa using t1
      go_enter Try.func47, Try.ntmps47
      go_wp2_with fail
      go_ret3
      exact ⟨nv, by rw [HE.out]; rfl, HD.out, Only.refl _ _, Or.inl rfl⟩
    · have e1 : putV most l s = .tuple #[.int .i64 (l.length : Nat), .bool true, .bool true] := by unfold putV; rw [if_neg g, if_neg g2]
      have e2 : putD most l s = l ++ [s] := by unfold putD; rw [if_neg g, if_neg g2]
      have HE1 := Lib.hid e1
      have HE2 := Lib.hid e2
      have HG := Lib.hid g
      have hown := hD.names
      rw [hnv] at c1 hown
      have HNV := Lib.hid hnv
      have HD := Lib.hid hD
      have hmb := hD.map.lt
      clear hD e1 e2 g hnv
      obtain ⟨n, hn⟩ : ∃ n, l.length = n := ⟨_, rfl⟩
      rw [hn] at c1 hown hl g2
      have HN := Lib.hid hn
      clear hn
      have t1 : decide (most ≤ n) = false := by simpa using g2
      have t2 : (n : Int) < (most : Int) := by omega
      clear g2
      go_enter Try.func47, Try.ntmps47
      go_wp2_with (with_reducible refine wpList_append_one rfl _ _ 70 rfl 0 9 i0 (.string ByteArray.empty) 16 Try.underlying70 hi0 hz0 hz1 hz2 rfl _ _ _ rfl hown _ rfl rfl (by simp [maxLen]; omega) (by omega) (Nat.zero_le _) ?_)
      intro g2 cap2 w1 hown1 hc1 hc2 hg1 ho1
      have hD := HD.out
      have hob : nv.ownBlock = (Value.slice ao n cap).ownBlock := by rw [HNV.out]; cases ao <;> rfl
      have nb := hD.nb
      have nm := hD.nm
      rw [hob] at nb nm
      have f : ∀ {x : Nat}, (Value.slice ao n cap).ownBlock ≠ some x → ¬ Own (Value.slice ao n cap).ownBlock x := fun hx h => hx h.symm
      have hB1 := hD.blk.kept ho1 (f nb)
      have hM1 := hD.map.kept ho1 (f nm)
      have gb : g2 ≠ b := by
        rcases hg1 with h | h
        · intro e; exact nb (by rw [← h, e])
        · have := hD.blk.lt; omega
      have gm : g2 ≠ mb := by
        rcases hg1 with h | h
        · intro e; exact nm (by rw [← h, e])
        · omega
      have hB2 := hB1.setCell 1 (.slice (some ⟨g2, 0, none⟩) (n + 1) cap2)
      have ho2 : Only (M.One b) w1 (w1.setCell ⟨b, 1, none⟩ (.slice (some ⟨g2, 0, none⟩) (n + 1) cap2)) := (Only.refl (M.One b) w1).setCell' (M.One b) rfl _
      have hM2 := hM1.kept ho2 (by show ¬ mb = b; exact fun e => hD.ne e.symm)
      have hown2 := ownsRow_only hown1 ho2 (fun k hk h => by
        have h1 : k = b := h
        have h2 : g2 = k := by simpa [Value.ownBlock] using hk
        exact gb (by rw [h2, h1]))
      obtain ⟨w3, hrun, hM3, ho3⟩ := hM2.put (mt := 137) (et := 3) Try.underlying137 s hs (.int .i64 (n : Nat)) (by rw [HN.out]; omega)
      rw [numK_out HG.out, Option.isSome_none, if_neg (by decide)] at hM3
      have hsn := numK_snoc HG.out
      rw [HN.out] at hsn
      rw [hsn] at hM3
      have hB3 := hB2.kept ho3 (by show ¬ b = mb; exact hD.ne)
      have hown3 := ownsRow_only hown2 ho3 (fun k hk h => by
        have h1 : k = mb := h
        have h2 : g2 = k := by simpa [Value.ownBlock] using hk
        exact gm (by rw [h2, h1]))
      have hlen : (l ++ [s]).length = n + 1 := by rw [List.length_append, HN.out]; rfl
      have hfin : DAt w3 b mb most (l ++ [s]) (.slice (some ⟨g2, 0, none⟩) (n + 1) cap2) :=
        ⟨hB3, by rw [hlen, Strs_snoc]; exact hown3, by rw [hlen]; rw [HN.out] at hM3; exact hM3, hD.ne, by simp [Value.ownBlock]; exact gb, by simp [Value.ownBlock]; exact gm⟩
      have hoAll : Only (Own2 b mb nv.ownBlock) w w3 := by
        refine (ho1.mono (fun k hk => Or.inr (Or.inr (by rw [hob]; exact hk)))).trans ((ho2.mono (fun k hk => (Or.inl hk : Own2 b mb nv.ownBlock k))).trans (ho3.mono (fun k hk => (Or.inr (Or.inl hk) : Own2 b mb nv.ownBlock k))) (fun _ _ h => h)) (fun _ _ h => h)
      have hmv : Moved w nv (.slice (some ⟨g2, 0, none⟩) (n + 1) cap2) := by
        rcases hg1 with h | h
        · left; rw [hob]; exact h
        · right; exact ⟨g2, rfl, h⟩
      have HF := Lib.hid hfin
      have HO := Lib.hid hoAll
      have HMV := Lib.hid hmv
      have d1 : w1.cell? ⟨b, 1, none⟩ = some (.slice ao n cap) := by rw [← HN.out, ← HNV.out]; exact hB1.cell 1
      have e1 := hB1.free 1
      have hl1 := hB1.lt
      have hl2 := hB2.lt
      have d2 : (w1.setCell ⟨b, 1, none⟩ (.slice (some ⟨g2, 0, none⟩) (n + 1) cap2)).cell? ⟨b, 2, none⟩ = some (.map (some mb)) := hB2.cell 2
      clear hown1 hg1 ho1 hD hob nb nm f hB1 hM1 gb gm hB2 ho2 hM2 hown2 hM3 ho3 hsn hB3 hown3 hlen hfin hoAll hmv hown c0 c1 c2 look
      go_wp2_with fail
      go_ret3
      exact ⟨_, by rw [HE1.out, HN.out]; rfl, by rw [HE2.out]; exact HF.out, HO.out, HMV.out⟩
theorem findI_any (b mb most : Nat) (l : List ByteArray) (nv : Value) (s : ByteArray) (w : World) (hD : DAt w b mb most l nv) (hs : s.size ≤ maxLen) :
    Calls Try.prog 49 #[.pointer (some ⟨b, 0, none⟩), .string s] w fun e w' => e = .returned (.tuple #[.int .i64 (if posB l s < l.length then (posB l s : Int) else 0), .bool (decide (posB l s < l.length))]) ∧ w = w' := by
  have c2 : w.cell? ⟨b, 2, none⟩ = some (.map (some mb)) := hD.blk.cell 2
  have hlt := hD.blk.lt
  have look := hD.map.look2 (mt := 137) (et := 3) Try.underlying137 (zeroInt w) s hs
  by_cases g : posB l s < l.length
  · rw [numK_in g] at look
    rw [if_pos g, decide_eq_true g]
    simp only [Option.getD_some, Option.isSome_some] at look
    obtain ⟨p, hp⟩ : ∃ p, posB l s = p := ⟨_, rfl⟩
    rw [hp] at look ⊢
    clear hD hp g
    go_enter Try.func49, Try.ntmps49
    go_wp2_with fail
    go_ret2
    exact ⟨rfl, rfl⟩
  · rw [numK_out g] at look
    rw [if_neg g, decide_eq_false g]
    simp only [Option.getD_none, Option.isSome_none] at look
    clear hD g
    go_enter Try.func49, Try.ntmps49
    go_wp2_with fail
    go_ret2
    exact ⟨rfl, rfl⟩
theorem lenI_any (b mb most : Nat) (l : List ByteArray) (nv : Value) (w : World) (hD : DAt w b mb most l nv) :
    Calls Try.prog 51 #[.pointer (some ⟨b, 0, none⟩)] w fun e w' => e = .returned (.int .i64 (l.length : Nat)) ∧ w = w' := by
  obtain ⟨ao, cap, rfl⟩ := sl_of_own hD.names
  have c1 : w.cell? ⟨b, 1, none⟩ = some (.slice ao l.length cap) := hD.blk.cell 1
  have hlt := hD.blk.lt
  obtain ⟨n, hn⟩ : ∃ n, l.length = n := ⟨_, rfl⟩
  rw [hn] at c1 ⊢
  clear hD hn
  go_enter Try.func51, Try.ntmps51
  go_wp2_with fail
  go_ret
  exact ⟨rfl, rfl⟩
theorem getI_in (b mb most k : Nat) (l : List ByteArray) (nv : Value) (s : ByteArray) (w : World) (hD : DAt w b mb most l nv) (hk : l[k]? = some s) (hl : l.length ≤ 1000) :
    Calls Try.prog 52 #[.pointer (some ⟨b, 0, none⟩), .int .i64 k] w fun e w' => e = .returned (.tuple #[.string s, .bool true]) ∧ w = w' := by
  have hkl := (List.getElem?_eq_some_iff.1 hk).1
  obtain ⟨g, cap, rfl, _, q2, q3, q4⟩ := ownsRow_shape hD.names (by omega)
  have c1 : w.cell? ⟨b, 1, none⟩ = some (.slice (some ⟨g, 0, none⟩) l.length cap) := hD.blk.cell 1
  have hlt := hD.blk.lt
  have ck := (World.ownsRow.cellAt hD.names k (by omega)).trans (Strs_at hk)
  obtain ⟨n, hn⟩ : ∃ n, l.length = n := ⟨_, rfl⟩
  rw [hn] at c1 hkl hl
  have k0 : (0 : Int) ≤ (k : Int) := Int.natCast_nonneg _
  have k1 : (k : Int) < (n : Int) := by omega
  have k2 : decide ((k : Int) < 0) = false := by simp
  have k3 : decide (n ≤ k) = false := by simp; omega
  clear hD hn hk q2 q3
  go_enter Try.func52, Try.ntmps52
  go_wp2_with fail
  go_ret2
  exact ⟨rfl, rfl⟩
theorem getI_out (b mb most : Nat) (k : Int) (l : List ByteArray) (nv : Value) (w : World) (hD : DAt w b mb most l nv) (hk : ¬ (0 ≤ k ∧ k < l.length)) (hl : l.length ≤ 1000) :
    Calls Try.prog 52 #[.pointer (some ⟨b, 0, none⟩), .int .i64 k] w fun e w' => e = .returned (.tuple #[.string ByteArray.empty, .bool false]) ∧ w = w' := by
  obtain ⟨ao, cap, rfl⟩ := sl_of_own hD.names
  have c1 : w.cell? ⟨b, 1, none⟩ = some (.slice ao l.length cap) := hD.blk.cell 1
  have hlt := hD.blk.lt
  obtain ⟨n, hn⟩ : ∃ n, l.length = n := ⟨_, rfl⟩
  rw [hn] at c1 hk hl
  clear hD hn
  by_cases h0 : k < 0
  · have k2 : decide (k < 0) = true := by simpa using h0
    clear hk
    go_enter Try.func52, Try.ntmps52
    go_wp2_with fail
    go_ret2
    exact ⟨rfl, rfl⟩
  · have k2 : decide (k < 0) = false := by simpa using h0
    have k3 : (n : Int) ≤ k := by omega
    clear hk
    go_enter Try.func52, Try.ntmps52
    go_wp2_with fail
    go_ret2
    exact ⟨rfl, rfl⟩
end Go.Proofs.Ythdolanamcmooaa
