/- Both machines are held against one another. -/
import Derived.Test.YthimhbfglgnohaaDSee
import Derived.Test.YthimhbfglgnohaaDRes
import Derived.Test.YthimhbfglgnohaaKEcho
import Derived.Test.YthimhbfglgnohaaDStep
set_option linter.unusedSimpArgs false
set_option linter.unusedVariables false
namespace Go.Proofs.Ythimhbfglgnohaa
open Go.RowKit M

set_option maxRecDepth 20000 in
set_option maxHeartbeats 3200000 in
/-- Machines that hold the same are told to be the same. -/
theorem same_any (p d : Spot) (code : List Nat) (s : St) (w : World) (h : Pair w p d code s s) (hol : s.out.length ≤ 1099511627776) :
    Calls Try.prog 17 #[.pointer (some ⟨p.mb, 0, none⟩), .pointer (some ⟨d.mb, 0, none⟩)] w fun e w' => e = .returned (.bool true) ∧ Only Nil w w' := by
  obtain ⟨mb, wb, ob, cv, iv, ov⟩ := p
  obtain ⟨db, vb, dob, dv, div, dov⟩ := d
  have HP := Lib.hid h
  clear h
  go_enter Try.func17, Try.ntmps17
  go_wp2_with fail
  go_loopg [5] 16 (fun g i wr => g ≤ 16 ∧ i = .int .i64 ((16 - g : Nat) : Int) ∧ Only Nil w wr)
  case atStart => exact ⟨Nat.le_refl _, rfl, Only.refl _ _⟩
  case round =>
    obtain ⟨hg, rfl, ho⟩ := hrel
    obtain ⟨k, hk⟩ : ∃ k, 16 - gk = k := ⟨_, rfl⟩
    rw [hk]
    have HK := Lib.hid hk
    have HG := Lib.hid hg
    by_cases hk16 : k < 16
    · have cR := reg_any mb k cv _ iv ov s wr (HP.out.quiet ho).pm.1 hk16
      have cL := ((HP.out.quiet ho).pd.1.cell (2 + k)).trans (dcells_reg dv _ div dov s hk16)
      have hltd := (HP.out.quiet ho).pd.1.lt
      obtain ⟨x, hx⟩ : ∃ x, s.R k = x := ⟨_, rfl⟩
      rw [hx] at cR cL
      have k0 : (0 : Int) ≤ (k : Int) := Int.natCast_nonneg _
      have k1 : (k : Int) < 16 := by omega
      clear hk hx hg
      go_wp2_with fail
      refine cR.mono ?_
      rintro e w1 ⟨rfl, rfl⟩
      clear cR
      go_wp2_with fail
      go_roundg (gk - 1)
      case measure => have := HK.out; have := HG.out; omega
      case rel => exact ⟨by have := HG.out; omega, by have := HK.out; have := HG.out; go_num, ho⟩
    · have hk2 : k = 16 := by omega
      subst hk2
      have cF := flags_any mb cv _ iv ov s wr (HP.out.quiet ho).pm.1
      obtain ⟨bn, hbn⟩ : ∃ x, s.n = x := ⟨_, rfl⟩
      obtain ⟨bz, hbz⟩ : ∃ x, s.z = x := ⟨_, rfl⟩
      obtain ⟨bc, hbc⟩ : ∃ x, s.c = x := ⟨_, rfl⟩
      obtain ⟨bv, hbv⟩ : ∃ x, s.v = x := ⟨_, rfl⟩
      rw [hbn, hbz, hbc, hbv] at cF
      have HN := Lib.hid hbn
      have HZ := Lib.hid hbz
      have HC := Lib.hid hbc
      have HV := Lib.hid hbv
      clear hk hbn hbz hbc hbv hg
      go_wp2_with fail
      refine cF.mono ?_
      rintro e w8 ⟨rfl, ho8⟩
      clear cF
      have ho8' := ho.trans ho8 (fun _ _ h => h)
      have hP8 := HP.out.quiet ho8'
      have d19 : w8.cell? ⟨db, 19, none⟩ = some (.bool s.n) := hP8.pd.1.cell 19
      have d20 : w8.cell? ⟨db, 20, none⟩ = some (.bool s.z) := hP8.pd.1.cell 20
      have d21 : w8.cell? ⟨db, 21, none⟩ = some (.bool s.c) := hP8.pd.1.cell 21
      have d22 : w8.cell? ⟨db, 22, none⟩ = some (.bool s.v) := hP8.pd.1.cell 22
      have d23 : w8.cell? ⟨db, 23, none⟩ = some (.int .i64 s.pc) := hP8.pd.1.cell 23
      rw [HN.out] at d19
      rw [HZ.out] at d20
      rw [HC.out] at d21
      rw [HV.out] at d22
      have hltd := hP8.pd.1.lt
      have cPC := fun (w' : World) (ho : Only Nil w8 w') => pc_any mb cv _ iv ov s w' (hP8.pm.1.kept ho (fun h => h))
      have cRM := fun (w' : World) (ho : Only Nil w8 w') => result_any mb wb ob code cv iv ov s w' (hP8.pm.quiet ho) hol
      have cRD := fun (w' : World) (ho : Only Nil w8 w') => dresult_any db vb dob code dv div dov s w' (hP8.pd.quiet ho) hol
      obtain ⟨pc, hpc⟩ : ∃ x, s.pc = x := ⟨_, rfl⟩
      rw [hpc] at d23 cPC
      have e1 : (bn == bn) = true := by simp
      have e2 : (bz == bz) = true := by simp
      have e3 : (bc == bc) = true := by simp
      have e4 : (bv == bv) = true := by simp
      have e5 : ((pc : Int) == (pc : Int)) = true := by simp
      have d19d : w8.drew.cell? ⟨db, 19, none⟩ = some (.bool bn) := d19
      have d20d : w8.drew.cell? ⟨db, 20, none⟩ = some (.bool bz) := d20
      have d21d : w8.drew.cell? ⟨db, 21, none⟩ = some (.bool bc) := d21
      have d22d : w8.drew.cell? ⟨db, 22, none⟩ = some (.bool bv) := d22
      have d23d : w8.drew.cell? ⟨db, 23, none⟩ = some (.int .i64 pc) := d23
      have HO := Lib.hid ho8'
      clear hP8 ho ho8 ho8' HP hol hpc
      go_wp2_with fail
      go_region_held3 (fun w' => w'.cell? ⟨db, 19, none⟩ = some (.bool bn) ∧ w'.cell? ⟨db, 20, none⟩ = some (.bool bz) ∧ w'.cell? ⟨db, 21, none⟩ = some (.bool bc) ∧ w'.cell? ⟨db, 22, none⟩ = some (.bool bv) ∧ w'.cell? ⟨db, 23, none⟩ = some (.int .i64 pc)) (go_keep) (first
        | (go_at_call 22; refine (cPC _ (Only.refl _ _).drew).mono ?_; rintro e w11 ⟨rfl, rfl⟩)
        | (go_at_call 28; refine (cRM _ ?_).mono ?_; (repeat with_reducible first | exact Only.refl _ _ | refine Only.drew ?_); rintro e w9 ⟨rv1, rfl, hown9, ho9⟩; have q0 := ho9.cell d19d (fun h => h); have q1 := ho9.cell d20d (fun h => h); have q2 := ho9.cell d21d (fun h => h); have q3 := ho9.cell d22d (fun h => h); have q4 := ho9.cell d23d (fun h => h))
        | (go_at_call 37; refine (cRD _ ((Only.refl Nil w8).drew.trans ho9 (fun _ _ h => h))).mono ?_; rintro e w10 ⟨rv2, rfl, hown10, ho10⟩; have r0 := ho10.cell q0 (fun h => h); have r1 := ho10.cell q1 (fun h => h); have r2 := ho10.cell q2 (fun h => h); have r3 := ho10.cell q3 (fun h => h); have r4 := ho10.cell q4 (fun h => h))
        | (go_at_call 19; refine (helpResult_same _ _ _ _ s.out s.fin s.trap _ ((Src.of_own hown9).kept ho10 (fun _ h => h)) (Src.of_own hown10)).mono ?_; rintro e w12 ⟨rfl, ho12⟩; have p0 := ho12.cell r0 (fun h => h); have p1 := ho12.cell r1 (fun h => h); have p2 := ho12.cell r2 (fun h => h); have p3 := ho12.cell r3 (fun h => h); have p4 := ho12.cell r4 (fun h => h)))
      all_goals have hoE : Only Nil w8 w12 := (((Only.refl Nil w8).drew.trans ho9 (fun _ _ h => h)).trans ho10 (fun _ _ h => h)).trans ho12 (fun _ _ h => h)
      all_goals go_wp2_with fail
      all_goals go_ret
      all_goals exact ⟨rfl, HO.out.trans hoE (fun _ _ h => h)⟩

set_option maxRecDepth 20000 in
set_option maxHeartbeats 3200000 in
/-- Their words, too. -/
theorem words_any (p d : Spot) (code : List Nat) (s : St) (w : World) (h : Pair w p d code s s) (hs : s.Ok) :
    Calls Try.prog 18 #[.pointer (some ⟨p.mb, 0, none⟩), .pointer (some ⟨d.mb, 0, none⟩)] w fun e w' => e = .returned (.bool true) ∧ Only Nil w w' := by
  obtain ⟨mb, wb, ob, cv, iv, ov⟩ := p
  obtain ⟨db, vb, dob, dv, div, dov⟩ := d
  have hml := hs.len
  obtain ⟨n, hn⟩ : ∃ n, s.mem.length = n := ⟨_, rfl⟩
  have HP := Lib.hid h
  have HN := Lib.hid hn
  have HS := Lib.hid hs
  rw [hn] at hml
  clear h hn hs
  go_enter Try.func18, Try.ntmps18
  go_wp2_with fail
  go_loopg [5] n (fun g i wr => g ≤ n ∧ i = .int .i64 ((n - g : Nat) : Int) ∧ Only Nil w wr)
  case atStart => exact ⟨Nat.le_refl _, by simp, Only.refl _ _⟩
  case round =>
    obtain ⟨hg, rfl, ho⟩ := hrel
    obtain ⟨k, hk⟩ : ∃ k, n - gk = k := ⟨_, rfl⟩
    rw [hk]
    have HK := Lib.hid hk
    have HG := Lib.hid hg
    have hP := HP.out.quiet ho
    have c1 : wr.cell? ⟨db, 1, none⟩ = some (.slice (some ⟨vb, 0, none⟩) s.mem.length s.mem.length) := hP.pd.1.cell 1
    rw [HN.out] at c1
    have hltd := hP.pd.1.lt
    have k0 : (0 : Int) ≤ (k : Int) := Int.natCast_nonneg _
    by_cases hkn : k < n
    · obtain ⟨x, hx⟩ : ∃ x, s.mem[k]? = some x := ⟨_, List.getElem?_eq_getElem (by rw [HN.out]; exact hkn)⟩
      have cW := word_any mb wb ob code k cv iv ov s wr HS.out hP.pm hx
      have cL : wr.cell? ⟨vb, k, none⟩ = some (.int .u32 (x : Nat)) := by
        rw [hP.pd.2.1.cell k]
        simp [U32s, hx]
      have hltv := hP.pd.2.1.lt
      have k1 : (k : Int) < (n : Int) := by omega
      clear hk hx hg hP
      go_wp2_with fail
      refine cW.mono ?_
      rintro e w1 ⟨rfl, rfl⟩
      clear cW
      go_wp2_with fail
      go_roundg (gk - 1)
      case measure => have := HK.out; have := HG.out; omega
      case rel => exact ⟨by have := HG.out; omega, by have := HK.out; have := HG.out; go_num, ho⟩
    · have hk2 : k = n := by omega
      subst hk2
      have cN := word_no mb wb ob code k cv iv ov s wr HS.out hP.pm (by rw [HN.out]; exact Nat.le_refl _)
      have cR := reg_no mb cv _ iv ov s wr hP.pm.1
      clear hk hg hP
      go_wp2_with fail
      refine cN.mono ?_
      rintro e w1 ⟨rfl, rfl⟩
      clear cN
      go_wp2_with fail
      refine cR.mono ?_
      rintro e w1 ⟨rfl, rfl⟩
      clear cR
      go_wp2_with fail
      go_ret
      exact ⟨rfl, ho⟩
end Go.Proofs.Ythimhbfglgnohaa

/- The walk of the law RiscRaw. -/
set_option linter.unusedSimpArgs false
set_option linter.unusedVariables false
namespace Go.Proofs.Ythimhbfglgnohaa
open Go.RowKit M

/-- An argument that is a slice of words. -/
theorem row_u32 {w : World} {a : Option Addr} {len cap : Nat} {zs : List Int} (h : IsRow .u32 w a len cap zs) :
    ∃ (b : Nat) (B : List Nat), B.length = len ∧ Src w b (.slice a len cap) (U32s B) ∧ CRow (fun k => w.heap.size ≤ k) w (.slice a len cap) B ∧ ∀ x ∈ B, x < 4294967296 := by
  obtain ⟨b, off, h1, h2, h3, h4, h5, h6⟩ := h.opened
  have hn : ∀ n ∈ zs.take len, 0 ≤ n ∧ n ≤ 4294967295 := fun n hn => bounds_u32 (h6 n hn)
  have e : U32s ((zs.take len).map Int.toNat) = (zs.take len).map (Value.int .u32) := by
    unfold U32s
    rw [List.map_map]
    apply List.map_congr_left
    intro n hm
    have := hn n hm
    simp [Int.toNat_of_nonneg this.1]
  have hl : ((zs.take len).map Int.toNat).length = len := by simpa using h1
  have hcap : len ≤ cap ∧ cap ≤ maxLen := by
    rcases h with ⟨_, rfl, rfl, _⟩ | ⟨x, _, q1, q2, _⟩
    · exact ⟨Nat.le_refl _, by decide⟩
    · exact ⟨q1, q2⟩
  refine ⟨b, (zs.take len).map Int.toNat, hl, ⟨a, cap, off, by rw [U32s_len, hl], fun h => h2 (by rw [U32s_len, hl] at h; exact h), h3, by rw [e]; exact h4⟩,
    ⟨b, a, cap, off, by rw [hl], by rw [hl]; exact hcap.1, hcap.2, fun h => h2 (by rw [hl] at h; exact h), by rw [e]; exact h4, fun h hb => ?_⟩, ?_⟩
  · rw [hl] at h
    have := h5 h
    omega
  · intro x hx
    simp only [List.mem_map] at hx
    obtain ⟨n, hm, rfl⟩ := hx
    have := hn n hm
    omega
/-- .. of bytes. -/
theorem row_u8 {w : World} {a : Option Addr} {len cap : Nat} {zs : List Int} (h : IsRow .u8 w a len cap zs) :
    ∃ (b : Nat) (B : List Nat), B.length = len ∧ Src w b (.slice a len cap) (U8s B) ∧ BRow (fun k => w.heap.size ≤ k) w (.slice a len cap) B ∧ ∀ x ∈ B, x < 256 := by
  obtain ⟨b, off, h1, h2, h3, h4, h5, h6⟩ := h.opened
  have hn : ∀ n ∈ zs.take len, 0 ≤ n ∧ n ≤ 255 := fun n hn => bounds_u8 (h6 n hn)
  have e : U8s ((zs.take len).map Int.toNat) = (zs.take len).map (Value.int .u8) := by
    unfold U8s
    rw [List.map_map]
    apply List.map_congr_left
    intro n hm
    have := hn n hm
    simp [Int.toNat_of_nonneg this.1]
  have hl : ((zs.take len).map Int.toNat).length = len := by simpa using h1
  have hcap : len ≤ cap ∧ cap ≤ maxLen := by
    rcases h with ⟨_, rfl, rfl, _⟩ | ⟨x, _, q1, q2, _⟩
    · exact ⟨Nat.le_refl _, by decide⟩
    · exact ⟨q1, q2⟩
  refine ⟨b, (zs.take len).map Int.toNat, hl, ⟨a, cap, off, by rw [U8s_len', hl], fun h => h2 (by rw [U8s_len', hl] at h; exact h), h3, by rw [e]; exact h4⟩,
    ⟨b, a, cap, off, by rw [hl], by rw [hl]; exact hcap.1, hcap.2, fun h => h2 (by rw [hl] at h; exact h), h3, by rw [e]; exact h4, fun h hb => ?_⟩, ?_⟩
  · rw [hl] at h
    have := h5 h
    omega
  · intro x hx
    simp only [List.mem_map] at hx
    obtain ⟨n, hm, rfl⟩ := hx
    have := hn n hm
    omega

/-- Both are made. -/
theorem pair_made {w5 w6 : World} {mb wb db vb : Nat} {code : List Nat} {s : St} {cv iv dv div : Value} (hM : MAt Nil w5 mb wb none code s cv iv (.slice none 0 0)) (ho : Only Nil w5 w6) (hdb : w5.heap.size ≤ db) (hvb : w5.heap.size ≤ vb)
    (hD : DAt (Own3 mb wb none) w6 db vb none code s dv div (.slice none 0 0)) : Pair w6 ⟨mb, wb, none, cv, iv, .slice none 0 0⟩ ⟨db, vb, none, dv, div, .slice none 0 0⟩ code s s := by
  refine ⟨(hM.less (T := Own3 db vb none) (fun k hk h => ?_)).quiet ho, hD, fun k hp hd => ?_⟩
  · rcases h with h | h | h
    · omega
    · omega
    · cases h
  · have h1 := hM.ownLt hp
    rcases hd with h | h | h
    · have h : k = db := h
      omega
    · have h : k = vb := h
      omega
    · cases h

set_option maxRecDepth 20000 in
set_option maxHeartbeats 3200000 in
theorem raw_any (cb ib : Nat) (a0 : Option Addr) (n0 c0 : Nat) (a1 : Option Addr) (n1 c1 : Nat) (code inp : List Nat) (N F : Int) (w : World) (hF1 : -9223372036854775808 ≤ F) (hl0 : code.length = n0) (hl1 : inp.length = n1) (hc : ∀ x ∈ code, x < 4294967296) (hi : ∀ x ∈ inp, x < 256)
    (s0' : Src w cb (.slice a0 n0 c0) (U32s code)) (r0 : CRow (fun k => w.heap.size ≤ k) w (.slice a0 n0 c0) code) (s1' : Src w ib (.slice a1 n1 c1) (U8s inp)) (r1 : BRow (fun k => w.heap.size ≤ k) w (.slice a1 n1 c1) inp) :
    Calls Try.prog 4 #[.slice a0 n0 c0, .int .i64 N, .slice a1 n1 c1, .int .i64 F] w fun e w' => e = .returned (.bool true) ∧ Only Nil w w' := by
  have cK := known_any w
  by_cases h60 : 60 < n0
  · have h60' : (60 : Int) < (n0 : Int) := by omega
    clear hl0 hl1 hc hi s0' r0 s1' r1 h60
    go_enter Try.func4, Try.ntmps4
    go_wp2_with fail
    refine cK.mono ?_
    rintro e w1 ⟨rfl, ho1⟩
    clear cK
    go_wp2_with fail
    go_ret
    exact ⟨rfl, ho1⟩
  · have h60' : (n0 : Int) ≤ 60 := by omega
    by_cases h40 : 40 < n1
    · have h40' : (40 : Int) < (n1 : Int) := by omega
      clear hl0 hl1 hc hi s0' r0 s1' r1 h60 h40
      go_enter Try.func4, Try.ntmps4
      go_wp2_with fail
      refine cK.mono ?_
      rintro e w1 ⟨rfl, ho1⟩
      clear cK
      go_wp2_with fail
      go_ret
      exact ⟨rfl, ho1⟩
    · have h40' : (n1 : Int) ≤ 40 := by omega
      obtain ⟨N', hN'⟩ : ∃ x, (if 3000 < N then 3000 else N) = x := ⟨_, rfl⟩
      obtain ⟨F', hF'⟩ : ∃ x, (if 2000 < F then 2000 else F) = x := ⟨_, rfl⟩
      have hNb : N' ≤ 3000 := by rw [← hN']; split <;> omega
      have hFb : F' ≤ 2000 := by rw [← hF']; split <;> omega
      have hFc : -9223372036854775808 ≤ F' := by rw [← hF']; split <;> omega
      have hNn : (if 1048576 < (if N' < 0 then 0 else N') then 1048576 else (if N' < 0 then 0 else N')) = ((N'.toNat : Nat) : Int) := by
        by_cases hneg : N' < 0
        · rw [if_pos hneg, if_neg (by decide)]; omega
        · rw [if_neg hneg, if_neg (by omega)]; omega
      have hn : N'.toNat ≤ 1048576 := by omega
      have hcl : code.length ≤ 1048576 := by omega
      have hil : inp.length ≤ 1048576 := by omega
      obtain ⟨n, hnn⟩ : ∃ n, N'.toNat = n := ⟨_, rfl⟩
      rw [hnn] at hNn hn
      obtain ⟨s, hs⟩ : ∃ s, s0 n inp = s := ⟨_, rfl⟩
      have hsok : s.Ok := by rw [← hs]; exact s0_ok n inp hn hi
      have hsfr : Free s := by rw [← hs]; exact s0_free n inp
      have hsout : s.out.length = 0 := by rw [← hs]; rfl
      have HS0 := Lib.hid s0'
      have HR0 := Lib.hid r0
      have HS1 := Lib.hid s1'
      have HR1 := Lib.hid r1
      have HC := Lib.hid hc
      have HSE := Lib.hid hs
      have HOK := Lib.hid hsok
      have HFR := Lib.hid hsfr
      have HSO := Lib.hid hsout
      have HNN := Lib.hid hNn
      have HNB := Lib.hid hn
      have HCL := Lib.hid hcl
      have HIL := Lib.hid hil
      have HFB := Lib.hid hFb
      have HFC := Lib.hid hFc
      clear hl0 hl1 hc hi s0' r0 s1' r1 h60 h40 hNb hFb hFc hNn hn hcl hil hnn hs hsok hsfr hsout hF1
      go_enter Try.func4, Try.ntmps4
      go_wp2_with fail
      refine cK.mono ?_
      rintro e w1 ⟨rfl, ho1⟩
      clear cK
      go_wp2_with fail
      have cN := new_any (Q := Nil) code inp N' n HNN.out cb ib _ _ w1 (HS0.out.kept ho1 (fun _ h => h)) (HS1.out.kept ho1 (fun _ h => h)) HCL.out HIL.out HNB.out (fun _ h => h.elim)
      refine cN.mono ?_
      rintro e w5 ⟨mb, wb, cv, iv, rfl, hmb, hwb, ho5, hM5⟩
      clear cN
      rw [HSE.out] at hM5
      have ho5' : Only Nil w w5 := ho1.trans ho5 (fun _ _ h => h)
      have hm5 : w.heap.size ≤ mb := Nat.le_trans ho1.size hmb
      have hw5 : w.heap.size ≤ wb := Nat.le_trans ho1.size hwb
      have hq : ∀ k, k < w.heap.size → Own3 mb wb none k → w.heap.size ≤ k := by
        intro k hk h
        rcases h with h | h | h
        · omega
        · omega
        · cases h
      have cD := dnew_any (Q := Own3 mb wb none) code inp N' n HNN.out HNB.out _ _ w5 ((HR0.out.less hq).kept ho5' (fun _ h => h.elim)) ((HR1.out.less hq).kept ho5' (fun _ h => h.elim))
      clear ho1 ho5 hmb hwb
      have HO5 := Lib.hid ho5'
      have HQ := Lib.hid hq
      clear hq
      go_wp2_with fail
      refine cD.mono ?_
      rintro e w6 ⟨db, vb, rfl, hdb, hvb, ho6, hD6⟩
      clear cD
      rw [HSE.out] at hD6
      have hP6 := pair_made hM5 ho6 hdb hvb hD6
      have hB6 : Pair.Behind ⟨mb, wb, none, cv, iv, .slice none 0 0⟩ ⟨db, vb, none, .slice a0 n0 c0, .slice a1 n1 c1, .slice none 0 0⟩ w.heap.size := by
        have hz := ho5'.size
        refine ⟨fun k h => ?_, fun k h => ?_⟩
        · rcases h with h | h | h
          · have h : k = mb := h
            omega
          · have h : k = wb := h
            omega
          · cases h
        · rcases h with h | h | h
          · have h : k = db := h
            omega
          · have h : k = vb := h
            omega
          · cases h
      have ho6' : Only Nil w w6 := ho5'.trans ho6 (fun _ _ h => h)
      clear hM5 hD6 ho6 ho5' hdb hvb hm5 hw5
      obtain ⟨t, ht⟩ : ∃ t, M.run code F'.toNat s = t := ⟨_, rfl⟩
      have htk := run_ok HC.out HCL.out F'.toNat HOK.out
      rw [ht] at htk
      have hFn : F'.toNat ≤ 2000 := by have := HFB.out; omega
      have hto : t.out.length ≤ 1099511627776 := by have h1 := htk.2.2; have h2 := HSO.out; omega
      have HT := Lib.hid ht
      have HTK := Lib.hid htk
      have HTO := Lib.hid hto
      have HP6 := Lib.hid hP6
      have HB6 := Lib.hid hB6
      have cR := run_any mb wb none code cv iv (.slice none 0 0) s w6 HOK.out HC.out HCL.out hP6.pm F' HFC.out (by have := HFB.out; omega) (by rw [HSO.out]; omega) (t := t) HT.out
      have HFN := Lib.hid hFn
      have HO6 := Lib.hid ho6'
      clear hP6 hB6 ht htk hto hFn ho6'
      go_wp2_with fail
      refine cR.mono ?_
      rintro e w7 ⟨ob7, iv7, ov7, rv1, rfl, hw7, hown7, hM7⟩
      clear cR
      have hP7 := HP6.out.wentM hw7 hM7
      have hB7 := Pair.behindM HB6.out hw7 HO6.out.size (iv' := iv7) (ov' := ov7)
      have ho7 := only_went HO6.out hw7 HB6.out.1
      have cE := drun_any db vb none code _ _ (.slice none 0 0) s w7 HOK.out HC.out HCL.out hP7.pd F' HFC.out (by have := HFB.out; omega) (by rw [HSO.out]; have := HFN.out; omega) HFR.out (t := t) HT.out
      have hlow : ∀ k, Own3 db vb none k → k < w6.heap.size := fun k hk => HP6.out.pd.ownLt hk
      have HL := Lib.hid hlow
      have HP7 := Lib.hid hP7
      have HB7 := Lib.hid hB7
      have HO7 := Lib.hid ho7
      clear hP7 hB7 hw7 hM7 hlow ho7
      go_wp2_with fail
      refine cE.mono ?_
      rintro e w8 ⟨ob8, iv8, ov8, rv2, rfl, hw8, hown8, hM8⟩
      clear cE
      have hP8 := HP7.out.wentD hw8 hM8
      have ho8 := only_went HO7.out hw8 HB7.out.2
      have hown78 := ownsRow_only hown7 hw8.1 (fun k hk h => by
        obtain ⟨q1, q2⟩ := own_lt hown7 hk
        have := HL.out k h
        omega)
      have cH := helpResult_same _ _ rv1 rv2 t.out t.fin t.trap w8 (Src.of_own hown78) (Src.of_own hown8)
      have HP8 := Lib.hid hP8
      have HO8 := Lib.hid ho8
      clear hown7 hown78 hown8 hw8 hM8 hP8 ho8
      go_wp2_with fail
      refine cH.mono ?_
      rintro e w9 ⟨rfl, ho9⟩
      clear cH
      have cS := same_any _ _ code t w9 (HP8.out.quiet ho9) HTO.out
      go_wp2_with fail
      refine cS.mono ?_
      rintro e w10 ⟨rfl, ho10⟩
      clear cS
      have ho10' := ho9.trans ho10 (fun _ _ h => h)
      have cW := words_any _ _ code t w10 (HP8.out.quiet ho10') HTK.out.1
      go_wp2_with fail
      refine cW.mono ?_
      rintro e w11 ⟨rfl, ho11⟩
      clear cW
      go_wp2_with fail
      go_ret
      exact ⟨by simp, (HO8.out.trans ho10' (fun _ _ h => h)).trans ho11 (fun _ _ h => h)⟩
end Go.Proofs.Ythimhbfglgnohaa

