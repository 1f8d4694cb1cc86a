/- Modules of numbers, made. -/
import Derived.Test.YthdolanamcmooaaOOrd
import Derived.Test.YthdolanamcmooaaOMadeM
import Derived.Test.YthdolanamcmooaaGArgs
set_option linter.unusedSimpArgs false
set_option linter.unusedVariables false
namespace Go.Proofs.Ythdolanamcmooaa
open Go.RowKit M

theorem infoMod : (Try.prog.info? 102).map (fun i => (i.zero.map (fun z => z.cells.size), i.size, i.bytes)) = some (some 8, 8, 184) := by kernel_rfl
/-- Rows of modules that the call has made. -/
def MOwn (base : Nat) (w : World) (v : Value) (L : List Md) : Prop :=
  ∃ xs, w.ownsRow base 102 8 v L.length xs ∧ ∀ i m, L[i]? = some m → ∃ iv ib, (∀ j u, (mdCells m iv)[j]? = some u → xs[i * 8 + j]? = some u) ∧ Src w ib iv (Strs m.2) ∧ (0 < m.2.length → ib < w.heap.size ∧ v.ownBlock ≠ some ib) ∧ m.2.length ≤ 1000 ∧ m.1.size ≤ maxLen ∧ ∀ s ∈ m.2, s.size ≤ maxLen
theorem MOwn.nil {base : Nat} {w w' : World} {v : Value} {L : List Md} (h : MOwn base w v L) (ho : Only Nil w w') : MOwn base w' v L := by
  obtain ⟨xs, h1, h2⟩ := h
  exact ⟨xs, ownsRow_only h1 ho (fun _ _ h => h), fun i m hi => by
    obtain ⟨iv, ib, q1, q2, q3, q4⟩ := h2 i m hi
    exact ⟨iv, ib, q1, q2.kept ho (fun _ h => h), fun h0 => ⟨Nat.lt_of_lt_of_le (q3 h0).1 ho.size, (q3 h0).2⟩, q4⟩⟩
theorem mdCells_len (m : Md) (iv : Value) : (mdCells m iv).length = 8 := rfl
theorem MOwn.src {base : Nat} {w : World} {v : Value} {L : List Md} (h : MOwn base w v L) (hs : 0 < w.heap.size) : ∃ b, MSrc w.heap.size w b v L := by
  obtain ⟨xs, h1, h2⟩ := h
  by_cases h0 : 0 < L.length
  · obtain ⟨g, cap, rfl, q1, q2, q3, q4⟩ := ownsRow_shape h1 h0
    refine ⟨g, some ⟨g, 0, none⟩, cap, 0, rfl, fun _ => rfl, fun h => by simp at h, q4, fun i m hi => ?_⟩
    obtain ⟨iv, ib, r1, r2, r3, r4⟩ := h2 i m hi
    have hil := (List.getElem?_eq_some_iff.1 hi).1
    by_cases hm0 : 0 < m.2.length
    · refine ⟨iv, ib, fun j u hu => ?_, r2, (r3 hm0).1, r4⟩
      have hj := (List.getElem?_eq_some_iff.1 hu).1
      rw [mdCells_len] at hj
      rw [Nat.zero_add, World.ownsRow.cellAt h1 (i * 8 + j) (by omega)]
      exact r1 j u hu
    · refine ⟨iv, 0, fun j u hu => ?_, ?_, hs, r4⟩
      · have hj := (List.getElem?_eq_some_iff.1 hu).1
        rw [mdCells_len] at hj
        rw [Nat.zero_add, World.ownsRow.cellAt h1 (i * 8 + j) (by omega)]
        exact r1 j u hu
      · obtain ⟨ao, c, off, e, p1, p2, p3⟩ := r2
        exact ⟨ao, c, off, e, fun h => by rw [Strs_len] at h; omega, p2, fun i u hu => by have := (List.getElem?_eq_some_iff.1 hu).1; rw [Strs_len] at this; omega⟩
  · have hl : L = [] := List.eq_nil_of_length_eq_zero (by omega)
    subst hl
    obtain ⟨ao, cap, rfl⟩ := sl_of_own h1
    refine ⟨0, ao, cap, 0, rfl, fun h => absurd h (Nat.lt_irrefl 0), fun h => ?_, hs, fun i m hi => by simp at hi⟩
    subst h
    rcases h1.2 with ⟨h, _⟩ | ⟨g, c, cur, h, _⟩
    · simp only [Value.slice.injEq] at h; exact h.2.2
    · simp only [Value.slice.injEq] at h; cases h.1
theorem conv_one (c : Nat) (hc : c < 256) (w : World) : (convert 23 9 (.slice (some ⟨w.heap.size, 0, none⟩) 1 1)).run Try.prog (w.alloc (.cells #[.int .u8 (c : Int)] 5)) = .ok (.string ⟨#[UInt8.ofNat c]⟩) (w.alloc (.cells #[.int .u8 (c : Int)] 5)) := by
  have hB := Blk.new w #[.int .u8 (c : Int)] 5
  have h := run_convert_bytes_arg (P := Try.prog) (w.alloc (.cells #[.int .u8 (c : Int)] 5)) 23 5 Try.underlying23 Try.underlying5 w.heap.size 0 1 1 [(c : Int)] rfl (fun i hi => by
    have : i = 0 := by omega
    subst this
    exact hB.cell 0) 9 Try.underlying9
  rw [h]
  congr 2

theorem infoMod_parts : ∃ i z, Try.prog.info? 102 = some i ∧ i.zero = some z ∧ i.size = 8 ∧ i.bytes = 184 ∧ z.cells.size = 8 := by
  obtain ⟨i, hi, h⟩ := Option.map_eq_some_iff.1 infoMod
  simp only [Prod.mk.injEq] at h
  obtain ⟨z, hz, h2⟩ := Option.map_eq_some_iff.1 h.1
  exact ⟨i, z, hi, hz, h.2.1, h.2.2, h2⟩
/-- A module more. -/
theorem MOwn.push {base k pm : Nat} {wO w5 wN wX w9 : World} {vv vv' iv : Value} {L : List Md} {xsO : List Value} {m : Md} (hL : L.length = k) (hrow : wO.ownsRow base 102 8 vv k xsO)
    (hm : ∀ i m, L[i]? = some m → ∃ iv ib, (∀ j u, (mdCells m iv)[j]? = some u → xsO[i * 8 + j]? = some u) ∧ Src wO ib iv (Strs m.2) ∧ (0 < m.2.length → ib < wO.heap.size ∧ vv.ownBlock ≠ some ib) ∧ m.2.length ≤ 1000 ∧ m.1.size ≤ maxLen ∧ ∀ s ∈ m.2, s.size ≤ maxLen)
    (h5 : Only Nil wO w5) (hpm : wO.heap.size < pm) (hox : Only (M.One pm) w5 wN) (hri : wN.ownsRow w5.heap.size 9 1 iv m.2.length (Strs m.2)) (hX : Only Nil wN wX)
    (hown : w9.ownsRow base 102 8 vv' (k + 1) (xsO ++ mdCells m iv)) (hg : Moved wX vv vv') (h9 : Only (Own vv.ownBlock) wX w9)
    (z1 : m.2.length ≤ 1000) (z2 : m.1.size ≤ maxLen) (z3 : ∀ s ∈ m.2, s.size ≤ maxLen) : MOwn base w9 vv' (L ++ [m]) := by
  have hxl : xsO.length = k * 8 := hrow.1
  have s1 := h5.size
  have s2 := hox.size
  have s3 := hX.size
  have s4 := h9.size
  have vlt : ∀ q, vv.ownBlock = some q → q < wO.heap.size := fun q hq => (hrow.lt q hq).2
  refine ⟨_, by rw [List.length_append, hL]; exact hown, fun i m' hi => ?_⟩
  by_cases hik : i < k
  · rw [List.getElem?_append_left (by omega)] at hi
    obtain ⟨iv', ib, q1, q2, q3, q4⟩ := hm i m' hi
    refine ⟨iv', ib, fun j u hu => ?_, ?_, fun h0 => ?_, q4⟩
    · have hj := (List.getElem?_eq_some_iff.1 hu).1
      rw [mdCells_len] at hj
      rw [List.getElem?_append_left (by omega)]
      exact q1 j u hu
    · have h1 := q2.kept h5 (fun _ h => h)
      have h2 := h1.kept hox (fun h0 h => by rw [Strs_len] at h0; have := (q3 h0).1; have h3 : ib = pm := h; omega)
      have h3 := h2.kept hX (fun _ h => h)
      exact h3.kept h9 (fun h0 h => by rw [Strs_len] at h0; exact (q3 h0).2 h.symm)
    · refine ⟨by have := (q3 h0).1; omega, ?_⟩
      rcases hg with h | ⟨q, h, hq⟩
      · rw [h]; exact (q3 h0).2
      · rw [h]; intro e; injection e with e; have := (q3 h0).1; omega
  · have hik2 : i = k := by have := (List.getElem?_eq_some_iff.1 hi).1; simp at this; omega
    subst hik2
    rw [List.getElem?_append_right (by omega), hL, Nat.sub_self] at hi
    have hi : m = m' := by simpa using hi
    subst hi
    have hsr : Src wN _ iv (Strs m.2) := Src.of_own hri
    have hb : 0 < m.2.length → ∃ g, iv.ownBlock = some g ∧ w5.heap.size ≤ g ∧ g < wN.heap.size := fun h0 => by
      obtain ⟨g, c, h1, h2, _, _, h3⟩ := ownsRow_shape hri h0
      exact ⟨g, by rw [h1]; rfl, h2, h3⟩
    refine ⟨iv, iv.ownBlock.getD 0, fun j u hu => ?_, ?_, fun h0 => ?_, z1, z2, z3⟩
    · have hj := (List.getElem?_eq_some_iff.1 hu).1
      rw [List.getElem?_append_right (by omega), show i * 8 + j - xsO.length = j by omega]
      exact hu
    · have h3 := hsr.kept hX (fun _ h => h)
      refine h3.kept h9 (fun h0 h => ?_)
      rw [Strs_len] at h0
      obtain ⟨g, e, g1, g2⟩ := hb h0
      rw [e] at h
      have := vlt g h.symm
      omega
    · obtain ⟨g, e, g1, g2⟩ := hb h0
      rw [e]
      refine ⟨by show g < _; omega, ?_⟩
      show vv'.ownBlock ≠ some g
      rcases hg with h | ⟨q, h, hq⟩
      · rw [h]; intro e2; have := vlt g e2; omega
      · rw [h]; intro e; injection e with e; omega
theorem bit32 (z j : Nat) (hz : z < 4294967296) : (bits BinOp.and IntKind.u32 ((z : Int) / 2 ^ j) 1 == 1) = decide (z / 2 ^ j % 2 = 1) := by
  have e : (z : Int) / 2 ^ j = ((z / 2 ^ j : Nat) : Int) := by simp
  have h : z / 2 ^ j < 2 ^ IntKind.u32.bits := Nat.lt_of_le_of_lt (Nat.div_le_self _ _) hz
  have := bits_and_nat .u32 rfl (z / 2 ^ j) 1 h (by decide)
  rw [e]
  rw [show ((1 : Nat) : Int) = 1 from rfl] at this
  rw [this, Nat.and_one_is_mod]
  rcases Nat.mod_two_eq_zero_or_one (z / 2 ^ j) with h | h <;> simp [h]
theorem bit20 (z : Nat) (hz : z < 4294967296) : (bits BinOp.and IntKind.u32 ((z : Int) / 1048576) 1 == 1) = decide (z / 1048576 % 2 = 1) := bit32 z 20 hz
def mvCells (nm : ByteArray) (iv : Value) : Array Value := #[.string nm, iv, .slice none 0 0, .slice none 0 0, .slice none 0 0, .slice none 0 0, .slice none 0 0, .slice none 0 0]
/-- The module that is being made. -/
def MV (w5 wx : World) (pm : Nat) (nm : ByteArray) (acc : List ByteArray) : Prop :=
  ∃ iv, Blk wx pm (mvCells nm iv) 102 ∧ wx.ownsRow w5.heap.size 9 1 iv acc.length (Strs acc) ∧ Only (M.One pm) w5 wx
/-- An import more. -/
theorem MV.more {w5 wx w1 : World} {pm g cap : Nat} {nm s : ByteArray} {acc : List ByteArray} {iv : Value} (hpm : pm < w5.heap.size) (hB : Blk wx pm (mvCells nm iv) 102) (hr : wx.ownsRow w5.heap.size 9 1 iv acc.length (Strs acc)) (ho : Only (M.One pm) w5 wx)
    (hown : w1.ownsRow w5.heap.size 9 1 (.slice (some ⟨g, 0, none⟩) (acc.length + 1) cap) (acc.length + 1) (Strs acc ++ [.string s])) (hg : some g = iv.ownBlock ∨ wx.heap.size ≤ g) (h1 : Only (Own iv.ownBlock) wx w1) :
    Blk w1 pm (mvCells nm iv) 102 ∧ MV w5 (w1.setCell ⟨pm, 1, none⟩ (.slice (some ⟨g, 0, none⟩) (acc.length + 1) cap)) pm nm (acc ++ [s]) := by
  have hgp : g ≠ pm := by
    rcases hg with h | h
    · have := (hr.lt g h.symm).1; omega
    · have := hB.lt; omega
  have hn : ¬ Own iv.ownBlock pm := fun h => by have := (hr.lt pm h.symm).1; omega
  have hB1 := hB.kept h1 hn
  have hB2 := hB1.setCell 1 (.slice (some ⟨g, 0, none⟩) (acc.length + 1) cap)
  have ho2 : Only (M.One pm) w1 (w1.setCell ⟨pm, 1, none⟩ (.slice (some ⟨g, 0, none⟩) (acc.length + 1) cap)) := (Only.refl (M.One pm) w1).setCell' (M.One pm) rfl _
  refine ⟨hB1, _, hB2, ?_, ?_⟩
  · rw [List.length_append, Strs_snoc]
    exact ownsRow_only hown ho2 (fun k hk h => by
      have h2 : k = pm := h
      have h3 : g = k := by simpa [Value.ownBlock] using hk
      exact hgp (by rw [h3, h2]))
  · exact (ho.trans h1 (fun i hi h => by have := (hr.lt i h.symm).1; omega)).trans ho2 (fun _ _ h => h)

set_option maxRecDepth 100000 in
set_option maxHeartbeats 6400000 in
theorem made_any (tw : Bool) (a : Option Addr) (n cap mb0 : Nat) (zs : List Nat) (w : World) (hn : zs.length = n) (hs : Src w mb0 (.slice a n cap) (zs.map fun (x : Nat) => Value.int .u32 x)) (hz : ∀ z ∈ zs, z < 4294967296) (hn9 : n ≤ 18) :
    Calls Try.prog 54 #[.slice a n cap, .bool tw] w fun e w' => ∃ v, e = .returned v ∧ MOwn w.heap.size w' v (madeK tw n zs n) ∧ Only Nil w w' := by
  obtain ⟨i0, hi0, hz0, hz1, hz2⟩ := info_parts infoStr
  obtain ⟨ao, cap', off, e, p1, p2, p3⟩ := hs
  simp only [Value.slice.injEq] at e
  obtain ⟨rfl, hxx, rfl⟩ := e
  rw [List.length_map, hn] at p1
  have HN := Lib.hid hn
  have H1 := Lib.hid p3
  have G1 := Lib.hid p1
  have HZ := Lib.hid hz
  have cv := fun c (hc : c < 256) w => conv_one c hc w
  clear hxx hn p1 p2 p3 hz
  go_enter Try.func54, Try.ntmps54
  go_wp2_with fail
  go_loopg [5, 6] n (fun g v i wr => ∃ (k : Nat) (vv : Value), i = .int .i64 (k : Int) ∧ v = vv ∧ k ≤ n ∧ g = n - k ∧ MOwn w.heap.size wr vv (madeK tw n zs k) ∧ Only Nil w wr)
  case atStart => exact ⟨0, _, rfl, rfl, Nat.zero_le _, rfl, ⟨[], World.ownsRow_nil _ _ _ _, fun i m hi => by simp [madeK] at hi⟩, Only.refl _ _⟩
  case round =>
    obtain ⟨k, vv, rfl, rfl, hk, hg, hown, ho⟩ := hrel
    have HG := Lib.hid hg
    have HOWN := Lib.hid hown
    have HO := Lib.hid ho
    have k0 : (0 : Int) ≤ (k : Int) := Int.natCast_nonneg _
    by_cases hkn : k < n
    · have k1 : (k : Int) < (n : Int) := by omega
      obtain ⟨z, hz⟩ : ∃ z, zs[k]? = some z := ⟨_, List.getElem?_eq_getElem (by rw [HN.out]; exact hkn)⟩
      have hzb := HZ.out z (List.mem_of_getElem? hz)
      have HZK := Lib.hid (show zs.getD k 0 = z by simp [List.getD, hz])
      have e1 := G1.out (by omega)
      subst e1
      have hzc : (zs.map fun (x : Nat) => Value.int .u32 x)[k]? = some (.int .u32 (z : Int)) := by rw [List.getElem?_map, hz]; rfl
      have t1 := ho.cell (H1.out k _ hzc) (fun h => h)
      have cvk : ∀ w : World, (convert 23 9 (.slice (some ⟨w.heap.size, 0, none⟩) 1 1)).run Try.prog (w.alloc (.cells #[.int .u8 (97 + (k : Int))] 5)) = .ok (.string ⟨#[UInt8.ofNat (97 + k)]⟩) (w.alloc (.cells #[.int .u8 (97 + (k : Int))] 5)) := fun w => by have h := conv_one (97 + k) (by omega) w; simpa using h
      obtain ⟨S, hS⟩ : ∃ S : ByteArray, ⟨#[UInt8.ofNat (97 + k)]⟩ = S := ⟨_, rfl⟩
      rw [hS] at cvk
      have hSz : S.size = 1 := by rw [← hS]; rfl
      have wk : IntKind.u8.wrap (k : Int) = (k : Int) := by rw [wrap_u8]; omega
      obtain ⟨xsO, hrow, hmods⟩ := hown
      rw [madeK_len] at hrow
      obtain ⟨aV, cV, hvv⟩ := sl_of_own hrow
      subst hvv
      have HROW := Lib.hid hrow
      have HMO := Lib.hid hmods
      clear hg hrow hmods ho hz hzc cv
      have hltz := World.block_lt_of_cell? wr _ t1
      go_upto_region 6 with fail
      obtain ⟨nm, hnm⟩ : ∃ nm : ByteArray, (⟨#[77]⟩ : ByteArray) ++ S = nm := ⟨_, rfl⟩
      rw [hnm]
      have HNM := Lib.hid (show nm = txM k by rw [← hnm, ← hS]; rfl)
      have hoA : Only Nil wr (wr.alloc (.cells #[.int .u8 (97 + (k : Int))] 5)) := (Only.refl _ _).alloc _
      obtain ⟨wA, hwA⟩ : ∃ wA, wr.alloc (.cells #[.int .u8 (97 + (k : Int))] 5) = wA := ⟨_, rfl⟩
      have hszA : wA.heap.size = wr.heap.size + 1 := by rw [← hwA]; simp
      rw [hwA] at hoA ⊢
      have hBm := Blk.new wA #[.string nm, .slice none 0 0, .slice none 0 0, .slice none 0 0, .slice none 0 0, .slice none 0 0, .slice none 0 0, .slice none 0 0] 102
      have hoB : Only Nil wA (wA.alloc (.cells #[.string nm, .slice none 0 0, .slice none 0 0, .slice none 0 0, .slice none 0 0, .slice none 0 0, .slice none 0 0, .slice none 0 0] 102)) := (Only.refl _ _).alloc _
      obtain ⟨w5, hw5⟩ : ∃ w5, wA.alloc (.cells #[.string nm, .slice none 0 0, .slice none 0 0, .slice none 0 0, .slice none 0 0, .slice none 0 0, .slice none 0 0, .slice none 0 0] 102) = w5 := ⟨_, rfl⟩
      rw [hw5] at hBm hoB ⊢
      rw [hszA] at hBm
      obtain ⟨pm, hpm⟩ : ∃ pm, wr.heap.size + 1 = pm := ⟨_, rfl⟩
      rw [hpm] at hBm ⊢
      have HPM := Lib.hid (show wr.heap.size < pm by omega)
      have HNEB := Lib.hid (show mb0 ≠ pm by have h9 : mb0 < wr.heap.size := hltz; omega)
      have HO5 := Lib.hid (hoA.trans hoB (fun _ _ h => h))
      have HBM := Lib.hid hBm
      have t5 := HO5.out.cell t1 (fun h => h)
      have hlt5 := World.block_lt_of_cell? w5 _ t5
      clear hnm hS hSz cvk wk hoA hwA hszA hoB hw5 hpm t1 hltz hBm
      go_upto_if 28 with fail
      have b20 := bit20 z hzb
      have HM0 := Lib.hid (show MV w5 w5 pm nm [] from ⟨_, HBM.out, World.ownsRow_nil _ _ _ _, Only.refl _ _⟩)
      have hp5 := HBM.out.lt
      go_cut [7] (fun s7 wx => s7 = .pointer (some ⟨pm, 0, none⟩) ∧ MV w5 wx pm nm (outI z))
      case first =>
        by_cases gz : z / 1048576 % 2 = 1
        · rw [decide_eq_true gz] at b20
          have HOI := Lib.hid (show outI z = [] ++ [outB] by unfold outI; rw [if_pos gz]; rfl)
          have d1 := HBM.out.cell 1
          have d1' : w5.cell? ⟨pm, 1, none⟩ = some (.slice none 0 0) := d1
          have f1 := HBM.out.free 1
          clear gz d1
          go_upto_region 8 with (with_reducible refine wpList_append_one rfl _ _ 70 rfl w5.heap.size 9 i0 (.string ByteArray.empty) 16 Try.underlying70 hi0 hz0 hz1 hz2 rfl _ _ _ rfl (World.ownsRow_nil _ _ _ _) _ rfl rfl (by simp [maxLen]) (by omega) (Nat.le_refl _) ?_)
          intro g2 cap2 w1 hown1 hc1 hc2 hg1 ho1
          obtain ⟨hB1, hMV⟩ := MV.more (nm := nm) (s := outB) (acc := []) (iv := .slice none 0 0) hp5 HBM.out (World.ownsRow_nil _ _ _ _) (Only.refl _ _) hown1 hg1 ho1
          have HMV := Lib.hid hMV
          have l1 := hB1.lt
          have d2 : w1.cell? ⟨pm, 1, none⟩ = some (.slice none 0 0) := hB1.cell 1
          have f2 := hB1.free 1
          clear hown1 hg1 ho1 hB1 hMV
          go_upto_region 8 with fail
          go_meet
          exact ⟨rfl, by rw [HOI.out]; exact HMV.out⟩
        · rw [decide_eq_false gz] at b20
          have HOI := Lib.hid (show outI z = [] by unfold outI; rw [if_neg gz])
          clear gz
          go_upto_region 8 with fail
          go_meet
          exact ⟨rfl, by rw [HOI.out]; exact HM0.out⟩
      case rest =>
        obtain ⟨rfl, hMV⟩ := hcut
        have hoi := outI_len z
        obtain ⟨O, hO⟩ : ∃ O, outI z = O := ⟨_, rfl⟩
        rw [hO] at hMV hoi
        have HOO := Lib.hid hO
        have HMV := Lib.hid hMV
        clear hMV hO b20
        have hnp : n + 1 ≤ 19 := by omega
        go_wp2_with fail
        go_loopg [8] (n + 1) (fun g j wr => ∃ (i : Nat), j = .int .i64 (i : Int) ∧ i ≤ n + 1 ∧ g = n + 1 - i ∧ MV w5 wr pm nm (O ++ bitsI z i))
        case atStart => exact ⟨0, rfl, Nat.zero_le _, rfl, by simpa [bitsI] using HMV.out⟩
        case round =>
          clear HMV
          obtain ⟨j, rfl, hj, hg, hMV⟩ := hrel
          have HGJ := Lib.hid hg
          clear hg
          have j0 : (0 : Int) ≤ (j : Int) := Int.natCast_nonneg _
          have hbl := bitsI_len z j
          obtain ⟨A, hA⟩ : ∃ A, O ++ bitsI z j = A := ⟨_, rfl⟩
          have hAl : A.length ≤ 30 := by rw [← hA, List.length_append]; omega
          rw [hA] at hMV
          have HAA := Lib.hid hA
          clear hA hbl
          obtain ⟨iv, hBx, hrx, hox⟩ := hMV
          have t6 := hox.cell t5 (fun h => by
            have h1 : mb0 = pm := h
            have := HPM.out
            have h2 := World.block_lt_of_cell? w5 _ t5
            exact (HNEB.out h1))
          have hlt6 := World.block_lt_of_cell? wr _ t6
          have hltp := hBx.lt
          obtain ⟨aI, cI, hiv⟩ := sl_of_own hrx
          subst hiv
          obtain ⟨na, hna⟩ : ∃ na, A.length = na := ⟨_, rfl⟩
          have HBX := Lib.hid hBx
          have HRX := Lib.hid hrx
          have HOX := Lib.hid hox
          rw [hna] at hrx hAl
          have HNA := Lib.hid hna
          have d1 : wr.cell? ⟨pm, 1, none⟩ = some (.slice aI na cI) := by rw [← hna]; exact hBx.cell 1
          have f1 := hBx.free 1
          by_cases hjn : j < n + 1
          · have j1 : (j : Int) < (n : Int) + 1 := by omega
            have j2 : (j : Int) < 20 := by omega
            have bj := bit32 z j hzb
            by_cases gz : z / 2 ^ j % 2 = 1
            · rw [decide_eq_true gz] at bj
              have HBI := Lib.hid (show O ++ bitsI z (j + 1) = A ++ [txM j] by rw [← HAA.out, bitsI, if_pos gz, List.append_assoc])
              have cvj : ∀ w : World, (convert 23 9 (.slice (some ⟨w.heap.size, 0, none⟩) 1 1)).run Try.prog (w.alloc (.cells #[.int .u8 (97 + (j : Int))] 5)) = .ok (.string ⟨#[UInt8.ofNat (97 + j)]⟩) (w.alloc (.cells #[.int .u8 (97 + (j : Int))] 5)) := fun w => by have h := conv_one (97 + j) (by omega) w; simpa using h
              obtain ⟨S2, hS2⟩ : ∃ S : ByteArray, ⟨#[UInt8.ofNat (97 + j)]⟩ = S := ⟨_, rfl⟩
              rw [hS2] at cvj
              have hSz2 : S2.size = 1 := by rw [← hS2]; rfl
              have wj : IntKind.u8.wrap (j : Int) = (j : Int) := by rw [wrap_u8]; omega
              have HTX := Lib.hid (show (⟨#[77]⟩ : ByteArray) ++ S2 = txM j by rw [← hS2]; rfl)
              have hrA : (wr.alloc (.cells #[.int .u8 (97 + (j : Int))] 5)).ownsRow w5.heap.size 9 1 (.slice aI na cI) na (Strs A) := ownsRow_only hrx ((Only.refl Nil wr).alloc _) (fun _ _ h => h)
              have hb5 : w5.heap.size ≤ (wr.alloc (.cells #[.int .u8 (97 + (j : Int))] 5)).heap.size := by have := HOX.out.size; simp; omega
              clear gz hS2 hBx hrx hox hna
              go_wp2_with (with_reducible refine wpList_append_oneA rfl _ _ 70 rfl w5.heap.size 9 i0 (.string ByteArray.empty) 16 Try.underlying70 hi0 hz0 hz1 hz2 rfl _ _ _ rfl hrA _ rfl _ rfl (by simp) (by simp [maxLen]; omega) (by omega) hb5 ?_)
              intro g2 cap2 w1 hown1 hc1 hc2 hg1 ho1
              rw [HTX.out] at hown1
              have hn0 := HNA.out
              subst hn0
              have hoA : Only Nil wr (wr.alloc (.cells #[.int .u8 (97 + (j : Int))] 5)) := (Only.refl Nil wr).alloc _
              obtain ⟨hB1, hMV1⟩ := MV.more (nm := nm) (s := txM j) (acc := A) (iv := .slice aI A.length cI) hp5 (HBX.out.kept hoA (fun h => h)) hrA (HOX.out.trans (hoA.mono (fun _ h => (h.elim : M.One pm _))) (fun _ _ h => h)) hown1 (by simpa using hg1) ho1
              have HMV1 := Lib.hid hMV1
              have l1 := hB1.lt
              have d2 : w1.cell? ⟨pm, 1, none⟩ = some (.slice aI A.length cI) := hB1.cell 1
              have f2 := hB1.free 1
              clear hown1 hg1 ho1 hB1 hMV1 hoA hrA cvj
              go_wp2_with fail
              go_roundg (n + 1 - (j + 1))
              case measure => have := HGJ.out; omega
              case rel => exact ⟨j + 1, by go_num, by omega, rfl, by rw [HBI.out]; exact HMV1.out⟩
            · rw [decide_eq_false gz] at bj
              have HBI := Lib.hid (show O ++ bitsI z (j + 1) = A by rw [← HAA.out, bitsI, if_neg gz])
              clear gz hBx hrx hox hna
              go_wp2_with fail
              go_roundg (n + 1 - (j + 1))
              case measure => have := HGJ.out; omega
              case rel => exact ⟨j + 1, by go_num, by omega, rfl, by rw [HBI.out]; exact ⟨_, HBX.out, HRX.out, HOX.out⟩⟩
          · have hjn' : j = n + 1 := by omega
            subst hjn'
            have jf : decide (((n + 1 : Nat) : Int) < (n : Int) + 1) = false := by simp
            have je : ((n + 1 : Nat) : Int) = (n : Int) + 1 := by omega
            have HAM := Lib.hid (show madeM tw n z k = (nameI tw k, A) by unfold madeM; rw [HOO.out, Nat.min_eq_left (by omega), HAA.out])
            obtain ⟨iM, zM, hiM, hzM, hsM, hbM, hzzM⟩ := infoMod_parts
            have HZS := Lib.hid (made_sizes tw n z k)
            have HMK := Lib.hid (show madeK tw n zs (k + 1) = madeK tw n zs k ++ [madeM tw n z k] by show madeK tw n zs k ++ [madeM tw n (zs.getD k 0) k] = _; rw [HZK.out])
            have d0 : wr.cell? ⟨pm, 0, none⟩ = some (.string nm) := hBx.cell 0
            have f0 := hBx.free 0
            have e2 : wr.cell? ⟨pm, 2, none⟩ = some (.slice none 0 0) := hBx.cell 2
            have e3 : wr.cell? ⟨pm, 3, none⟩ = some (.slice none 0 0) := hBx.cell 3
            have e4 : wr.cell? ⟨pm, 4, none⟩ = some (.slice none 0 0) := hBx.cell 4
            have e5 : wr.cell? ⟨pm, 5, none⟩ = some (.slice none 0 0) := hBx.cell 5
            have e6 : wr.cell? ⟨pm, 6, none⟩ = some (.slice none 0 0) := hBx.cell 6
            have e7 : wr.cell? ⟨pm, 7, none⟩ = some (.slice none 0 0) := hBx.cell 7
            have hk18 : k ≤ 18 := by omega
            clear hBx hrx hox
            by_cases hno : tw = true ∧ 2 < k
            · obtain ⟨rfl, hk2⟩ := hno
              have hk3 : (2 : Int) < (k : Int) := by omega
              have hNE : nameI true k = mbB := by unfold nameI; rw [if_pos ⟨rfl, hk2⟩]
              have HNE := Lib.hid hNE
              have hoN : Only (M.One pm) wr (wr.setCell ⟨pm, 0, none⟩ (.string mbB)) := (Only.refl (M.One pm) wr).setCell' (M.One pm) rfl _
              have HOXN := Lib.hid (HOX.out.trans hoN (fun _ _ h => h))
              have HRN := Lib.hid (show (wr.setCell ⟨pm, 0, none⟩ (.string mbB)).ownsRow w5.heap.size 9 1 (.slice aI na cI) na (Strs A) by
                rw [← HNA.out]
                exact ownsRow_only HRX.out hoN (fun q hq h => by have h1 := (HRX.out.lt q hq).1; have h2 : q = pm := h; omega))
              have hrowN := ownsRow_only (ownsRow_only HROW.out HO5.out (fun _ _ h => h)) HOXN.out (fun q hq h => by have h1 := (HROW.out.lt q hq).2; have h2 : q = pm := h; have := HPM.out; omega)
              have hB2 := HBX.out.setCell 0 (.string mbB)
              obtain ⟨wN, hwN⟩ : ∃ wN, wr.setCell ⟨pm, 0, none⟩ (.string mbB) = wN := ⟨_, rfl⟩
              rw [hwN] at HOXN HRN hrowN hB2
              have HROWN := Lib.hid hrowN
              clear hoN hrowN hNE
              go_upto_region 15 with fail
              rw [show (wr.setCell ⟨pm, 0, none⟩ (.string ⟨#[77, 98]⟩)) = wN from hwN]
              have g0 : wN.cell? ⟨pm, 0, none⟩ = some (.string mbB) := hB2.cell 0
              have g1 : wN.cell? ⟨pm, 1, none⟩ = some (.slice aI na cI) := by rw [← HNA.out]; exact hB2.cell 1
              have g2 : wN.cell? ⟨pm, 2, none⟩ = some (.slice none 0 0) := hB2.cell 2
              have g3 : wN.cell? ⟨pm, 3, none⟩ = some (.slice none 0 0) := hB2.cell 3
              have g4 : wN.cell? ⟨pm, 4, none⟩ = some (.slice none 0 0) := hB2.cell 4
              have g5 : wN.cell? ⟨pm, 5, none⟩ = some (.slice none 0 0) := hB2.cell 5
              have g6 : wN.cell? ⟨pm, 6, none⟩ = some (.slice none 0 0) := hB2.cell 6
              have g7 : wN.cell? ⟨pm, 7, none⟩ = some (.slice none 0 0) := hB2.cell 7
              have hltN := hB2.lt
              clear hB2 hwN d0 d1 e2 e3 e4 e5 e6 e7
              go_wp2_with (at_builtin; go_loud (refine wpList_append_row rfl _ _ 86 rfl w.heap.size 102 iM zM 8 184 Try.underlying86 hiM hzM hsM hbM hzzM (by decide) _ k xsO rfl (ownsRow_only HROWN.out ((Only.refl Nil wN).alloc _) (fun _ _ h => h)) _ 1 1 (mdCells (mbB, A) (.slice aI na cI)) rfl rfl ?c1A ?c2A (by decide) (by simp [maxLen]; omega) (by omega) ?c3A ?_))
              case c1A => intro j u hj; simpa [mdCells] using hj
              case c2A => intro u hu; simp only [mdCells, List.mem_cons, List.not_mem_nil, or_false] at hu; rcases hu with rfl | rfl | rfl | rfl | rfl | rfl | rfl | rfl <;> rfl
              case c3A => have h1 := HO.out.size; have h2 := HO5.out.size; have h3 := HOXN.out.size; (try simp only [World.size_alloc]); omega
              intro g9 cap9 w9 hown9 hc1 hc2 hg9 ho9
              have hoX : Only Nil (wN) ((wN).alloc (.cells (mdCells (mbB, A) (.slice aI na cI)).toArray 102)) := (Only.refl _ _).alloc _
              have hP := MOwn.push (m := (mbB, A)) (madeK_len _ n zs k) HROW.out HMO.out HO5.out HPM.out HOXN.out (by show World.ownsRow _ _ _ _ _ A.length _; rw [HNA.out]; exact HRN.out) hoX hown9 (by
                rcases hg9 with h | h
                · left; exact h
                · right; exact ⟨g9, rfl, by simpa using h⟩) ho9 (by have := HZS.out.2.2; rw [HAM.out] at this; show A.length ≤ 1000; have h2 : A.length ≤ 21 := this; omega) (by have h := HZS.out.1; rw [HAM.out, HNE.out] at h; show (mbB).size ≤ maxLen; have h2 : (mbB).size = 2 := h; rw [h2]; decide) (by
                intro s hs
                have := HZS.out.2.1
                rw [HAM.out] at this
                have h2 := this s hs
                unfold maxLen; omega)
              have HP := Lib.hid hP
              have hS1 : Only (fun q => q = pm ∨ Own (Value.slice aV k cV).ownBlock q) w5 (wN.alloc (.cells (mdCells (mbB, A) (.slice aI na cI)).toArray 102)) := (HOXN.out.mono (fun q h => (Or.inl h : q = pm ∨ Own (Value.slice aV k cV).ownBlock q))).trans (hoX.mono (fun _ h => (h.elim : _ = pm ∨ Own (Value.slice aV k cV).ownBlock _))) (fun _ _ h => h)
              have hS2 : Only (fun q => q = pm ∨ Own (Value.slice aV k cV).ownBlock q) w5 w9 := hS1.trans (ho9.mono (fun q h => (Or.inr h : q = pm ∨ Own (Value.slice aV k cV).ownBlock q))) (fun _ _ h => h)
              have HON := Lib.hid (show Only Nil w w9 from (HO.out.trans HO5.out (fun _ _ h => h)).trans hS2 (fun i hi h => by
                rcases h with h | h
                · have := HPM.out; have := HO.out.size; omega
                · have := (HROW.out.lt i h.symm).1; omega))
              clear hown9 hg9 ho9 hoX hP hS1 hS2
              go_wp2_with fail
              go_roundg (n - (k + 1))
              case measure => have := HG.out; omega
              case rel => exact ⟨k + 1, _, by go_num, rfl, by omega, rfl, by rw [HMK.out, HAM.out, HNE.out]; exact HP.out, HON.out⟩
            · have hNE : nameI tw k = nm := by unfold nameI; rw [if_neg hno, HNM.out]
              have HNE := Lib.hid hNE
              have HOXN := HOX
              have HRN := Lib.hid (show wr.ownsRow w5.heap.size 9 1 (.slice aI na cI) na (Strs A) by rw [← HNA.out]; exact HRX.out)
              have hrowN := ownsRow_only (ownsRow_only HROW.out HO5.out (fun _ _ h => h)) HOXN.out (fun q hq h => by have h1 := (HROW.out.lt q hq).2; have h2 : q = pm := h; have := HPM.out; omega)
              have HROWN := Lib.hid hrowN
              have hno2 : tw = false ∨ (tw = true ∧ decide ((2 : Int) < (k : Int)) = false) := by
                cases htw : tw
                · exact Or.inl rfl
                · exact Or.inr ⟨rfl, by simp; have : ¬ 2 < k := fun h => hno ⟨htw, h⟩; omega⟩
              clear hrowN hNE hno
              rcases hno2 with rfl | ⟨rfl, hk2⟩
              · skip
                go_wp2_with (at_builtin; go_loud (refine wpList_append_row rfl _ _ 86 rfl w.heap.size 102 iM zM 8 184 Try.underlying86 hiM hzM hsM hbM hzzM (by decide) _ k xsO rfl (ownsRow_only HROWN.out ((Only.refl Nil wr).alloc _) (fun _ _ h => h)) _ 1 1 (mdCells (nm, A) (.slice aI na cI)) rfl rfl ?c1B ?c2B (by decide) (by simp [maxLen]; omega) (by omega) ?c3B ?_))
                case c1B => intro j u hj; simpa [mdCells] using hj
                case c2B => intro u hu; simp only [mdCells, List.mem_cons, List.not_mem_nil, or_false] at hu; rcases hu with rfl | rfl | rfl | rfl | rfl | rfl | rfl | rfl <;> rfl
                case c3B => have h1 := HO.out.size; have h2 := HO5.out.size; have h3 := HOXN.out.size; (try simp only [World.size_alloc]); omega
                intro g9 cap9 w9 hown9 hc1 hc2 hg9 ho9
                have hoX : Only Nil (wr) ((wr).alloc (.cells (mdCells (nm, A) (.slice aI na cI)).toArray 102)) := (Only.refl _ _).alloc _
                have hP := MOwn.push (m := (nm, A)) (madeK_len _ n zs k) HROW.out HMO.out HO5.out HPM.out HOXN.out (by show World.ownsRow _ _ _ _ _ A.length _; rw [HNA.out]; exact HRN.out) hoX hown9 (by
                  rcases hg9 with h | h
                  · left; exact h
                  · right; exact ⟨g9, rfl, by simpa using h⟩) ho9 (by have := HZS.out.2.2; rw [HAM.out] at this; show A.length ≤ 1000; have h2 : A.length ≤ 21 := this; omega) (by have h := HZS.out.1; rw [HAM.out, HNE.out] at h; show (nm).size ≤ maxLen; have h2 : (nm).size = 2 := h; rw [h2]; decide) (by
                  intro s hs
                  have := HZS.out.2.1
                  rw [HAM.out] at this
                  have h2 := this s hs
                  unfold maxLen; omega)
                have HP := Lib.hid hP
                have hS1 : Only (fun q => q = pm ∨ Own (Value.slice aV k cV).ownBlock q) w5 (wr.alloc (.cells (mdCells (nm, A) (.slice aI na cI)).toArray 102)) := (HOXN.out.mono (fun q h => (Or.inl h : q = pm ∨ Own (Value.slice aV k cV).ownBlock q))).trans (hoX.mono (fun _ h => (h.elim : _ = pm ∨ Own (Value.slice aV k cV).ownBlock _))) (fun _ _ h => h)
                have hS2 : Only (fun q => q = pm ∨ Own (Value.slice aV k cV).ownBlock q) w5 w9 := hS1.trans (ho9.mono (fun q h => (Or.inr h : q = pm ∨ Own (Value.slice aV k cV).ownBlock q))) (fun _ _ h => h)
                have HON := Lib.hid (show Only Nil w w9 from (HO.out.trans HO5.out (fun _ _ h => h)).trans hS2 (fun i hi h => by
                  rcases h with h | h
                  · have := HPM.out; have := HO.out.size; omega
                  · have := (HROW.out.lt i h.symm).1; omega))
                clear hown9 hg9 ho9 hoX hP hS1 hS2
                go_wp2_with fail
                go_roundg (n - (k + 1))
                case measure => have := HG.out; omega
                case rel => exact ⟨k + 1, _, by go_num, rfl, by omega, rfl, by rw [HMK.out, HAM.out, HNE.out]; exact HP.out, HON.out⟩
              · skip
                go_wp2_with (at_builtin; go_loud (refine wpList_append_row rfl _ _ 86 rfl w.heap.size 102 iM zM 8 184 Try.underlying86 hiM hzM hsM hbM hzzM (by decide) _ k xsO rfl (ownsRow_only HROWN.out ((Only.refl Nil wr).alloc _) (fun _ _ h => h)) _ 1 1 (mdCells (nm, A) (.slice aI na cI)) rfl rfl ?c1C ?c2C (by decide) (by simp [maxLen]; omega) (by omega) ?c3C ?_))
                case c1C => intro j u hj; simpa [mdCells] using hj
                case c2C => intro u hu; simp only [mdCells, List.mem_cons, List.not_mem_nil, or_false] at hu; rcases hu with rfl | rfl | rfl | rfl | rfl | rfl | rfl | rfl <;> rfl
                case c3C => have h1 := HO.out.size; have h2 := HO5.out.size; have h3 := HOXN.out.size; (try simp only [World.size_alloc]); omega
                intro g9 cap9 w9 hown9 hc1 hc2 hg9 ho9
                have hoX : Only Nil (wr) ((wr).alloc (.cells (mdCells (nm, A) (.slice aI na cI)).toArray 102)) := (Only.refl _ _).alloc _
                have hP := MOwn.push (m := (nm, A)) (madeK_len _ n zs k) HROW.out HMO.out HO5.out HPM.out HOXN.out (by show World.ownsRow _ _ _ _ _ A.length _; rw [HNA.out]; exact HRN.out) hoX hown9 (by
                  rcases hg9 with h | h
                  · left; exact h
                  · right; exact ⟨g9, rfl, by simpa using h⟩) ho9 (by have := HZS.out.2.2; rw [HAM.out] at this; show A.length ≤ 1000; have h2 : A.length ≤ 21 := this; omega) (by have h := HZS.out.1; rw [HAM.out, HNE.out] at h; show (nm).size ≤ maxLen; have h2 : (nm).size = 2 := h; rw [h2]; decide) (by
                  intro s hs
                  have := HZS.out.2.1
                  rw [HAM.out] at this
                  have h2 := this s hs
                  unfold maxLen; omega)
                have HP := Lib.hid hP
                have hS1 : Only (fun q => q = pm ∨ Own (Value.slice aV k cV).ownBlock q) w5 (wr.alloc (.cells (mdCells (nm, A) (.slice aI na cI)).toArray 102)) := (HOXN.out.mono (fun q h => (Or.inl h : q = pm ∨ Own (Value.slice aV k cV).ownBlock q))).trans (hoX.mono (fun _ h => (h.elim : _ = pm ∨ Own (Value.slice aV k cV).ownBlock _))) (fun _ _ h => h)
                have hS2 : Only (fun q => q = pm ∨ Own (Value.slice aV k cV).ownBlock q) w5 w9 := hS1.trans (ho9.mono (fun q h => (Or.inr h : q = pm ∨ Own (Value.slice aV k cV).ownBlock q))) (fun _ _ h => h)
                have HON := Lib.hid (show Only Nil w w9 from (HO.out.trans HO5.out (fun _ _ h => h)).trans hS2 (fun i hi h => by
                  rcases h with h | h
                  · have := HPM.out; have := HO.out.size; omega
                  · have := (HROW.out.lt i h.symm).1; omega))
                clear hown9 hg9 ho9 hoX hP hS1 hS2
                go_wp2_with fail
                go_roundg (n - (k + 1))
                case measure => have := HG.out; omega
                case rel => exact ⟨k + 1, _, by go_num, rfl, by omega, rfl, by rw [HMK.out, HAM.out, HNE.out]; exact HP.out, HON.out⟩
    · have hkn' : k = n := by omega
      subst hkn'
      obtain ⟨xsO, hrow, hmods⟩ := hown
      rw [madeK_len] at hrow
      obtain ⟨aV, cV, hvv⟩ := sl_of_own hrow
      subst hvv
      have k1 : (k : Int) ≤ (k : Int) := Int.le_refl _
      clear hg hrow hmods ho cv
      go_wp2_with fail
      go_ret
      exact ⟨_, rfl, HOWN.out, HO.out⟩
end Go.Proofs.Ythdolanamcmooaa
