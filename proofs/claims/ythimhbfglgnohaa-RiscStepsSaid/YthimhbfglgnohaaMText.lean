/- The machine's store of a byte to be written. -/
import Derived.Test.YthimhbfglgnohaaMStore
import Derived.Deep.RegionLaw
import Derived.Deep.AppendLies
set_option linter.unusedSimpArgs false
set_option linter.unusedVariables false
namespace Go.Proofs.Ythimhbfglgnohaa
open Go.RowKit M
variable {Q : Nat → Prop}

theorem CRow.moved {w w' : World} {mb wb g : Nat} {ob : Option Nat} {v : Value} {l : List Nat} (h : CRow (Own4 Q mb wb ob) w v l) (ho : Only (Own3 mb wb ob) w w') (hg : ob = some g ∨ w.heap.size ≤ g) : CRow (Own4 Q mb wb (some g)) w' v l := by
  obtain ⟨b, ao, cap, off, h1, h2, h3, h4, h5, h6⟩ := h
  refine ⟨b, ao, cap, off, h1, h2, h3, h4, h5.kept ho (fun hl h => h6 (by simpa [U32s] using hl) (Or.inl h)), fun hl hb => ?_⟩
  have h6' := h6 hl
  have hlt : b < w.heap.size := by
    have := h5 0 (.int .u32 (l[0]'hl : Nat)) (by simp [U32s, List.getElem?_eq_getElem hl])
    exact World.block_lt_of_cell? w _ this
  rcases hb with (hb | hb | hb) | hb
  rotate_right
  · exact h6' (Or.inr hb)
  · exact h6' (Or.inl (Or.inl hb))
  · exact h6' (Or.inl (Or.inr (Or.inl hb)))
  · injection hb with hb
    rcases hg with hg | hg
    · exact h6' (Or.inl (Or.inr (Or.inr (by rw [hg, hb]))))
    · omega
theorem BRow.moved {w w' : World} {mb wb g : Nat} {ob : Option Nat} {v : Value} {l : List Nat} (h : BRow (Own4 Q mb wb ob) w v l) (ho : Only (Own3 mb wb ob) w w') (hg : ob = some g ∨ w.heap.size ≤ g) : BRow (Own4 Q mb wb (some g)) w' v l := by
  obtain ⟨b, ao, cap, off, h1, h2, h3, h4, h5, h6, h7⟩ := h
  refine ⟨b, ao, cap, off, h1, h2, h3, h4, h5, h6.kept ho (fun hl h => h7 (by simpa [U8s] using hl) (Or.inl h)), fun hl hb => ?_⟩
  have h6' := h7 hl
  have hlt : b < w.heap.size := by
    have := h6 0 (.int .u8 (l[0]'hl : Nat)) (by simp [U8s, List.getElem?_eq_getElem hl])
    exact World.block_lt_of_cell? w _ this
  rcases hb with (hb | hb | hb) | hb
  rotate_right
  · exact h6' (Or.inr hb)
  · exact h6' (Or.inl (Or.inl hb))
  · exact h6' (Or.inl (Or.inr (Or.inl hb)))
  · injection hb with hb
    rcases hg with hg | hg
    · exact h6' (Or.inl (Or.inr (Or.inr (by rw [hg, hb]))))
    · omega
theorem MAt.wrote {w w9 : World} {mb wb g cap x : Nat} {ob : Option Nat} {code : List Nat} {s : St} {cv iv ov : Value} (h : MAt Q w mb wb ob code s cv iv ov) (ho : Only (M.Own ob) w w9)
    (hg : ob = some g ∨ w.heap.size ≤ g) (hown : w9.ownsRow 0 5 1 (.slice (some ⟨g, 0, none⟩) (s.out.length + 1) cap) (s.out.length + 1) (U8s s.out ++ [.int .u8 x])) :
    MAt Q (w9.setCell ⟨mb, 3, none⟩ (.slice (some ⟨g, 0, none⟩) (s.out.length + 1) cap)) mb wb (some g) code { s with out := s.out ++ [x] } cv iv (.slice (some ⟨g, 0, none⟩) (s.out.length + 1) cap) := by
  obtain ⟨h1, h2, h3, h4, h5, h6, h7, h8, h9⟩ := h
  have ho3 : Only (Own3 mb wb ob) w (w9.setCell ⟨mb, 3, none⟩ (.slice (some ⟨g, 0, none⟩) (s.out.length + 1) cap)) :=
    (ho.mono (T := Own3 mb wb ob) (fun _ h => Or.inr (Or.inr h))).setCell' _ (Or.inl rfl) _
  have gm : g ≠ mb := fun e => by
    rcases hg with hg | hg
    · exact h8 (by rw [hg, e])
    · have := h1.lt; omega
  have gw : g ≠ wb := fun e => by
    rcases hg with hg | hg
    · exact h9 (by rw [hg, e])
    · have := h2.lt; omega
  have b1 := (h1.kept ho (fun h => h8 h.symm)).setCell 3 (.slice (some ⟨g, 0, none⟩) (s.out.length + 1) cap)
  rw [icells_ov] at b1
  refine ⟨b1, (h2.kept ho (fun h => h9 h.symm)).setOther _ _ (fun h => h3 h.symm), h3, h4.moved ho3 hg, h5.moved ho3 hg, ?_, rfl, fun e => gm (by injection e), fun e => gw (by injection e)⟩
  have := ownsRow_set_other hown ⟨mb, 3, none⟩ (.slice (some ⟨g, 0, none⟩) (s.out.length + 1) cap) (fun e => gm (by simpa [Value.ownBlock] using e))
  simpa [U8s] using this

set_option maxHeartbeats 1600000 in
theorem store_text (mb wb : Nat) (ob : Option Nat) (code : List Nat) (a b c o : Nat) (m : Int) (h1 : -2147483648 ≤ m) (h2 : m ≤ 2147483647) (ha : a < 16) (hb : b < 16) (cv iv ov : Value) (s : St) (w : World) (hs : s.Ok) (hM : MAt Q w mb wb ob code s cv iv ov) {p : Nat} (hp : (s.R b + U m) % 4294967296 = p) (hw : ¬ (p % 4 = 0 ∧ p / 4 < s.mem.length)) (h4 : p = 4294967232) (hol : s.out.length ≤ 1099511627776) :
    Calls Try.prog 43 #[.pointer (some ⟨mb, 0, none⟩), ic 2 true false a b c o m] w fun e w' => ∃ ob' ov', e = .returned (.bool true) ∧ Only (Own3 mb wb ob) w w' ∧ (ob' = ob ∨ ∃ k, ob' = some k ∧ w.heap.size ≤ k) ∧ MAt Q w' mb wb ob' code { s with out := s.out ++ [s.R a % 256] } cv iv ov' := by
  have hl := hs.len
  have hok : decide (p % 4 = 0 ∧ p / 4 < s.mem.length) = false := decide_eq_false hw
  obtain ⟨i0, hi, hz0, hz1, hz2⟩ := info_parts Try.info5
  have cP := fun (w' : World) (ho : Only Nil w w') => place_any mb 2 true false a b c o m hb h1 h2 cv _ iv ov s w' (hM.1.kept ho (fun h => h))
  have hp1 : p < 4294967296 := by omega
  have cW := fun (w' : World) (ho : Only Nil w w') => wordAt_any mb wb p hp1 cv iv ov s w' hl (hM.1.kept ho (fun h => h))
  rw [hp] at cP
  rw [hok] at cW
  subst h4
  unfold ic at cP ⊢
  go_enter Try.func43, Try.ntmps43
  go_wp2_with fail
  refine (cP _ ((Only.refl _ _).alloc _)).mono ?_
  rintro e w1 ⟨rfl, ho1⟩
  have i1 := insAt (ho1)
  have ho1' : Only Nil w w1 := ((Only.refl Nil w).alloc _).trans ho1 (fun _ _ h => h)
  obtain ⟨ib, hib⟩ : ∃ b, w.heap.size = b := ⟨_, rfl⟩
  rw [hib] at i1 ⊢
  clear cP
  go_wp2_with fail
  refine (cW _ ho1').mono ?_
  rintro e w2 ⟨rfl, ho2⟩
  have ho2' : Only Nil w w2 := ho1'.trans ho2 (fun _ _ h => h)
  clear cW
  obtain ⟨x0, x1, x2, x3, x4, x5, x6, x7, x8⟩ := i1
  have y2 := ho2.cell x2 (fun h => h)
  have y3 := ho2.cell x3 (fun h => h)
  have hM2 := hM.quiet ho2'
  have hneq : ib ≠ mb := by have := hM.1.lt; omega
  clear x0 x1 x2 x3 x4 x5 x6 x7 hM
  have hlt1 := hM2.1.lt
  have hlt2 := ho2.size
  have cR := (hM2.1.cell (4 + a)).trans (icells_reg cv _ iv ov s ha)
  have c3 : w2.cell? ⟨mb, 3, none⟩ = some ov := hM2.1.cell 3
  have f3 := hM2.1.free 3
  have a0 : (0 : Int) ≤ (a : Int) := Int.natCast_nonneg _
  have a1 : (a : Int) < 16 := by omega
  have hown2 : w2.drew.ownsRow 0 5 1 ov s.out.length (U8s s.out) := ownsRow_only hM2.2.2.2.2.2.1 (Only.refl Nil w2).drew (fun _ _ h => h)
  obtain ⟨r, hr⟩ : ∃ r, s.R a = r := ⟨_, rfl⟩
  rw [hr] at cR
  have eX : IntKind.u8.wrap (r : Int) = ((r % 256 : Nat) : Int) := by rw [IntKind.wrap_u8]; omega
  have eX' : (r : Int) % 256 = ((r % 256 : Nat) : Int) := by omega
  obtain ⟨x, hx⟩ : ∃ x, r % 256 = x := ⟨_, rfl⟩
  rw [hx] at eX eX'
  obtain ⟨n, hn⟩ : ∃ n, s.out.length = n := ⟨_, rfl⟩
  rw [hn] at hol hown2
  have hnews : Hid (∀ j u, [Value.int .u8 (x : Nat)][j]? = some u → (w2.drew.alloc (.cells #[Value.int .u8 (x : Nat)] 5)).cell? ((⟨w2.heap.size, 0, none⟩ : Addr).add j) = some u) := by
    refine Lib.hid fun j u hj => ?_
    match j, hj with
    | 0, hj => simp at hj; subst hj; exact (Blk.new w2.drew #[Value.int .u8 (x : Nat)] 5).cell 0
  have h1c : Hid (∀ u ∈ [Value.int .u8 (x : Nat)], u.oneCell' = true) := Lib.hid (fun u hu => by simp at hu; subst hu; rfl)
  have s1 : Hid (n + 1 ≤ maxLen) := Lib.hid (by simp [maxLen]; omega)
  have s2 : Hid ((n + 1) * 1 ≤ 140737488355328) := Lib.hid (by omega)
  have HX := Lib.hid (show r % 256 = x from hx)
  have HR := Lib.hid hr
  have HN := Lib.hid hn
  have HM := Lib.hid hM2
  have hom : ov.ownBlock = ob := hM2.2.2.2.2.2.2.1
  have hobm : Hid (ob ≠ some mb) := Lib.hid hM2.2.2.2.2.2.2.2.1
  have hB2 := Lib.hid (hM2.1.drew.alloc (.cells #[Value.int .u8 (x : Nat)] 5))
  clear hM2 hs hw hok hp hr hx hn
  go_wp2_with fail
  go_region_law (first
    | (refine step_append_lies _ rfl (.tmp 42) (.tmp 51) 23 rfl 0 5 i0 (.int .u8 0) 1 1 Try.underlying23 hi hz0 hz1 hz2 rfl (by decide) ov n (U8s s.out) (by simp [Act.eval, Act.put]) (hown2.alloc _) ⟨w2.heap.size, 0, none⟩ 1 1 [.int .u8 (x : Nat)] (by simp [Act.eval, Act.put]) rfl hnews.out h1c.out (by decide) s1.out s2.out (Nat.zero_le _) _ rfl ?_; intro g cap w9 hown9 hg9 hgb hlt9; have hB9 := hB2.out.kept (Only.of_grown hg9) (fun h => hobm.out (by rw [← hom]; exact h.symm)); have c9 : w9.cell? ⟨mb, 3, none⟩ = some ov := hB9.cell 3; have f9 : w9.frozen? ⟨mb, 3, none⟩ = false := hB9.free 3))
  all_goals
    have hoA := Only.of_grown hg9
    have hoA0 : ∃ wa, Only Nil w2 wa ∧ Only (M.Own ov.ownBlock) wa w9 ∧ (ov.ownBlock = some g ∨ g = wa.heap.size) := ⟨_, (by (repeat with_reducible first | exact Only.refl _ _ | refine Only.alloc ?_ _ | refine Only.drew ?_)), hoA, hgb⟩
    clear hoA hg9 hgb
    obtain ⟨wa, hoa, hoA, hgb⟩ := hoA0
    rw [hom] at hoA hgb
    have hoW : Only (M.Own ob) w2 w9 := (hoa.mono (T := M.Own ob) (fun _ h => h.elim)).trans hoA (fun _ _ h => h)
    have hgw : ob = some g ∨ w2.heap.size ≤ g := hgb.imp id (fun h => Nat.le_trans hoa.size (Nat.le_of_eq h.symm))
    have hM9 := HM.out.wrote hoW hgw (x := x) (cap := cap) (by rw [HN.out]; exact hown9)
    rw [HN.out] at hM9
    have H9 := Lib.hid hM9
    have HW := Lib.hid hoW
    have HG := Lib.hid hgw
    clear hM9 hoW hgw hoA hgb hoa hB2 hB9 c9 f9 c3 f3 cR hown2 hown9 HM
    go_wp2_with fail
    go_ret
    refine ⟨some g, .slice (some ⟨g, 0, none⟩) (n + 1) cap, rfl, ?_, ?_, ?_⟩
    · exact ((ho2'.mono (T := Own3 mb wb ob) (fun _ h => h.elim)).trans (HW.out.mono (T := Own3 mb wb ob) (fun _ h => Or.inr (Or.inr h))) (fun _ _ h => h)).setCell' _ (Or.inl rfl) _
    · exact HG.out.elim (fun h => Or.inl h.symm) (fun h => Or.inr ⟨g, rfl, Nat.le_trans ho2'.size h⟩)
    · rw [HR.out, HX.out]
      exact H9.out
end Go.Proofs.Ythimhbfglgnohaa
