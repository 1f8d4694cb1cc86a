/- Wrap, and the document's own. -/
import Derived.Test.YtgijepaohhekfaaBCalls
import Derived.Lib.SlBytesConst
namespace Go.Proofs.Ytgijepaohhekfaa
open Go.RowKit M

theorem waf_cells : Lib.strCells { data := #[87, 65, 70, 82] } = U8s [87, 65, 70, 82] := by rfl

set_option maxRecDepth 10000 in
set_option maxHeartbeats 800000 in
theorem wrap_any (k : Nat) (s : Value) (P : List Nat) (w : World) (hs : Row w s P) (hk : k < 256) (hl : P.length ≤ 65536) :
    Calls Try.prog 8 #[.int .u8 k, s] w fun e w' => ∃ sv, e = .returned (.tuple #[sv, .int .i64 0]) ∧ w'.ownsRow w.heap.size 5 1 sv (fileOf k P).length (U8s (fileOf k P)) ∧ Only Nil w w' := by
  obtain ⟨m, hm⟩ : ∃ m, P.length = m := ⟨_, rfl⟩
  have hsrow := hs
  obtain ⟨b, ao, cap, off, rfl, h2, h3, h4, h5, h6, h7⟩ := hs
  rw [hm] at hl h2 h4 hsrow ⊢
  have hput := put_nil m w (by omega)
  have hZ8 := putVar_lt m
  have hZ10 := putVar_len m (by omega)
  have hF : fileOf k P = headOf k P ++ four (sumOf (headOf k P)) := rfl
  have hH : headOf k P = [87, 65, 70, 82] ++ (k :: (putVar m ++ P)) := by unfold headOf; rw [hm]
  obtain ⟨Z, hZ⟩ : ∃ Z, putVar m = Z := ⟨_, rfl⟩
  rw [hZ] at hput hZ8 hZ10 hH
  obtain ⟨L, hL⟩ : ∃ L, Z.length = L := ⟨_, rfl⟩
  rw [hL] at hZ10
  obtain ⟨H, hHd⟩ : ∃ H, headOf k P = H := ⟨_, rfl⟩
  rw [hHd] at hF hH
  obtain ⟨F, hFd⟩ : ∃ F, fileOf k P = F := ⟨_, rfl⟩
  rw [hFd] at hF ⊢
  have hsl := sumOf_lt H
  have HF := Lib.hid hF
  have HH := Lib.hid hH
  have HZ8 := Lib.hid hZ8
  have HM := Lib.hid hm
  have HL := Lib.hid hL
  have H7 := Lib.hid h7
  have HROW := Lib.hid hsrow
  unfold maxLen at h3
  clear hF hH hZ8 hm hL hZ hHd hFd h4 h5 h6 h7 hsrow
  obtain ⟨i0, hi, hz0, hz1, hz2⟩ := info_parts Try.info5
  go_enter Try.func8, Try.ntmps8
  go_wp2_with fail
  refine hput.mono ?_
  rintro e w1 ⟨sz, rfl, hown1, ho1⟩
  rw [U8s_len, HL.out] at hown1
  obtain ⟨aoz, capz, offz, rfl, _, _, _⟩ := (Src.of_own hown1).opened (n := L) (by rw [U8s_len]; exact HL.out)
  have HOWN1 := Lib.hid hown1
  clear hput hown1
  have hsz1 := ho1.size
  go_wp2_with (with_reducible refine wpList_make_own _ rfl _ _ 22 rfl w1.heap.size 5 i0 (.int .u8 0) 1 Try.underlying22 hi hz0 hz1 _ _ _ (5 + L + m + 4) rfl rfl ?c1 ?c2 ?c3 ?c4 ?_)
  case c1 => omega
  case c2 => rw [hz2]; omega
  case c3 => simp [maxLen]; omega
  case c4 => omega
  intro w2 hown2 hg2
  have ho2 := (Only.of_grown hg2).mono (T := Nil) (fun k h => by cases h)
  have hsz2 := ho2.size
  clear hg2
  go_wp2_with (at_builtin; refine Lib.wpList_append_own_string _ rfl _ _ 22 9 rfl w1.heap.size 5 i0 Try.underlying22 Try.underlying9 hi hz0 hz1 hz2 _ _ _ rfl hown2 { data := #[87, 65, 70, 82] } rfl ?d2 ?d3 ?d1 ?_)
  case d2 => decide
  case d3 => decide
  case d1 => omega
  intro v3 w3 hown3 hg3 _
  have ho3 := ho2.nil_own hown2 (Only.of_grown hg3)
  have hsz3 := ho3.size
  rw [waf_cells] at hown3
  clear hg3 hown2 ho2 hsz2
  go_wp2_with (with_reducible refine wpList_append_one rfl _ _ 22 rfl w1.heap.size 5 i0 (.int .u8 0) 1 Try.underlying22 hi hz0 hz1 hz2 rfl _ _ _ rfl hown3 _ rfl rfl ?e1 ?e2 ?e3 ?_)
  case e1 => decide
  case e2 => decide
  case e3 => omega
  intro g4 cap4 w4 hown4 hc41 hc42 _ ho4'
  have ho4 := ho3.nil_own hown3 ho4'
  have hsz4 := ho4.size
  have hsrcz := (Src.of_own HOWN1.out).kept ho4 (fun _ h => h)
  clear ho4' hown3 ho3 hsz3
  go_wp2_with (at_builtin; refine wpList_append_src rfl _ _ 22 rfl w1.heap.size 5 i0 (.int .u8 0) 1 Try.underlying22 hi hz0 hz1 hz2 rfl _ _ _ rfl hown4 _ _ (U8s Z) rfl hsrcz (U8s_one _) ?f1 ?f2 ?f3 ?_)
  case f1 => rw [U8s_len, HL.out]; simp [maxLen]; omega
  case f2 => rw [U8s_len, HL.out]; simp; omega
  case f3 => omega
  intro v5 w5 hown5 _ ho5'
  have ho5 := ho4.nil_own hown4 ho5'
  have hsz5 := ho5.size
  rw [U8s_len, HL.out] at hown5
  obtain ⟨bp, hsrcp⟩ := ((HROW.out.kept ho1).kept ho5).src
  clear ho5' hown4 ho4 hsz4 hsrcz
  go_wp2_with (at_builtin; refine wpList_append_src rfl _ _ 22 rfl w1.heap.size 5 i0 (.int .u8 0) 1 Try.underlying22 hi hz0 hz1 hz2 rfl _ _ _ rfl hown5 bp _ (U8s P) rfl hsrcp (U8s_one _) ?g1 ?g2 ?g3 ?_)
  case g1 => rw [U8s_len, HM.out]; simp [maxLen]; omega
  case g2 => rw [U8s_len, HM.out]; simp; omega
  case g3 => omega
  intro v6 w6 hown6 _ ho6'
  have ho6 := ho5.nil_own hown5 ho6'
  have hsz6 := ho6.size
  have hHl : H.length = 5 + L + m := by rw [HH.out]; simp [HL.out, HM.out]; omega
  have hUH : U8s [87, 65, 70, 82] ++ Value.int IntKind.u8 (k : Int) :: (U8s Z ++ U8s P) = U8s H := by rw [HH.out]; simp [U8s]
  rw [U8s_len, HM.out, hUH] at hown6
  have hown6' : w6.ownsRow w1.heap.size 5 1 v6 H.length (U8s H) := by rw [hHl]; exact hown6
  have hH8 : ∀ x ∈ H, x < 256 := by
    rw [HH.out]
    intro x hx
    simp only [List.mem_append, List.mem_cons, List.not_mem_nil, or_false] at hx
    rcases hx with (h | h | h | h) | h | h | h
    · omega
    · omega
    · omega
    · omega
    · omega
    · exact HZ8.out x h
    · exact H7.out x h
  have hsum := sum_any v6 H w6 (Row.of_own hown6' hH8)
  have happ := appendWord_any v6 H (sumOf H) w1.heap.size w6 hown6' hsl (by omega) (by omega)
  rw [← HF.out] at happ
  have HOWN6 := Lib.hid hown6'
  clear ho6' hown5 ho5 hsz5 hsrcp hown6 hown6' hUH hH8 hHl
  go_wp2_with fail
  refine hsum.mono ?_
  rintro e w7 ⟨rfl, rfl⟩
  go_wp2_with fail
  refine happ.mono ?_
  rintro e w8 ⟨v8, rfl, hown8, ho8⟩
  have ho := ho1.trans (ho6.nil_own HOWN6.out ho8) (fun _ _ h => h)
  go_wp2_with fail
  go_ret2
  exact ⟨_, rfl, ownsRow_base hown8 hsz1, ho⟩

/-- Blocks from b on. -/
def Ge (b : Nat) : Nat → Prop := fun k => b ≤ k
theorem M.Only.ge {w w' : World} (h : Only Nil w w') (b : Nat) : Only (Ge b) w w' := h.mono (fun _ h => h.elim)
theorem M.Only.ge_own {base : Nat} {w wr w' : World} {e : TypeId} {size n : Nat} {v : Value} {xs : List Value} (h : Only (Ge base) w wr) (hown : wr.ownsRow base e size v n xs) (h2 : Only (Own v.ownBlock) wr w') : Only (Ge base) w w' :=
  h.trans h2 (fun i _ ht => (hown.lt i (Eq.symm ht)).1)
theorem M.Only.ge_nil {w w1 w2 : World} (h : Only Nil w w1) (h2 : Only (Ge w.heap.size) w1 w2) : Only Nil w w2 :=
  h.trans h2 (fun i hi ht => by unfold Ge at ht; omega)

set_option maxHeartbeats 400000 in
theorem putVar_own (base : Nat) (s : Value) (B : List Nat) (v : Nat) (w : World) (hs : w.ownsRow base 5 1 s B.length (U8s B)) (hb : base ≤ w.heap.size) (hv : v < 18446744073709551616) (hl : B.length ≤ 549755813888) :
    Calls Try.prog 16 #[s, .int .u64 v] w fun e w' => ∃ sv, e = .returned sv ∧ w'.ownsRow base 5 1 sv (B ++ putVar v).length (U8s (B ++ putVar v)) ∧ Only (Ge base) w w' := by
  obtain ⟨n, hn⟩ : ∃ n, B.length = n := ⟨_, rfl⟩
  rw [hn] at hl
  have HN := Lib.hid hn
  clear hn
  obtain ⟨i0, hi, hz0, hz1, hz2⟩ := info_parts Try.info5
  have hvl := putVar_len v hv
  have hC0 : ∃ C : List Nat, C ++ putVar v = B ++ putVar v ∧ w.ownsRow base 5 1 s C.length (U8s C) ∧ Only (Ge base) w w := ⟨B, rfl, hs, Only.refl _ _⟩
  clear hs
  go_enter Try.func16, Try.ntmps16
  go_wp2_with fail
  go_loopg [0, 1] v (fun g s x wr => g < 18446744073709551616 ∧ x = .int .u64 (g : Int) ∧ ∃ C : List Nat, C ++ putVar g = B ++ putVar v ∧ wr.ownsRow base 5 1 s C.length (U8s C) ∧ Only (Ge base) w wr)
  case atStart => exact ⟨hv, rfl, hC0⟩
  case round =>
    clear hC0
    obtain ⟨hg, rfl, C, hC, hown, ho⟩ := hrel
    obtain ⟨g, rfl⟩ : ∃ g, g = gk := ⟨gk, rfl⟩
    have hCl : C.length ≤ n + 10 := by
      have := congrArg List.length hC
      simp only [List.length_append] at this
      rw [HN.out] at this
      omega
    have hsz := ho.size
    by_cases h128 : g < 128
    · have hd : decide ((128 : Int) ≤ (g : Int)) = false := by simp; omega
      rw [putVar_small h128] at hC
      have HC := Lib.hid hC
      have HP := Lib.hid (part_last g h128)
      clear hC
      go_wp2_with (with_reducible refine wpList_append_one rfl _ _ 22 rfl base 5 i0 (.int .u8 0) 1 Try.underlying22 hi hz0 hz1 hz2 rfl _ _ _ rfl hown _ rfl rfl ?c4 ?c5 ?c6 ?_)
      case c4 => simp [maxLen]; omega
      case c5 => omega
      case c6 => omega
      intro gb capb w1 hown1 hc1 hc2 hg1 ho1
      have ho2 := ho.ge_own hown ho1
      clear hc1 hc2 hg1 ho1 hown ho
      go_wp2_with fail
      go_ret
      refine ⟨_, rfl, ?_, ho2⟩
      rw [← HC.out]
      simpa [U8s] using hown1
    · have hd : decide ((128 : Int) ≤ (g : Int)) = true := by simp; omega
      rw [putVar_more h128] at hC
      have HC := Lib.hid hC
      have HP := Lib.hid (part_more g)
      clear hC
      go_wp2_with (with_reducible refine wpList_append_one rfl _ _ 22 rfl base 5 i0 (.int .u8 0) 1 Try.underlying22 hi hz0 hz1 hz2 rfl _ _ _ rfl hown _ rfl rfl ?c7 ?c8 ?c9 ?_)
      case c7 => simp [maxLen]; omega
      case c8 => omega
      case c9 => omega
      intro gb capb w1 hown1 hc1 hc2 hg1 ho1
      have ho2 := ho.ge_own hown ho1
      clear hc1 hc2 hg1 ho1 hown ho
      go_wp2_with fail
      go_roundg (g / 128)
      case measure => omega
      case rel =>
        refine ⟨by omega, by go_num, C ++ [g % 128 + 128], ?_, ?_, ho2⟩
        · have := HC.out
          simpa using this
        · rw [HP.out] at hown1
          simpa [U8s] using hown1

theorem mark_app (w : World) (B : List Nat) (m : Nat × Nat) : AppRow w (w.alloc (.cells (U8s B).toArray 5 m)) (.slice (some ⟨w.heap.size, 0, none⟩) B.length B.length) B := by
  refine Or.inr ⟨⟨w.heap.size, 0, none⟩, rfl, fun j u hj => ?_⟩
  rw [addr_add]
  have : (w.alloc (.cells (U8s B).toArray 5 m)).heap[w.heap.size]? = some (.cells (U8s B).toArray 5 m) := by
    show (w.heap.push _)[w.heap.size]? = _
    simp
  simp only [World.cell?, this]
  simpa using hj
theorem waf_app (w : World) (m : Nat × Nat) : AppRow w (w.alloc (.cells #[.int .u8 87, .int .u8 65, .int .u8 70, .int .u8 82] 5 m)) (.slice (some ⟨w.heap.size, 0, none⟩) 4 4) [87, 65, 70, 82] := mark_app w [87, 65, 70, 82] m

set_option maxRecDepth 10000 in
set_option maxHeartbeats 800000 in
theorem wrap_any1 (k : Nat) (s : Value) (P : List Nat) (w : World) (hs : Row w s P) (hk : k < 256) (hl : P.length ≤ 65536) :
    Calls Try.prog 9 #[.int .u8 k, s] w fun e w' => ∃ sv, e = .returned (.tuple #[sv, .int .i64 0]) ∧ w'.ownsRow w.heap.size 5 1 sv (fileOf k P).length (U8s (fileOf k P)) ∧ Only Nil w w' := by
  obtain ⟨m, hm⟩ : ∃ m, P.length = m := ⟨_, rfl⟩
  have hsrow := hs
  obtain ⟨b, ao, cap, off, rfl, h2, h3, h4, h5, h6, h7⟩ := hs
  rw [hm] at hl h2 h4 hsrow ⊢
  have hZ8 := putVar_lt m
  have hZ10 := putVar_len m (by omega)
  have hput := fun (base : Nat) (s : Value) (w : World) hs hb => putVar_own base s ([87, 65, 70, 82, k]) m w hs hb (by omega) (by simp)
  have hF : fileOf k P = headOf k P ++ four (sumOf (headOf k P)) := rfl
  have hH : headOf k P = [87, 65, 70, 82] ++ (k :: (putVar m ++ P)) := by unfold headOf; rw [hm]
  obtain ⟨Z, hZ⟩ : ∃ Z, putVar m = Z := ⟨_, rfl⟩
  simp only [hZ] at hput hZ8 hZ10 hH
  obtain ⟨L, hL⟩ : ∃ L, Z.length = L := ⟨_, rfl⟩
  rw [hL] at hZ10
  obtain ⟨H, hHd⟩ : ∃ H, headOf k P = H := ⟨_, rfl⟩
  rw [hHd] at hF hH
  obtain ⟨F, hFd⟩ : ∃ F, fileOf k P = F := ⟨_, rfl⟩
  rw [hFd] at hF ⊢
  have hsl := sumOf_lt H
  obtain ⟨A, hA⟩ : ∃ A, [87, 65, 70, 82, k] = A := ⟨_, rfl⟩
  have hAl : A.length = 5 := by rw [← hA]; rfl
  simp only [hA] at hput
  have hHA : H = A ++ Z ++ P := by rw [← hA, hH]; simp
  have HHA := Lib.hid hHA
  have HA := Lib.hid hA
  have HAL := Lib.hid hAl
  have HF := Lib.hid hF
  have HZ8 := Lib.hid hZ8
  have HM := Lib.hid hm
  have HL := Lib.hid hL
  have H7 := Lib.hid h7
  have HROW := Lib.hid hsrow
  have HPUT := Lib.hid hput
  unfold maxLen at h3
  clear hF hH hZ8 hm hL hZ hHd hFd h4 h5 h6 h7 hsrow hput hA hHA hAl
  obtain ⟨i0, hi, hz0, hz1, hz2⟩ := info_parts Try.info5
  go_enter Try.func9, Try.ntmps9
  have kc := fun (w : World) (C : Array Value) (n c : Nat) => Lib.run_convert_bytes_const (P := Try.prog) w 22 5 C n c Try.underlying22 Try.underlying5
  go_wp2_with (at_builtin; refine wpList_append_app rfl _ _ 22 rfl w i0 (.int .u8 0) Try.underlying22 hi hz0 hz1 hz2 rfl _ [87, 65, 70, 82] rfl ?e1 _ k rfl ?e4 ?e3 ?e2 ?_)
  case e1 => exact waf_app w _
  case e3 => decide
  case e4 => simp [Act.eval]
  case e2 => exact (Only.refl _ _).alloc _
  intro v4 w4 hown4 ho4
  have hsz4 := ho4.size
  rw [HA.out] at hown4
  clear kc
  go_wp2_with fail
  refine (HPUT.out w.heap.size _ w4 (by rw [HAL.out]; exact hown4) (by omega)).mono ?_
  rintro e w5 ⟨v5, rfl, hown5, ho5'⟩
  have ho5 := ho4.ge_nil ho5'
  have hsz5 := ho5.size
  have hl5 : (A ++ Z).length = 5 + L := by rw [List.length_append, HAL.out, HL.out]
  rw [hl5] at hown5
  obtain ⟨bp, hsrcp⟩ := (HROW.out.kept ho5).src
  clear ho5' hown4 ho4 hsz4 hl5
  go_wp2_with (at_builtin; refine wpList_append_src rfl _ _ 22 rfl w.heap.size 5 i0 (.int .u8 0) 1 Try.underlying22 hi hz0 hz1 hz2 rfl _ _ _ rfl hown5 bp _ (U8s P) rfl hsrcp (U8s_one _) ?g1 ?g2 ?g3 ?_)
  case g1 => rw [U8s_len, HM.out]; simp [maxLen]; omega
  case g2 => rw [U8s_len, HM.out]; omega
  case g3 => omega
  intro v6 w6 hown6 _ ho6'
  have ho6 := ho5.nil_own hown5 ho6'
  have hsz6 := ho6.size
  have hHl : H.length = 5 + L + m := by rw [HHA.out, List.length_append, List.length_append, HAL.out, HL.out, HM.out]
  rw [U8s_len, HM.out, ← U8s_append, ← HHA.out] at hown6
  have hown6' : w6.ownsRow w.heap.size 5 1 v6 H.length (U8s H) := by rw [hHl]; exact hown6
  have hH8 : ∀ x ∈ H, x < 256 := by
    rw [HHA.out, ← HA.out]
    intro x hx
    simp only [List.mem_append, List.mem_cons, List.not_mem_nil, or_false] at hx
    rcases hx with ((h | h | h | h | h) | h) | h
    · omega
    · omega
    · omega
    · omega
    · omega
    · exact HZ8.out x h
    · exact H7.out x h
  have hsum := sum_any1 v6 H w6 (Row.of_own hown6' hH8)
  have HOWN6 := Lib.hid hown6
  clear ho6' hown5 ho5 hsz5 hsrcp hown6 hown6' hH8
  go_wp2_with fail
  refine hsum.mono ?_
  rintro e w7 ⟨rfl, rfl⟩
  go_wp2_with fail
  refine (four_any (sumOf H) w6 hsl).mono ?_
  rintro e w7 ⟨v7, rfl, hown7, ho7⟩
  have hsz7 := ho7.size
  have hown67 := ownsRow_only HOWN6.out ho7 (fun _ _ h => h)
  have hsrc7 := Src.of_own hown7
  clear hown7 hsum
  go_wp2_with (at_builtin; refine wpList_append_src rfl _ _ 22 rfl w.heap.size 5 i0 (.int .u8 0) 1 Try.underlying22 hi hz0 hz1 hz2 rfl _ _ _ rfl hown67 _ _ (U8s (four (sumOf H))) rfl hsrc7 (U8s_one _) ?j1 ?j2 ?j3 ?_)
  case j1 => rw [U8s_len, four_len]; simp [maxLen]; omega
  case j2 => rw [U8s_len, four_len]; omega
  case j3 => omega
  intro v8 w8 hown8 _ ho8'
  have ho8 := (ho6.trans ho7 (fun _ _ h => h)).nil_own hown67 ho8'
  rw [U8s_len, ← U8s_append, ← HF.out] at hown8
  have hFl : F.length = 5 + L + m + (four (sumOf H)).length := by rw [HF.out, List.length_append, hHl]
  go_wp2_with fail
  go_ret2
  exact ⟨_, rfl, by rw [hFl]; exact hown8, ho8⟩
end Go.Proofs.Ytgijepaohhekfaa
