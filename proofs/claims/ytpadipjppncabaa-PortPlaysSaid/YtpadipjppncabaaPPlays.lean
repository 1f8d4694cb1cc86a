/- Layer 10: any script of offers and polls. -/
import Derived.Test.YtpadipjppncabaaPKnow
import Derived.Test.YtpadipjppncabaaGArgs
import Derived.Lib.MinMax
import Derived.BigQuiet
import Derived.Deep.CutBlock
import Derived.Deep.RegionLawGrows
import Derived.Deep.SlicePairs
set_option linter.unusedSimpArgs false
set_option linter.unusedVariables false
namespace Go.Proofs.Ytpadipjppncabaa
open Go.RowKit Go.Conc M

/-- What was offered and not polled yet, as the law keeps it. -/
def WV (p c : Nat) (w : World) (v : Value) (xs : List Int) : Prop :=
  ∃ b ao C off, v = .slice ao xs.length C ∧ xs.length ≤ C ∧ C ≤ maxLen ∧ (ao = none → C = 0) ∧ (0 < xs.length → ao = some ⟨b, off, none⟩ ∧ b < w.heap.size ∧ b ≠ p ∧ b ≠ c) ∧
    ∀ (i : Nat) (x : Int), xs[i]? = some x → w.cell? ⟨b, off + i, none⟩ = some (.int .u8 x)
theorem WV.nil (p c : Nat) (w : World) : WV p c w (.slice none 0 0) [] :=
  ⟨0, none, 0, 0, rfl, Nat.le_refl _, Nat.zero_le _, fun _ => rfl, fun h => by simp at h, fun i x h => by simp at h⟩
theorem WV.kept {S : Nat → Prop} {p c : Nat} {w w' : World} {v : Value} {xs : List Int} (h : WV p c w v xs) (ho : Only S w w') (hS : ∀ k, S k → Two p c k) : WV p c w' v xs := by
  obtain ⟨b, ao, C, off, h1, h2, h3, h4, h5, h6⟩ := h
  refine ⟨b, ao, C, off, h1, h2, h3, h4, fun h0 => ?_, fun i x hx => ?_⟩
  · obtain ⟨a1, a2, a3, a4⟩ := h5 h0
    exact ⟨a1, Nat.lt_of_lt_of_le a2 ho.size, a3, a4⟩
  · have h0 : 0 < xs.length := by have := (List.getElem?_eq_some_iff.1 hx).1; omega
    obtain ⟨a1, a2, a3, a4⟩ := h5 h0
    exact ho.cell (h6 i x hx) (fun hs => by rcases hS _ hs with e | e; exact a3 e; exact a4 e)
theorem wv_tail {p c : Nat} {w : World} {wb wo D m : Nat} {x : Int} {rest : List Int} {ap : Option Addr} (hm : (x :: rest).length = m) (h1 : m ≤ D) (h2 : D ≤ maxLen) (h4 : wb < w.heap.size ∧ wb ≠ p ∧ wb ≠ c)
    (h5 : ∀ (i : Nat) (y : Int), (x :: rest)[i]? = some y → w.cell? ⟨wb, wo + i, none⟩ = some (.int .u8 y)) (hap : (if D = 1 then some (⟨wb, wo, none⟩ : Addr) else some ⟨wb, wo + 1, none⟩) = ap) : WV p c w (.slice ap (m - 1) (D - 1)) rest := by
  simp only [List.length_cons] at hm
  refine ⟨wb, ap, D - 1, wo + 1, by rw [← hm]; rfl, by omega, by omega, fun e => ?_, fun h0 => ⟨?_, h4⟩, fun i y hy => ?_⟩
  · rw [← hap] at e
    split at e <;> cases e
  · rw [← hap, if_neg (by omega)]
  · have := h5 (i + 1) y (by simpa using hy)
    rw [show wo + 1 + i = wo + (i + 1) by omega]
    exact this
theorem WV.own {p c : Nat} {w w0 : World} {v : Value} {xs : List Int} {n : Nat} (h : w.ownsRow w0.heap.size 5 1 v (n + 1) (B8 xs)) (hp : p < w0.heap.size) (hc : c < w0.heap.size) : WV p c w v xs := by
  have hl : xs.length = n + 1 := by have := h.1; rw [B8_len] at this; omega
  obtain ⟨g, cap, rfl, hb, hnc, hcm, hlt⟩ := ownsRow_shape h (by omega)
  refine ⟨g, some ⟨g, 0, none⟩, cap, 0, by rw [hl], by omega, hcm, (fun e => by cases e), fun _ => ⟨rfl, hlt, by omega, by omega⟩, fun i x hx => ?_⟩
  have hi := (List.getElem?_eq_some_iff.1 hx).1
  have := World.ownsRow.cellAt h i (by omega)
  rw [Nat.zero_add, this]
  simp [B8, hx]
theorem infoU8z : (Try.prog.info? 5).map (fun i => (i.zero, i.size, i.bytes)) = some (some (.int .u8 0), 1, 1) := by kernel_rfl
/-- Acts, as the walk reads them. -/
def Acts (w : World) (lb lo : Nat) (L : List (Nat × Nat)) : Prop := ∀ (i : Nat) (q : Nat × Nat), L[i]? = some q → w.cell? ⟨lb, lo + i * 2, none⟩ = some (.int .u8 (q.1 : Nat)) ∧ w.cell? ⟨lb, lo + i * 2 + 1, none⟩ = some (.int .u8 (q.2 : Nat))
theorem Acts.kept {w w' : World} {lb lo : Nat} {L : List (Nat × Nat)} (h : Acts w lb lo L) (ho : Only Nil w w') : Acts w' lb lo L :=
  fun i q hq => ⟨ho.cell (h i q hq).1 (fun h => h), ho.cell (h i q hq).2 (fun h => h)⟩

set_option maxRecDepth 100000 in
set_option maxHeartbeats 6400000 in
theorem plays_any (room : Int) (a0 : Option Addr) (n0 cap0 lb lo : Nat) (L : List (Nat × Nat)) (w : World) (hl : L.length = n0) (ha : 0 < n0 → a0 = some ⟨lb, lo, none⟩) (hL : Acts w lb lo L) (hb : ∀ q ∈ L, q.1 < 256 ∧ q.2 < 256) (hr : -9223372036854775808 ≤ room ∧ room ≤ 9223372036854775807) :
    Calls Try.prog 3 #[.int .i64 room, .slice a0 n0 cap0] w fun e w' => e = .returned (.bool true) ∧ Only Nil w w' := by
  have cK := known10 w
  by_cases g : 100 < n0
  · have t0 : (100 : Int) < (n0 : Int) := by omega
    clear hr
    go_enter Try.func3, Try.ntmps3
    go_wp2_with fail
    refine cK.mono ?_
    rintro e w1 ⟨rfl, ho1⟩
    clear cK
    go_wp2_with fail
    go_ret
    exact ⟨rfl, ho1⟩
  have t0 : decide ((100 : Int) < (n0 : Int)) = false := by simp; omega
  have g' : n0 ≤ 100 := by omega
  obtain ⟨r12, hr12⟩ : ∃ r12, room.tmod 12 = r12 := ⟨_, rfl⟩
  have hwr : IntKind.i64.wrap r12 = r12 := by
    have h1 := Int.lt_tmod_of_pos room (show (0 : Int) < 12 by omega)
    have h2 := Int.tmod_lt_of_pos room (show (0 : Int) < 12 by omega)
    rw [IntKind.wrap_i64]; omega
  have hlb : 0 < n0 → lb < w.heap.size := fun h => by
    obtain ⟨q, hq⟩ : ∃ q, L[0]? = some q := ⟨_, List.getElem?_eq_getElem (by omega)⟩
    exact World.block_lt_of_cell? w _ (hL 0 q hq).1
  have HLB := Lib.hid hlb
  have HL := Lib.hid hl
  have HA := Lib.hid ha
  have HB8 := Lib.hid hb
  clear hr g hl ha hb hlb
  go_enter Try.func3, Try.ntmps3
  go_wp2_with fail
  refine cK.mono ?_
  rintro e w1 ⟨rfl, ho1⟩
  clear cK
  have HL1 := Lib.hid (hL.kept ho1)
  have HO1 := Lib.hid ho1
  clear hL ho1
  go_wp2_with fail
  have hB := Blk.new w1 #[Value.int .i64 room, .int .i64 r12] 3
  have ho : Only Nil w1 (w1.alloc (.cells #[Value.int .i64 room, .int .i64 r12] 3)) := (Only.refl _ _).alloc _
  clear hwr hr12
  obtain ⟨w2, hw2⟩ : ∃ w2, w1.alloc (.cells #[Value.int .i64 room, .int .i64 r12] 3) = w2 := ⟨_, rfl⟩
  have hsz2 : w2.heap.size = w1.heap.size + 1 := by rw [← hw2]; simp
  rw [hw2] at hB ho ⊢
  obtain ⟨sb, hsb⟩ : ∃ sb, w1.heap.size = sb := ⟨_, rfl⟩
  rw [hsb] at hB hsz2 ⊢
  have HB := Lib.hid hB
  have HL2 := Lib.hid (HL1.out.kept ho)
  have HO2 := Lib.hid (HO1.out.trans ho (fun _ _ h => h))
  have HSB := Lib.hid (show w.heap.size ≤ sb by have := HO1.out.size; omega)
  clear hB ho hw2 hsz2 hsb HL1 HO1
  go_wp2_with fail
  go_loopg [27] 2 (fun g i wr => ∃ (k : Nat), i = .int .i64 (k : Int) ∧ k ≤ 2 ∧ g = 2 - k ∧ Blk wr sb #[Value.int .i64 room, .int .i64 r12] 3 ∧ Acts wr lb lo L ∧ Only Nil w wr)
  case atStart => exact ⟨0, rfl, Nat.zero_le _, rfl, HB.out, HL2.out, HO2.out⟩
  case round =>
    clear HB HL2 HO2
    obtain ⟨k, rfl, hk, hg, hB, hL, ho⟩ := hrel
    have HG := Lib.hid hg
    clear hg
    have k0 : (0 : Int) ≤ (k : Int) := Int.natCast_nonneg _
    by_cases hkn : k < 2
    · have k1 : (k : Int) < 2 := by omega
      obtain ⟨r, hrk⟩ : ∃ r, #[Value.int .i64 room, .int .i64 r12][k]? = some (.int .i64 r) := by
        rcases k with _ | _ | k
        · exact ⟨room, rfl⟩
        · exact ⟨r12, rfl⟩
        · omega
      have t1 : wr.cell? ⟨sb, k, none⟩ = some (.int .i64 r) := by rw [hB.cell]; exact hrk
      have cN := newP r wr
      obtain ⟨C, hC⟩ : ∃ C, capOf r = C := ⟨_, rfl⟩
      have hmost : min (max r 1) 4096 = (C : Int) := by unfold capOf at hC; omega
      have hC2 : 1 ≤ C ∧ C ≤ 4096 := by unfold capOf at hC; omega
      rw [hC] at cN
      have HBB := Lib.hid hB
      have HLL := Lib.hid hL
      have HOO := Lib.hid ho
      have HC2 := Lib.hid hC2
      have hltx := hB.lt
      clear hB hL ho hrk hC hC2
      go_wp2_with fail
      refine cN.mono ?_
      rintro e w3 ⟨rfl, h3, o3⟩
      obtain ⟨c, hcc⟩ : ∃ c, wr.heap.size = c := ⟨_, rfl⟩
      obtain ⟨p, hp⟩ : ∃ p, c + 1 = p := ⟨_, rfl⟩
      rw [hcc] at h3 ⊢
      rw [hp] at h3 ⊢
      have HB3 := Lib.hid (HBB.out.kept o3 (fun h => h))
      have HL3 := Lib.hid (HLL.out.kept o3)
      have HO3 := Lib.hid (HOO.out.trans o3 (fun _ _ h => h))
      have HNW := Lib.hid (show ∀ i, Two p c i → w.heap.size ≤ i ∧ i ≠ sb by
        intro i hi
        have := HOO.out.size
        rcases hi with h | h <;> omega)
      have H3 := Lib.hid h3
      unfold ptr
      clear cN t1 hltx HBB HLL HOO h3 o3 hcc hp
      go_wp2_with fail
      clear hmost
      go_loopg [11, 9, 10] n0 (fun g i wv sh wx => ∃ (k : Nat) (xs : List Int) (cl : Bool), i = .int .i64 (k : Int) ∧ sh = .bool cl ∧ k ≤ n0 ∧ g = n0 - k ∧ xs.length ≤ k ∧ PAt wx p c C xs cl ∧ WV p c wx wv xs ∧ Blk wx sb #[Value.int .i64 room, .int .i64 r12] 3 ∧ Acts wx lb lo L ∧ Only Nil w wx)
      case atStart => exact ⟨0, [], false, rfl, rfl, Nat.zero_le _, rfl, Nat.le_refl _, H3.out, WV.nil _ _ _, HB3.out, HL3.out, HO3.out⟩
      case round =>
        clear HB3 HL3 HO3 H3
        obtain ⟨j, xs, cl, rfl, rfl, hj, hg, hxj, hP, hW, hB, hL, ho⟩ := hrel
        have HG2 := Lib.hid hg
        clear hg
        have j0 : (0 : Int) ≤ (j : Int) := Int.natCast_nonneg _
        obtain ⟨wb, ao, D, wo, rfl, wd1, wd2, wd3, wd4, wd5⟩ := id hW
        by_cases hjn : j < n0
        · have j1 : (j : Int) < (n0 : Int) := by omega
          obtain ⟨q, hq⟩ : ∃ q, L[j]? = some q := ⟨_, List.getElem?_eq_getElem (by rw [HL.out]; exact hjn)⟩
          obtain ⟨a, ch⟩ := q
          obtain ⟨x1, x2⟩ := hL j _ hq
          simp only at x1 x2
          have hltl := World.block_lt_of_cell? wr _ x1
          have e0 := HA.out (by omega)
          subst e0
          obtain ⟨d, hd⟩ : ∃ d : Nat, a % 6 = d := ⟨_, rfl⟩
          obtain ⟨f, hf⟩ : ∃ f : Nat, ch % 4 = f := ⟨_, rfl⟩
          obtain ⟨m, hm⟩ : ∃ m : Nat, xs.length = m := ⟨_, rfl⟩
          have hab := HB8.out _ (List.mem_of_getElem? hq)
          have d1 : ((a : Int).tmod 6) = (d : Int) := by rw [← hd]; rfl
          have d2 : ((ch : Int).tmod 4) = (f : Int) := by rw [← hf]; rfl
          have d3 : IntKind.u8.wrap (d : Int) = (d : Int) := by show (d : Int) % 256 = d; omega
          have d4 : IntKind.u8.wrap (f : Int) = (f : Int) := by show (f : Int) % 256 = f; omega
          rw [hm] at wd1 wd4 hxj ⊢
          have m0 : (0 : Int) ≤ (m : Int) := Int.natCast_nonneg _
          have HP := Lib.hid hP
          have HW := Lib.hid hW
          have HB := Lib.hid hB
          have HLL := Lib.hid hL
          have HO := Lib.hid ho
          have HM := Lib.hid hm
          have HW4 := Lib.hid wd4
          have HW5 := Lib.hid wd5
          have HW3 := Lib.hid wd3
          clear hP hW hB hL ho hm wd4 wd5 wd3 hab hd hf hq
          go_upto_block 4 with fail
          go_cut [9, 10] (fun v sh wx => ∃ (ys : List Int) (dl : Bool), sh = .bool dl ∧ ys.length ≤ j + 1 ∧ PAt wx p c C ys dl ∧ WV p c wx v ys ∧ Only (Two p c) wr wx)
          case first =>
            by_cases h34 : d = 3 ∨ d = 4
            · rcases xs with _ | ⟨x, rest⟩
              · have cP := pollN HP.out
                have e0 : m = 0 := by rw [← HM.out]; rfl
                have e1 : decide (0 < m) = false := by rw [e0]; rfl
                have e2 : decide ((0 : Int) < (m : Int)) = false := by rw [e0]; rfl
                unfold ptr at cP
                rcases h34 with h | h
                · have e3 : ((d : Int) == 3) = true := by rw [h]; rfl
                  clear h e0
                  go_wp2_with fail
                  refine cP.mono ?_
                  rintro e w6 ⟨rfl, rfl⟩
                  clear cP
                  go_wp2_with fail
                  go_meet
                  exact ⟨[], cl, rfl, Nat.zero_le _, HP.out, by have := HW.out; rw [HM.out] at this; exact this, Only.refl _ _⟩
                · have e3 : ((d : Int) == 3) = false := by rw [h]; rfl
                  have e4 : ((d : Int) == 4) = true := by rw [h]; rfl
                  clear h e0
                  go_wp2_with fail
                  refine cP.mono ?_
                  rintro e w6 ⟨rfl, rfl⟩
                  clear cP
                  go_wp2_with fail
                  go_meet
                  exact ⟨[], cl, rfl, Nat.zero_le _, HP.out, by have := HW.out; rw [HM.out] at this; exact this, Only.refl _ _⟩
              · have cP := pollS HP.out
                have m1 : 0 < m := by rw [← HM.out]; exact Nat.succ_pos _
                have m2 : (0 : Int) < (m : Int) := by omega
                obtain ⟨e0, b0, b1, b2⟩ := HW4.out m1
                subst e0
                have hcc : (1 : Int) ≤ (D : Int) := by omega
                have hmm : (1 : Int) ≤ (m : Int) := by omega
                have hmd : (m : Int) ≤ (D : Int) := by omega
                have hxx : (x != x) = false := by simp
                obtain ⟨ap, hap⟩ : ∃ ap, (if D = 1 then some (⟨wb, wo, Option.none⟩ : Addr) else some ⟨wb, wo + 1, Option.none⟩) = ap := ⟨_, rfl⟩
                have HB12 := Lib.hid (And.intro b0 (And.intro b1 b2))
                have WD := Lib.hid (And.intro wd1 wd2)
                unfold ptr at cP
                clear b0 b1 b2 wd1 wd2
                rcases h34 with h | h
                · have e3 : ((d : Int) == 3) = true := by rw [h]; rfl
                  clear h
                  go_wp2_with fail
                  refine cP.mono ?_
                  rintro e w6 ⟨rfl, h6, o6⟩
                  have cx : w6.cell? ⟨wb, wo, none⟩ = some (.int .u8 x) := o6.cell (HW5.out 0 x rfl) (fun h => by rcases h with h | h; exact HB12.out.2.1 h; exact HB12.out.2.2 h)
                  have ltb := World.block_lt_of_cell? w6 _ cx
                  have H6 := Lib.hid h6
                  have O6 := Lib.hid o6
                  clear cP h6 o6
                  go_wp2_with fail
                  go_meet
                  exact ⟨rest, cl, rfl, by have := HM.out; simp only [List.length_cons] at this; omega, H6.out, wv_tail HM.out WD.out.1 WD.out.2 ⟨ltb, HB12.out.2⟩ (fun i y hy => O6.out.cell (HW5.out i y hy) (fun h => by rcases h with h | h; exact HB12.out.2.1 h; exact HB12.out.2.2 h)) hap, O6.out⟩
                · have e3 : ((d : Int) == 3) = false := by rw [h]; rfl
                  have e4 : ((d : Int) == 4) = true := by rw [h]; rfl
                  clear h
                  go_wp2_with fail
                  refine cP.mono ?_
                  rintro e w6 ⟨rfl, h6, o6⟩
                  have cx : w6.cell? ⟨wb, wo, none⟩ = some (.int .u8 x) := o6.cell (HW5.out 0 x rfl) (fun h => by rcases h with h | h; exact HB12.out.2.1 h; exact HB12.out.2.2 h)
                  have ltb := World.block_lt_of_cell? w6 _ cx
                  have H6 := Lib.hid h6
                  have O6 := Lib.hid o6
                  clear cP h6 o6
                  go_wp2_with fail
                  go_meet
                  exact ⟨rest, cl, rfl, by have := HM.out; simp only [List.length_cons] at this; omega, H6.out, wv_tail HM.out WD.out.1 WD.out.2 ⟨ltb, HB12.out.2⟩ (fun i y hy => O6.out.cell (HW5.out i y hy) (fun h => by rcases h with h | h; exact HB12.out.2.1 h; exact HB12.out.2.2 h)) hap, O6.out⟩
            · have e3 : ((d : Int) == 3) = false := not_beq (by omega)
              have e4 : ((d : Int) == 4) = false := not_beq (by omega)
              have hwx : WV p c wr (.slice ao m D) xs := by have := HW.out; rw [HM.out] at this; exact this
              have HWX := Lib.hid hwx
              clear hwx
              by_cases h5 : d = 5
              · have e5 : ((d : Int) == 5) = true := by rw [h5]; rfl
                clear h5 h34
                by_cases hf0 : f = 0
                · have e6 : ((f : Int) == 0) = true := by rw [hf0]; rfl
                  clear hf0
                  have cC := closeP HP.out
                  unfold ptr at cC
                  go_wp2_with fail
                  refine cC.mono ?_
                  rintro e w6 ⟨rfl, h6, o6⟩
                  have H6 := Lib.hid h6
                  have O6 := Lib.hid o6
                  clear cC h6 o6
                  go_wp2_with fail
                  go_meet
                  exact ⟨xs, true, rfl, by have := HM.out; omega, H6.out, HWX.out.kept O6.out (fun _ h => h), O6.out⟩
                · have e6 : ((f : Int) == 0) = false := not_beq (by omega)
                  clear hf0
                  go_wp2_with fail
                  go_meet
                  exact ⟨xs, cl, rfl, by have := HM.out; omega, HP.out, HWX.out, Only.refl _ _⟩
              · have e5 : ((d : Int) == 5) = false := not_beq (by omega)
                clear h5 h34
                have cO := offerP HP.out (ch : Int)
                unfold ptr at cO
                cases cl with
                | true =>
                  have hft : fits C xs true = false := rfl
                  rw [hft] at cO
                  simp only [Bool.false_eq_true, if_false] at cO
                  clear hft
                  go_wp2_with fail
                  refine cO.mono ?_
                  rintro e w6 ⟨rfl, h6, o6⟩
                  have H6 := Lib.hid h6
                  have O6 := Lib.hid o6
                  clear cO h6 o6
                  go_wp2_with fail
                  go_meet
                  exact ⟨xs, true, rfl, by have := HM.out; omega, H6.out, HWX.out.kept O6.out (fun _ h => h), O6.out⟩
                | false =>
                  by_cases hmC : m < C
                  · have hft : fits C xs false = true := by simp [fits]; rw [HM.out]; exact hmC
                    have e7 : (m : Int) < (C : Int) := by omega
                    rw [hft] at cO
                    simp only [if_true] at cO
                    clear hft hmC
                    go_wp2_with fail
                    refine cO.mono ?_
                    rintro e w6 ⟨rfl, h6, o6⟩
                    obtain ⟨i0, hi0, hz0, hz1, hz2⟩ := info_parts infoU8z
                    have HOLD := Lib.hid (show ∀ w', Only Nil w6 w' → ∀ b, ao = some b → ∀ (j : Nat) u, (B8 xs)[j]? = some u → w'.cell? (b.add j) = some u by
                      intro w' ho b hb j u hu
                      have hjl := (List.getElem?_eq_some_iff.1 hu).1
                      rw [B8_len] at hjl
                      obtain ⟨a1, a2, a3, a4⟩ := HW4.out (by rw [← HM.out]; omega)
                      rw [a1] at hb
                      injection hb with hb
                      rw [← hb, addr_add]
                      obtain ⟨x, hx⟩ : ∃ x, xs[j]? = some x := ⟨_, List.getElem?_eq_getElem hjl⟩
                      have hu2 : u = .int .u8 x := by
                        have := hu
                        simp [B8, hx] at this
                        exact this.symm
                      rw [hu2]
                      exact ho.cell (o6.cell (HW5.out j x hx) (fun h => by rcases h with h | h; exact a3 h; exact a4 h)) (fun h => h))
                    have c2 : w6.cell? ⟨lb, lo + j * 2 + 1, none⟩ = some (.int .u8 (ch : Nat)) := o6.cell x2 (fun h => by have := (HNW.out lb h).1; have := HLB.out (by omega); omega)
                    have H6 := Lib.hid h6
                    have O6 := Lib.hid o6
                    clear cO h6 o6
                    have s1 := Lib.hid (show m + 1 ≤ maxLen by unfold maxLen; omega)
                    have s2 := Lib.hid (show (m + 1) * 1 ≤ 140737488355328 by omega)
                    have hnone := Lib.hid (show ao = none → m = 0 ∧ m = 0 from fun e => by
                      have := HW3.out e
                      omega)
                    have hq1 := Lib.hid (show ∀ u ∈ [Value.int .u8 (ch : Nat)], u.oneCell' = true from fun u hu => by simp at hu; subst hu; rfl)
                    have hltb := World.block_lt_of_cell? w6 _ c2
                    go_wp2_with fail
                    go_region_law (first
                      | (refine step_append_grows rfl (.tmp 73) (.tmp 79) 27 rfl 5 i0 (.int .u8 0) 1 1 Try.underlying27 hi0 hz0 hz1 hz2 rfl (by decide) ao m m (B8 xs) (by simp [Act.eval, Act.put]) hnone.out (by rw [B8_len, HM.out, Nat.mul_one]) (HOLD.out _ (by (repeat with_reducible first | exact Only.refl _ _ | refine Only.alloc ?_ _ | refine Only.drew ?_))) ⟨w6.heap.size, 0, none⟩ 1 1 [.int .u8 (ch : Nat)] (by simp [Act.eval, Act.put]) rfl (fun j u hj => by rcases j with _ | j; (· simp only [List.getElem?_cons_zero, Option.some.injEq] at hj; subst hj; exact (Blk.new _ #[.int .u8 (ch : Nat)] 5).cell 0); (· simp at hj)) hq1.out (by omega) s1.out s2.out ?_; intro v9 w9 hown9 hg9))
                    all_goals
                      obtain ⟨H, hH1, hH2, hH3⟩ : ∃ H, Only Nil w6 H ∧ Only (M.Own none) H w9 ∧ w9.ownsRow H.heap.size 5 1 v9 (m + 1) (B8 xs ++ [.int .u8 (ch : Nat)]) := ⟨_, (by (repeat with_reducible first | exact Only.refl _ _ | refine Only.alloc ?_ _ | refine Only.drew ?_)), Only.of_grown hg9, hown9⟩
                      have hO9 : Only Nil w6 w9 := hH1.trans (hH2.mono (T := Nil) (fun k h => by cases h)) (fun _ _ h => h)
                      have e9 : B8 xs ++ [.int .u8 (ch : Nat)] = B8 (xs ++ [(ch : Int)]) := by simp [B8]
                      rw [e9] at hH3
                      have HW9 := Lib.hid (WV.own (p := p) (c := c) hH3 (by have := H6.out.1.lt; have := hH1.size; omega) (by have := H6.out.clt; have := hH1.size; omega))
                      have HO9 := Lib.hid hO9
                      clear hown9 hg9 hH1 hH2 hH3 hO9 e9
                      go_wp2_with fail
                      go_meet
                      exact ⟨xs ++ [(ch : Int)], false, rfl, by rw [List.length_append, HM.out]; simp; omega, H6.out.kept HO9.out (fun h => h) (fun h => h), HW9.out, O6.out.trans HO9.out (fun _ _ h => h.elim)⟩
                  · have hft : fits C xs false = false := by simp [fits]; rw [HM.out]; omega
                    have e7 : decide ((m : Int) < (C : Int)) = false := by simp; omega
                    have e8 : decide (m < C) = false := by simp; omega
                    rw [hft] at cO
                    simp only [Bool.false_eq_true, if_false] at cO
                    clear hft hmC
                    go_wp2_with fail
                    refine cO.mono ?_
                    rintro e w6 ⟨rfl, h6, o6⟩
                    have H6 := Lib.hid h6
                    have O6 := Lib.hid o6
                    clear cO h6 o6
                    go_wp2_with fail
                    go_meet
                    exact ⟨xs, false, rfl, by have := HM.out; omega, H6.out, HWX.out.kept O6.out (fun _ h => h), O6.out⟩
          case rest =>
            obtain ⟨ys, dl, rfl, hyl, hP6, hW6, o6⟩ := hcut
            obtain ⟨wb6, ao6, D6, wo6, rfl, _⟩ := id hW6
            obtain ⟨n, hn⟩ : ∃ n, ys.length = n := ⟨_, rfl⟩
            have cS := stateP hP6
            rw [hn] at cS ⊢
            have b1 : ((n : Int) != (n : Int)) = false := by simp
            have b2 : (dl != dl) = false := by simp
            have HB6 := Lib.hid (HB.out.kept o6 (fun h => (HNW.out sb h).2 rfl))
            have HN := Lib.hid hn
            have H6 := Lib.hid hP6
            have HW6 := Lib.hid hW6
            have O6 := Lib.hid o6
            have HY := Lib.hid hyl
            have HO6 := Lib.hid (HO.out.trans o6 (fun i hi h => by have := (HNW.out i h).1; omega))
            have HL6 := Lib.hid (show Acts wc lb lo L from fun i q hq => by
              have hlb := HLB.out (by omega)
              have hx : ¬ Two p c lb := fun h => by have := (HNW.out lb h).1; omega
              exact ⟨o6.cell (HLL.out i q hq).1 hx, o6.cell (HLL.out i q hq).2 hx⟩)
            unfold ptr at cS
            clear hP6 hW6 o6 hyl hn x1 x2 d1 d2 d3 d4 HP HW HW3 HW4 HW5
            go_wp2_with fail
            refine cS.mono ?_
            rintro e w7 ⟨rfl, o7⟩
            have O7 := Lib.hid o7
            clear cS o7
            go_wp2_with fail
            go_roundg (n0 - (j + 1))
            case measure => have := HG2.out; omega
            case rel => exact ⟨j + 1, ys, dl, by go_num, rfl, by omega, rfl, HY.out, H6.out.kept O7.out (fun h => h) (fun h => h), by have := HW6.out.kept O7.out (fun _ h => h.elim); rw [HN.out] at this; exact this, HB6.out.kept O7.out (fun h => h), HL6.out.kept O7.out, HO6.out.trans O7.out (fun _ _ h => h)⟩
        · have hj' : j = n0 := by omega
          subst hj'
          have HB := Lib.hid hB
          have HLL := Lib.hid hL
          have HO := Lib.hid ho
          clear hW wd1 wd2 wd3 wd4 wd5 hP hB hL ho
          go_wp2_with fail
          go_roundg (2 - (k + 1))
          case measure => have := HG.out; omega
          case rel => exact ⟨k + 1, by go_num, by omega, rfl, HB.out, HLL.out, HO.out⟩
    · have hk2 : k = 2 := by omega
      subst hk2
      go_wp2_with fail
      go_ret
      exact ⟨rfl, ho⟩
end Go.Proofs.Ytpadipjppncabaa
