/- The walk of the law StackMoves. -/
import Derived.Test.YtbgmdckfkfkglaaSFrames
import Derived.Laws.CopyOwn
import Derived.BigRegion
import Derived.Deep.RegionLaw
import Derived.Deep.DeepCutAuto
set_option linter.unusedSimpArgs false
set_option linter.unusedVariables false
namespace Go.Proofs.Ytbgmdckfkfkglaa
open Go.RowKit M

theorem cM9_i32 {l : List Int} {p q k : Nat} (hl : ∀ x ∈ l, I32 x) (h20 : l.length ≤ 20) (hp : p < 23) (hq : q < 23) (hk : k < 23) : ∀ c ∈ cM9 l p q k, I32 c.k := by
  intro c hc
  unfold cM9 at hc
  rcases List.mem_append.1 hc with hc | hc
  · obtain ⟨j, hj, hc⟩ := blkL_mem hc
    simp [fM9] at hc
    rcases hc with rfl | rfl | rfl
    · show I32 (j : Int); unfold I32; omega
    · show I32 (l[j]?.getD 0)
      rw [← List.getD_eq_getElem?_getD]
      exact getD_mem hl (by unfold I32; decide) j
    · show I32 0; unfold I32; decide
  · simp at hc
    rcases hc with rfl | rfl | rfl | rfl
    · show I32 (p : Int); unfold I32; omega
    · show I32 (q : Int); unfold I32; omega
    · show I32 (k : Int); unfold I32; omega
    · show I32 0; unfold I32; decide

theorem copied_cur {w w' : World} {g : Nat} {cur : Array Value} {t : TypeId} (h : w.heap[g]? = some (.cells cur t (0, 0))) (ho : Only Nil w w') : w'.heap[g]? = some (.cells cur.toList.toArray t (0, 0)) := by
  rw [ho.block g (Array.getElem?_eq_some_iff.1 h).1 (fun h => h), h]
theorem copied_below {w0 w w' : World} (h : Only Nil w0 w) (ho : Only Nil w w') : Below w0.heap.size w0 w' := (h.trans ho (fun _ _ h => h)).below (Nat.le_refl _) (fun _ h => h.elim)
theorem only_below {w w' : World} (h : Below w.heap.size w w') : Only Nil w w' := ⟨h.os, h.tape, h.output, h.size, fun k hk _ => h.block k hk⟩
theorem copied_pos {w : World} {g o1 p k capA base : Nat} {aoA : Option Addr} {e : TypeId} {X : List Int} (hX : X.length = k) (hop : o1 = p ∨ (k = 0 ∧ o1 = 0)) (hown : w.ownsRow base e 1 (.slice aoA k capA) k (I32s X)) :
    0 < (I32s X).length → (some (⟨g, o1, none⟩ : Addr) = some ⟨g, p, none⟩) ∧ ∃ ad, aoA = some ad ∧ ∀ j v, (I32s X)[j]? = some v → w.cell? (ad.add j) = some v := by
  intro h
  rw [I32s_len, hX] at h
  refine ⟨by rcases hop with rfl | ⟨h0, _⟩; (· rfl); (· omega), ?_⟩
  rcases hown.2 with ⟨_, h0⟩ | ⟨g9, c9, cur9, hv9, hb9, hg9, h19, h29, h39, h49⟩
  · omega
  · have hv := hv9
    simp only [Value.slice.injEq] at hv9
    obtain ⟨rfl, _, rfl⟩ := hv9
    refine ⟨_, rfl, fun j v hj => ?_⟩
    have hjl := (List.getElem?_eq_some_iff.1 hj).1
    rw [I32s_len] at hjl
    rw [addr_add, Nat.zero_add, World.ownsRow.cellAt hown j (by omega)]
    exact hj
theorem splice_moved (l : List Int) (rest : List Value) (p q k : Nat) (h1 : p + k ≤ l.length) (h2 : q + k ≤ l.length) : splice (I32s l ++ rest) p (I32s ((l.drop q).take k)) = I32s (moved l p q k) ++ rest := by
  have hk : (I32s ((l.drop q).take k)).length = k := by rw [I32s_len, List.length_take, List.length_drop]; omega
  unfold splice
  rw [hk, List.take_append_of_le_length (by rw [I32s_len]; omega), List.drop_append_of_le_length (by rw [I32s_len]; omega)]
  unfold moved
  simp [I32s, List.map_append, List.map_take, List.map_drop]

set_option maxRecDepth 10000 in
set_option maxHeartbeats 3200000 in
theorem moves9Law_any (ao : Option Addr) (len cap : Nat) (zs : List Int) (x y u : Nat) (hx : x ≤ 255) (hy : y ≤ 255) (hu : u ≤ 255) (w : World) (hr : IsRow .i32 w ao len cap zs) :
    Calls Try.prog 10 #[.slice ao len cap, .int .u8 x, .int .u8 y, .int .u8 u] w fun e w' => e = .returned (.bool true) ∧ Only Nil w w' := by
  have cK := known9_any w
  by_cases h20 : 20 < len
  · have h20' : (20 : Int) < (len : Int) := by omega
    clear hr
    go_enter Try.func10, Try.ntmps10
    go_wp2_with fail
    refine cK.mono ?_
    rintro e w1 ⟨rfl, ho1⟩
    clear cK
    go_wp2_with fail
    go_ret
    exact ⟨rfl, ho1⟩
  · have h20' : (len : Int) ≤ 20 := by omega
    have hn20 : len ≤ 20 := by omega
    clear h20
    obtain ⟨b, off, hl, p2, p3, p4, _, p5⟩ := hr.opened
    have hlc : len ≤ cap ∧ cap ≤ maxLen := by
      rcases hr with ⟨_, h1, h2, _⟩ | ⟨_, _, h1, h2, _⟩
      · exact ⟨by omega, by rw [h2]; exact Nat.zero_le _⟩
      · exact ⟨h1, h2⟩
    obtain ⟨l, hll⟩ : ∃ l, zs.take len = l := ⟨_, rfl⟩
    rw [hll] at hl p4 p5
    have hi : ∀ v ∈ l, I32 v := fun v hv => bounds_i32 (p5 v hv)
    obtain ⟨n, rfl⟩ : ∃ n, n = len := ⟨_, rfl⟩
    obtain ⟨i2, h2, h20, h21, h22⟩ := info_parts info_cod9
    obtain ⟨i3, h3, h30, h31, h32⟩ := info_parts Try.info21
    obtain ⟨s, hs⟩ : ∃ s, n + 3 = s := ⟨_, rfl⟩
    obtain ⟨p, hp⟩ : ∃ p, y % s = p := ⟨_, rfl⟩
    obtain ⟨q, hq⟩ : ∃ q, x % s = q := ⟨_, rfl⟩
    obtain ⟨k, hk⟩ : ∃ k, u % s = k := ⟨_, rfl⟩
    have hp23 : p < 23 := by have := Nat.mod_lt y (show 0 < s by omega); omega
    have hq23 : q < 23 := by have := Nat.mod_lt x (show 0 < s by omega); omega
    have hk23 : k < 23 := by have := Nat.mod_lt u (show 0 < s by omega); omega
    have hpi : (y : Int) % (s : Int) = (p : Int) := by rw [← hp]; simp
    have hqi : (x : Int) % (s : Int) = (q : Int) := by rw [← hq]; simp
    have hki : (u : Int) % (s : Int) = (k : Int) := by rw [← hk]; simp
    have hsi : (n : Int) + 3 = (s : Int) := by omega
    have hs0 : (3 : Int) ≤ (s : Int) := by omega
    have HL := Lib.hid hl
    have HI := Lib.hid hi
    have H2 := Lib.hid p2
    have H3 := Lib.hid p3
    have H4 := Lib.hid p4
    have HC := Lib.hid hlc
    clear hl hi p2 p3 p4 p5 hr hll hlc hp hq hk
    go_enter Try.func10, Try.ntmps10
    go_wp2_with fail
    refine cK.mono ?_
    rintro e w1 ⟨rfl, ho1⟩
    clear cK
    have HO1 := Lib.hid ho1
    clear ho1
    go_wp2_with fail
    go_region
    rw [hpi, hqi, hki]
    obtain ⟨w2, hw2⟩ : ∃ w2, w1.drew = w2 := ⟨_, rfl⟩
    have ho2 : Only Nil w w2 := by rw [← hw2]; exact HO1.out.drew
    rw [hw2]
    have HO2 := Lib.hid ho2
    clear hw2 ho2 HO1 hpi hqi hki hsi hs0 hx hy hu
    go_wp2_with fail
    go_loopg [13, 14] n (fun m t i wr => m ≤ n ∧ i = .int .i64 ((n - m : Nat) : Int) ∧ wr.ownsRow w.heap.size 49 2 t ((n - m) * 3) (codCells (blkL (fM9 l) (n - m))) ∧ Only Nil w wr)
    case atStart => exact ⟨Nat.le_refl _, by simp, by simpa [blkL, codCells] using World.ownsRow_nil _ _ _ _, HO2.out⟩
    case round =>
      obtain ⟨hm, rfl, hown, ho⟩ := hrel
      obtain ⟨m, rfl⟩ : ∃ m, m = gk := ⟨gk, rfl⟩
      obtain ⟨j, hj⟩ : ∃ j, n - m = j := ⟨_, rfl⟩
      rw [hj] at hown ⊢
      have hjn : j ≤ n := by omega
      have HJ := Lib.hid hj
      clear hj
      obtain ⟨N, hN⟩ : ∃ N, j * 3 = N := ⟨_, rfl⟩
      have hN2 : N ≤ 60 := by omega
      rw [hN] at hown
      obtain ⟨a3, c3, rfl⟩ := sl_of_own hown
      by_cases hjl : j < n
      · have hjl2 : j < l.length := by rw [HL.out]; exact hjl
        obtain ⟨v, hv⟩ : ∃ v, l.getD j 0 = v := ⟨_, rfl⟩
        have hv2 : l[j]? = some v := by rw [← hv]; simp [List.getD, hjl2]
        have ea := H2.out (by omega)
        subst ea
        have hcell := ho.cell (H4.out j (.int .i32 v) (by simp [hv2])) (fun h => h)
        have k0 : (0 : Int) ≤ (j : Int) := Int.natCast_nonneg _
        have k1 : (j : Int) < (n : Int) := by omega
        have hf : fM9 l j = [⟨1, (j : Int)⟩, ⟨1, v⟩, ⟨7, 0⟩] := by unfold fM9; rw [hv]
        have w32a : IntKind.i32.wrap (j : Int) = (j : Int) := by rw [IntKind.wrap_i32]; omega
        have HF := Lib.hid hf
        have HNN := Lib.hid hN
        have HO := Lib.hid ho
        have hszr := ho.size
        clear hf hv2 hv hN ho
        go_wp2_with (at_builtin; go_loud (refine wpList_append_cods rfl _ _ 22 rfl w.heap.size 49 i2 _ 16 Try.underlying22 h2 h20 h21 h22 rfl _ _ _ rfl hown [⟨1, (j : Int)⟩, ⟨1, v⟩, ⟨7, 0⟩] 3 rfl (by decide) _ ?c0 rfl ?c1 ?c2 hszr ?_))
        case c0 => rfl
        case c1 => simp [maxLen]; omega
        case c2 => omega
        intro g cap4 w4 hown4 hc4 hc5 ho4
        have ho5 : Only Nil w w4 := HO.out.nil_own hown ho4
        have hg : fM9 l j = _ := HF.out
        have hown5 : w4.ownsRow w.heap.size 49 2 (.slice (some ⟨g, 0, none⟩) (N + 3) cap4) (N + 3) (codCells (blkL (fM9 l) (j + 1))) := by
          rw [blkL_succ, codCells_append, hg]; exact hown4
        have HOWN := Lib.hid hown5
        clear hown hown4 hcell ho4 hown5 hg HF hszr
        go_wp2_with fail
        go_roundg (m - 1)
        case measure => have := HJ.out; omega
        case rel =>
          refine ⟨by omega, by have := HJ.out; go_num, ?_, ho5⟩
          rw [show n - (m - 1) = j + 1 by have := HJ.out; omega, show (j + 1) * 3 = N + 3 by have := HNN.out; omega]
          exact HOWN.out
      · have hjn2 : j = n := by omega
        subst hjn2
        have HO := Lib.hid ho
        have hszr := ho.size
        have wp : IntKind.i32.wrap (p : Int) = (p : Int) := by rw [IntKind.wrap_i32]; omega
        have wq : IntKind.i32.wrap (q : Int) = (q : Int) := by rw [IntKind.wrap_i32]; omega
        have wk : IntKind.i32.wrap (k : Int) = (k : Int) := by rw [IntKind.wrap_i32]; omega
        clear ho
        go_wp2_with (at_builtin; go_loud (refine wpList_append_cods rfl _ _ 22 rfl w.heap.size 49 i2 _ 16 Try.underlying22 h2 h20 h21 h22 rfl _ _ _ rfl hown [⟨1, (p : Int)⟩, ⟨1, (q : Int)⟩, ⟨8, (k : Int)⟩, ⟨0, 0⟩] 4 rfl (by decide) _ ?c0 rfl ?c1 ?c2 hszr ?_))
        case c0 => rfl
        case c1 => simp [maxLen]; omega
        case c2 => omega
        intro g cap4 w4 hown4 hc4 hc5 ho4
        have ho5 : Only Nil w w4 := HO.out.nil_own hown ho4
        rw [← codCells_append] at hown4
        have hcode : blkL (fM9 l) j ++ [⟨1, (p : Int)⟩, ⟨1, (q : Int)⟩, ⟨8, (k : Int)⟩, ⟨0, 0⟩] = cM9 l p q k := by unfold cM9; rw [HL.out]
        rw [hcode] at hown4
        have hlc : (cM9 l p q k).length = N + 4 := by rw [cM9_len, HL.out, hN]
        have hs1 := CSrc.of_own hown4
        have cN := newS_any (Q := Nil) (cM9 l p q k) [] (j : Int) 0 j 0 (j : Int) 0 (by rw [if_neg (by omega)]) (by rw [if_neg (by omega)]) (by decide) (by rw [if_neg (by omega)]; rfl) _ 0 _ _ _ hs1 (fun n cap h => by cases h) (srcB_none _ 0) (by rw [hlc]; omega) (by decide) (by omega) (fun _ h => h.elim)
        obtain ⟨t, ht, htok, htno⟩ := moves_end l p q k (by rw [HL.out]; omega)
        rw [HL.out] at ht htok htno
        rw [show j * 3 + 4 = N + 4 by omega] at ht
        have hi32 := cM9_i32 (p := p) (q := q) (k := k) HI.out (by rw [HL.out]; omega) hp23 hq23 hk23
        have hS0 : (ss0 j 0 []).Ok := ss0_ok j 0 [] (by omega) (Nat.zero_le _) (by intro x hx; cases hx)
        have hok := sRun_ok hS0 hi32 (by rw [hlc]; omega) (N + 4)
        rw [ht] at hok
        have HLC := Lib.hid hlc
        have HNN := Lib.hid hN
        have HOK := Lib.hid hok
        have HI32 := Lib.hid hi32
        have HT := Lib.hid ht
        have HTOK := Lib.hid htok
        have HTNO := Lib.hid htno
        have HO5 := Lib.hid ho5
        have HS0 := Lib.hid hS0
        clear hown hown4 ho4 hs1 hlc hN hszr HO hcode wp wq wk ht htok htno hi32 hok hS0 ho5
        go_wp2_with fail
        refine cN.mono ?_
        rintro e w6 ⟨mb, wb, cv', iv', rfl, hmb, hwb, ho6, hM6⟩
        clear cN
        have ho6' : Only Nil w w6 := HO5.out.trans ho6 (fun _ _ h => h)
        have hF6 : Fr3 w.heap.size mb wb (.slice none 0 0) (.slice none 0 0) (.slice none 0 0) := Fr3.new (by have := HO5.out.size; omega) (by have := HO5.out.size; omega)
        have hF : ((N : Int) + 4).toNat = N + 4 := by omega
        have cR := runS_any mb wb (cM9 l p q k) HI32.out (by rw [HLC.out]; omega) (ss0 j 0 []) cv' _ _ iv' _ w6 hM6 HS0.out ((N : Int) + 4) (by omega) (by omega) (by rw [hF]; show 0 + _ ≤ _; omega) (t := t) (by rw [hF]; exact HT.out)
        have HF6 := Lib.hid hF6
        have HO6 := Lib.hid ho6'
        clear hM6 hmb hwb ho6 hF6 ho6' hF
        go_wp2_with fail
        refine cR.mono ?_
        rintro e w7 ⟨sv7, kv7, iv7, ov7, rv, rfl, hg7, hown7, hM7⟩
        clear cR
        have ho7 := HF6.out.only HO6.out hg7
        have HM := Lib.hid hM7
        have HO7 := Lib.hid ho7
        obtain ⟨ao9, n9, cap9, rfl⟩ := ownsRow_slice hown7
        clear hM7 hg7 hown7 ho7 HF6 HO6
        have wpk : IntKind.i64.wrap ((p : Int) + (k : Int)) = (p : Int) + (k : Int) := by rw [IntKind.wrap_i64]; omega
        have wqk : IntKind.i64.wrap ((q : Int) + (k : Int)) = (q : Int) + (k : Int) := by rw [IntKind.wrap_i64]; omega
        by_cases hg : p + k ≤ j ∧ q + k ≤ j
        · obtain ⟨f1, f2⟩ := HTOK.out hg
          obtain ⟨g1, g2⟩ := hg
          rw [f1, show ((1 : Nat) : Int) = 1 from rfl]
          have HF2 := Lib.hid f2
          have G1 : (p : Int) + (k : Int) ≤ (j : Int) := by omega
          have G2 : (q : Int) + (k : Int) ≤ (j : Int) := by omega
          have e1 : decide ((j : Int) < (p : Int) + (k : Int)) = false := by simp; omega
          have e2 : decide ((j : Int) < (q : Int) + (k : Int)) = false := by simp; omega
          obtain ⟨w8, hw8⟩ : ∃ w8, w7.alloc (.cells #[Value.slice ao9 n9 cap9, .int .i64 1, .int .i64 (t.trap : Nat)] 44) = w8 := ⟨_, rfl⟩
          have hB8 : Blk w8 w7.heap.size #[Value.slice ao9 n9 cap9, .int .i64 1, .int .i64 (t.trap : Nat)] 44 := by rw [← hw8]; exact Blk.new _ _ _
          have ho8 : Only Nil w7 w8 := by rw [← hw8]; exact (Only.refl _ _).alloc _
          obtain ⟨r8, hr8⟩ : ∃ r, w7.heap.size = r := ⟨_, rfl⟩
          have hsrc8 : Src w8 b (.slice ao j cap) (I32s l) := ⟨ao, cap, off, by rw [I32s_len, HL.out], fun h => H2.out (by rw [I32s_len, HL.out] at h; exact h), H3.out, (H4.out.kept ((HO7.out).trans ho8 (fun _ _ h => h)) (fun _ h => h))⟩
          have HS8 := Lib.hid hsrc8
          have hl0 : (I32s l).length = j := by rw [I32s_len, HL.out]
          have c1 : Hid (0 + (I32s l).length ≤ maxLen) := Lib.hid (by rw [hl0]; simp [maxLen]; omega)
          have c2 : Hid ((0 + (I32s l).length) * 4 ≤ 140737488355328) := Lib.hid (by rw [hl0]; omega)
          have HL0 := Lib.hid hl0
          clear hsrc8 f1 f2 hl0
          go_wp2_with (at_builtin; go_loud (refine wpList_append_src rfl _ _ 50 rfl w8.heap.size 21 i3 (.int .i32 0) 4 Try.underlying50 h3 h30 h31 h32 rfl _ _ _ rfl (World.ownsRow_nil _ _ _ _) b _ (I32s l) rfl HS8.out (I32s_one _) c1.out c2.out (Nat.le_refl _) ?_))
          intro v10 w10 hown10 hob10 ho10
          have hoN : Only Nil w8 w10 := ho10.mono (fun _ h => by cases h)
          rw [HL0.out] at hown10
          have hB10 := hB8.kept hoN (fun h => h)
          rw [hr8] at hB10
          have k1 : w10.cell? ⟨r8, 1, none⟩ = some (.int .i64 1) := hB10.cell 1
          have hr10 : r8 < w8.heap.size := by rw [← hr8]; exact hB8.lt
          obtain ⟨a10, cap10, rfl⟩ := sl_of_own hown10
          have HOWN := Lib.hid hown10
          have HO10 := Lib.hid ((HO7.out.trans ho8 (fun _ _ h => h)).trans hoN (fun _ _ h => h))
          have HO78 := Lib.hid hoN
          have K8 : Hid (w8.cell? ⟨r8, 1, none⟩ = some (.int .i64 1)) := Lib.hid (by rw [← hr8]; exact hB8.cell 1)
          have HO8 := Lib.hid ho8
          have K1 := Lib.hid k1
          have HR10 := Lib.hid hr10
          have HS10 := Lib.hid (HS8.out.kept hoN (fun _ h => h))
          have HSZ := Lib.hid (hoN.size)
          clear hown10 hob10 ho10 hoN hB10 k1 hr10 hB8 ho8 HS8 hw8 hr8
          go_wp2_with fail
          go_cut [] (fun wx => Only Nil w8 wx ∧ ∀ (i : Nat) (v : Int), (moved l p q k)[i]? = some v → ∃ gg, a10 = some ⟨gg, 0, none⟩ ∧ wx.cell? ⟨gg, i, none⟩ = some (.int .i32 v))
          case first =>
            obtain ⟨qa, hqa⟩ : ∃ qa, q + k = qa := ⟨_, rfl⟩
            have wq2 : (q : Int) + (k : Int) = (qa : Int) := by omega
            have wq1 : IntKind.i64.wrap (qa : Int) = (qa : Int) := by rw [IntKind.wrap_i64]; omega
            have q0 : (0 : Int) ≤ (q : Int) := Int.natCast_nonneg _
            have p0 : (0 : Int) ≤ (p : Int) := Int.natCast_nonneg _
            have qa0 : (0 : Int) ≤ (qa : Int) := Int.natCast_nonneg _
            have hqq : q ≤ qa := by omega
            have hq3 : (qa : Int) ≤ (cap : Int) := by have := HC.out.1; omega
            have hp3 : (p : Int) ≤ (j : Int) := by omega
            have hlen : (l.drop q).length = j - q := by rw [List.length_drop, HL.out]
            have htl : ((l.drop q).take k).length = k := by rw [List.length_take, hlen]; omega
            by_cases hj0 : j = 0
            · obtain ⟨rfl, rfl, rfl⟩ : p = 0 ∧ q = 0 ∧ k = 0 := ⟨by omega, by omega, by omega⟩
              subst hj0
              have hl0 : l = [] := List.eq_nil_of_length_eq_zero HL.out
              subst hl0
              have hqa0 : qa = 0 := by omega
              subst hqa0
              have w0 : IntKind.i64.wrap 0 = 0 := by decide
              have z1 : (0 : Int) ≤ (cap : Int) := Int.natCast_nonneg _
              have z2 : (0 : Int) ≤ (cap10 : Int) := Int.natCast_nonneg _
              have hsrc : ∀ w', Src w' b (.slice ao 0 cap) (I32s []) := fun w' => ⟨ao, cap, off, rfl, fun h => absurd h (Nat.lt_irrefl 0), H3.out, fun i u h => by simp [I32s] at h⟩
              have hcp : ∀ ty w aoA capA, (Builtin.copy_ #[50, 50] ty #[.slice a10 0 cap10, .slice aoA 0 capA]).run Try.prog w = .ok (goInt 0) w := fun ty w aoA capA => run_copy_none (P := Try.prog) w _ _ ty 21 a10 aoA 0 cap10 0 capA Try.underlying50 (by kernel_rfl) rfl
              have HSRC := Lib.hid hsrc
              have HCP := Lib.hid hcp
              clear hsrc hcp
              go_region_law (first
                | (refine step_append_from rfl (.const (.slice none 0 0)) (.tmp 112) 50 rfl w10.heap.size 21 i3 (.int .i32 0) 4 Try.underlying50 h3 h30 h31 h32 rfl _ 0 [] rfl (World.ownsRow_nil _ _ _ _) b _ (I32s []) (by simp [Act.eval, Act.put]) (HSRC.out _) (I32s_one _) (by simp [I32s, maxLen]) (by simp [I32s]) (by first | exact Nat.le_refl _ | simp) ?_; intro vA wA hownA hoA; have hoA2 : Only Nil w10 wA := Only.trans (by (repeat with_reducible first | exact Only.refl _ _ | refine Only.drew ?_ | refine Only.alloc ?_ _)) hoA (fun _ _ h => by cases h); rw [show 0 + (I32s []).length = 0 from rfl] at hownA; obtain ⟨aoA, capA, rfl⟩ := sl_of_own hownA; clear hownA hoA)
                | (refine step_copy_known rfl (.tmp 106) (.tmp 113) 50 50 rfl _ _ _ (by simp [Act.eval, Act.put]) (by simp [Act.eval, Act.put]) (HCP.out _ _ aoA capA) ?_))
              all_goals
                go_wp2_with fail
                go_meet
                refine ⟨HO78.out.trans (by (repeat with_reducible first | exact hoA2 | refine Only.drew ?_)) (fun _ _ h => h), ?_⟩
                intro i v hi
                have : moved ([] : List Int) 0 0 0 = [] := rfl
                rw [this] at hi
                simp at hi
            · have hj1 : 0 < j := by omega
              have ea := H2.out hj1
              have HOW := HOWN.out
              obtain ⟨ga, hga, hgb, cur, hcur, hnc, hcm, hcs, hct⟩ : ∃ ga, a10 = some ⟨ga, 0, none⟩ ∧ w8.heap.size ≤ ga ∧ ∃ cur, w10.heap[ga]? = some (.cells cur 21 (0, 0)) ∧ j ≤ cap10 ∧ cap10 ≤ maxLen ∧ cur.size = cap10 * 1 ∧ cur.toList.take (j * 1) = I32s l := by
                rcases HOW.2 with ⟨_, h0⟩ | ⟨g9, c9, cur9, hv9, hb9, hg9, h19, h29, h39, h49⟩
                · exact absurd h0 (by omega)
                · simp only [Value.slice.injEq] at hv9
                  obtain ⟨e1, _, e3⟩ := hv9
                  subst e3
                  exact ⟨g9, e1, hb9, cur9, hg9, h19, h29, h39, h49⟩
              subst ea
              subst hga
              rw [Nat.mul_one] at hcs hct
              obtain ⟨o1, ho1, hop⟩ : ∃ o1, (if cap10 = p then some (⟨ga, 0, none⟩ : Addr) else some ⟨ga, p, none⟩) = some ⟨ga, o1, none⟩ ∧ (o1 = p ∨ (k = 0 ∧ o1 = 0)) := by
                by_cases e : cap10 = p
                · exact ⟨0, by rw [if_pos e], Or.inr ⟨by omega, rfl⟩⟩
                · exact ⟨p, by rw [if_neg e], Or.inl rfl⟩
              obtain ⟨o2, ho2, hoq⟩ : ∃ o2, (if cap = q then some (⟨b, off, none⟩ : Addr) else some ⟨b, off + q, none⟩) = some ⟨b, o2, none⟩ ∧ (o2 = off + q ∨ k = 0) := by
                by_cases e : cap = q
                · exact ⟨off, by rw [if_pos e], Or.inr (by have := HC.out.1; omega)⟩
                · exact ⟨off + q, by rw [if_neg e], Or.inl rfl⟩
              have hsrc : ∀ w', Only Nil w10 w' → Src w' b (.slice (some ⟨b, o2, none⟩) (qa - q) (cap - q)) (I32s ((l.drop q).take k)) := fun w' ho' => by
                refine ⟨some ⟨b, o2, none⟩, cap - q, o2, by rw [I32s_len, htl]; congr 1; omega, fun _ => rfl, nofun, ?_⟩
                intro i u hi
                have hil := (List.getElem?_eq_some_iff.1 hi).1
                rw [I32s_len, htl] at hil
                have e2 : o2 = off + q := by omega
                subst e2
                have hu : (I32s l)[q + i]? = some u := by
                  rw [← hi]
                  simp only [I32s, List.getElem?_map, List.getElem?_take, List.getElem?_drop]
                  rw [if_pos hil]
                have h9 := (H4.out.kept (HO10.out.trans ho' (fun _ _ h => h)) (fun _ h => h)) (q + i) u hu
                rw [Nat.add_assoc]
                exact h9
              have HSRC := Lib.hid hsrc
              have HCUR := Lib.hid hcur
              have HCS := Lib.hid hcs
              have HCT := Lib.hid hct
              have HOP := Lib.hid hop
              have HTL := Lib.hid htl
              have HQA := Lib.hid hqa
              have HGB := Lib.hid hgb
              have hp4 : (p : Int) ≤ (cap10 : Int) := by omega
              clear HOW HOWN hsrc hcur hcs hct hop hoq htl hqa hgb hlen HS10
              go_region_law (first
                | (refine step_append_from rfl (.const (.slice none 0 0)) (.tmp 112) 50 rfl w10.heap.size 21 i3 (.int .i32 0) 4 Try.underlying50 h3 h30 h31 h32 rfl _ 0 [] rfl (World.ownsRow_nil _ _ _ _) b _ (I32s ((l.drop q).take k)) (by simp [Act.eval, Act.put]) (HSRC.out _ (by (repeat with_reducible first | exact Only.refl _ _ | refine Only.drew ?_ | refine Only.alloc ?_ _))) (I32s_one _) (by rw [I32s_len, HTL.out]; simp [maxLen]; omega) (by rw [I32s_len, HTL.out]; omega) (by first | exact Nat.le_refl _ | simp) ?_; intro vA wA hownA hoA; have hoA2 : Only Nil w10 wA := Only.trans (by (repeat with_reducible first | exact Only.refl _ _ | refine Only.drew ?_ | refine Only.alloc ?_ _)) hoA (fun _ _ h => by cases h); rw [I32s_len, HTL.out, Nat.zero_add, List.nil_append] at hownA; obtain ⟨aoA, capA, rfl⟩ := sl_of_own hownA; have hcurA := copied_cur HCUR.out hoA2; have hbA := copied_below HO78.out hoA2; have hposA := copied_pos (g := ga) HTL.out HOP.out hownA; clear hownA hoA hoA2)
                | (refine step_copy_splice rfl (.tmp 106) (.tmp 113) 50 50 rfl 21 Try.underlying50 (by kernel_rfl) (some ⟨ga, o1, none⟩) aoA (j - p) (cap10 - p) k capA (by simp [Act.eval, Act.put]) (by simp [Act.eval, Act.put]) ga p cur.toList 21 hcurA (I32s ((l.drop q).take k)) (by rw [I32s_len, HTL.out]; show k = min k (j - p); omega) hposA (by rw [I32s_len, HTL.out, Array.length_toList, HCS.out]; omega) (I32s_one _) w8.heap.size w8 hbA HGB.out ?_; intro wB hcurB hbB))
              all_goals
                go_wp2_with fail
                go_meet
                refine ⟨by (repeat with_reducible first | exact only_below hbB | refine Only.drew ?_), ?_⟩
                intro i v hi
                refine ⟨ga, rfl, ?_⟩
                have hcu : cur.toList = I32s l ++ cur.toList.drop j := by rw [← HCT.out, List.take_append_drop]
                have hsp := splice_moved l (cur.toList.drop j) p q k (by rw [HL.out]; exact g1) (by rw [HL.out]; exact g2)
                rw [← hcu] at hsp
                have hBB : Blk wB ga (splice cur.toList p (I32s ((l.drop q).take k))).toArray 21 := hcurB.out
                have hc := hBB.cell i
                rw [hsp, List.getElem?_toArray, List.getElem?_append_left (by rw [I32s_len]; exact (List.getElem?_eq_some_iff.1 hi).1)] at hc
                have hv : (I32s (moved l p q k))[i]? = some (.int .i32 v) := by simp [I32s, hi]
                rw [hv] at hc
                exact hc
          case rest =>
            obtain ⟨hoX, hrow⟩ := hcut
            have HROW := Lib.hid hrow
            have HOX := Lib.hid hoX
            have hml : (moved l p q k).length = j := by rw [moved_len _ _ _ _ (by rw [HL.out]; exact g1) (by rw [HL.out]; exact g2), HL.out]
            have HML := Lib.hid hml
            clear hoX hrow hml
            go_wp2_with fail
            go_loopg [18] j (fun m i wx => m ≤ j ∧ i = .int .i64 ((j - m : Nat) : Int) ∧ Only Nil wc wx)
            case atStart => exact ⟨Nat.le_refl _, by simp, Only.refl _ _⟩
            case round =>
              obtain ⟨hm5, rfl, ho5⟩ := hrel
              obtain ⟨m5, rfl⟩ : ∃ m, m = gk := ⟨gk, rfl⟩
              obtain ⟨r, hr⟩ : ∃ r, j - m5 = r := ⟨_, rfl⟩
              rw [hr]
              have hrj : r ≤ j := by omega
              have HR := Lib.hid hr
              clear hr
              by_cases hrl : r < j
              · obtain ⟨v, hv⟩ : ∃ v, (moved l p q k)[r]? = some v := ⟨_, List.getElem?_eq_getElem (by rw [HML.out]; exact hrl)⟩
                obtain ⟨gg, ha, hcell0⟩ := HROW.out r v hv
                subst ha
                have hcell := ho5.cell hcell0 (fun h => h)
                have hgd : t.mem.getD r 0 = v := by rw [HF2.out, List.getD_eq_getElem?_getD, hv]; rfl
                have cW := wordS_in mb wb r (cM9 l p q k) t _ _ _ _ _ _ (HM.out.quiet ((HO8.out.trans HOX.out (fun _ _ h => h)).trans ho5 (fun _ _ h => h))) HOK.out.1.len (by rw [HF2.out, HML.out]; exact hrl)
                rw [hgd] at cW
                have r0 : (0 : Int) ≤ (r : Int) := Int.natCast_nonneg _
                have r1 : (r : Int) < (j : Int) := by omega
                have hvv : (v != v) = false := by simp
                have HO5' := Lib.hid ho5
                clear hv hcell0 hgd ho5
                go_wp2_with fail
                refine cW.mono ?_
                rintro e w9 ⟨rfl, rfl⟩
                clear cW
                go_wp2_with fail
                go_roundg (m5 - 1)
                case measure => have := HR.out; omega
                case rel => exact ⟨by omega, by have := HR.out; go_num, HO5'.out⟩
              · have hrj2 : r = j := by omega
                have hoE := HOX.out.trans ho5 (fun _ _ h => h)
                have hk1 := hoE.cell K8.out (fun h => h)
                have hr1 : r8 < wr.heap.size := Nat.lt_of_lt_of_le HR10.out hoE.size
                have hoF := (HO7.out.trans HO8.out (fun _ _ h => h)).trans hoE (fun _ _ h => h)
                have HOF := Lib.hid hoF
                clear hoE hoF ho5 hrl
                have r1 : ¬ ((r : Int) < (j : Int)) := by omega
                go_wp2_with fail
                go_ret
                exact ⟨rfl, HOF.out⟩
        · obtain ⟨f1, f2⟩ := HTNO.out hg
          rw [f1, f2, show ((2 : Nat) : Int) = 2 from rfl, show ((15 : Nat) : Int) = 15 from rfl]
          by_cases hg1 : p + k ≤ j
          · have G1 : (p : Int) + (k : Int) ≤ (j : Int) := by omega
            have G2 : (j : Int) < (q : Int) + (k : Int) := by omega
            clear hg f1 f2
            go_wp2_with fail
            go_ret
            exact ⟨rfl, HO7.out.alloc _⟩
          · have G2 : (j : Int) < (p : Int) + (k : Int) := by omega
            clear hg hg1 f1 f2
            go_wp2_with fail
            go_ret
            exact ⟨rfl, HO7.out.alloc _⟩
end Go.Proofs.Ytbgmdckfkfkglaa
