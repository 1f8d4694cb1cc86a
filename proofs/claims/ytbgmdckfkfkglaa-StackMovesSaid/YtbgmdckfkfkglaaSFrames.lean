/- The walk of the law StackFrames. -/
import Derived.Test.YtbgmdckfkfkglaaSEcho
import Derived.Test.YtbgmdckfkfkglaaSLawB
set_option linter.unusedSimpArgs false
set_option linter.unusedVariables false
namespace Go.Proofs.Ytbgmdckfkfkglaa
open Go.RowKit M

theorem info_cod9 : (Try.prog.info? 49).map (fun i => (i.zero, i.size, i.bytes)) = some (some (.agg #[.int .i64 0, .int .i32 0]), 2, 16) := by kernel_rfl
section
variable {P : Program} {w : World}
/-- 'append(s, x, y ..)' of instructions, which the translator lays into a new block of their own first. -/
theorem wpList_append_cods {ops : Array Oper} {rest : List Oper} {o : Oper} {a : Act} {Q : Exit → Act → World → Prop} (hgd : o.guard = none) (s x : Operand) (t : TypeId)
    (ho : o.op = .call { callee := .builtin .append, args := #[s, x], argTypes := #[t, t] })
    (base : Nat) (e : TypeId) (i : TypeInfo) (z : Value) (bytes : Nat) (ht : P.underlying t = some (.slice e)) (hi : P.info? e = some i) (hz : i.zero = some z)
    (hsize : i.size = 2) (hby : i.bytes = bytes) (hzs : z.cells.size = 2)
    (v : Value) (n : Nat) (xs : List Value) (hs : a.eval s = v) (hown : w.ownsRow base e 2 v n xs) (L : List Cod) (m : Nat) (hm : L.length = m) (hm0 : 0 < m) (cs : Array Value) (hcs : cs.toList = codCells L)
    (hx : a.eval x = .slice (some ⟨w.heap.size, 0, none⟩) m m) (h63 : n + m ≤ maxLen) (hbytes : (n + m) * bytes ≤ 140737488355328) (hbase : base ≤ w.heap.size)
    (h : ∀ g cap w', w'.ownsRow base e 2 (.slice (some ⟨g, 0, none⟩) (n + m) cap) (n + m) (xs ++ codCells L) → n + m ≤ cap → cap ≤ maxLen →
      Only (Own v.ownBlock) w w' → wpList P ops Q rest (a.put o.dst (.slice (some ⟨g, 0, none⟩) (n + m) cap)) w') :
    wpList P ops Q (o :: rest) a (w.alloc (.cells cs e)) := by
  refine wpList_append_row hgd s x t ho base e i z 2 bytes ht hi hz hsize hby hzs (by decide) v n xs hs (hown.alloc _) ⟨w.heap.size, 0, none⟩ m m (codCells L) hx (by rw [codCells_len, hm]) ?_ (codCells_one L) hm0 h63 hbytes (by simp; omega) ?_
  · intro j u hj
    have hB := (Blk.new w cs e).cell j
    rw [addr_add, Nat.zero_add, hB, ← Array.getElem?_toList, hcs]
    exact hj
  · intro g cap w' h2 h3 h4 h5 h6
    exact h g cap w' h2 h3 h4 (((Only.refl (Own v.ownBlock) w).alloc _).trans h6 (fun _ _ h => h))
end
theorem cF9_i32 {S : List Nat} {v : Int} (hv : I32 v) (hS : S.length ≤ 20) : ∀ c ∈ cF9 S v, I32 c.k := by
  intro c hc
  unfold cF9 at hc
  rcases List.mem_append.1 hc with hc | hc
  · obtain ⟨j, hj, hc⟩ := blkL_mem hc
    have hz : zF S j ≤ 5 := by unfold zF; omega
    simp [fF9] at hc
    rcases hc with rfl | rfl | rfl | rfl | rfl | rfl
    · show I32 ((j : Int) * 6 + 2); unfold I32; omega
    · show I32 0; unfold I32; decide
    · show I32 ((zF S j : Nat) : Int); unfold I32; omega
    · show I32 0; unfold I32; decide
    · exact hv
    · show I32 0; unfold I32; decide
  · simp at hc
    subst hc
    show I32 0; unfold I32; decide

set_option maxRecDepth 10000 in
set_option maxHeartbeats 3200000 in
theorem frames9Law_any (ao : Option Addr) (len cap : Nat) (zs : List Int) (v : Int) (hv : I32 v) (w : World) (hr : IsRow .u8 w ao len cap zs) :
    Calls Try.prog 8 #[.slice ao len cap, .int .i32 v] w fun e w' => e = .returned (.bool true) ∧ Only Nil w w' := by
  obtain ⟨b, S, hl, hs, _, hB⟩ := hr.bytes
  clear hr
  have cK := known9_any w
  by_cases h20 : 20 < len
  · have h20' : (20 : Int) < (len : Int) := by omega
    clear hs hB hl
    go_enter Try.func8, Try.ntmps8
    go_wp2_with fail
    refine cK.mono ?_
    rintro e w1 ⟨rfl, ho1⟩
    clear cK
    go_wp2_with fail
    go_ret
    exact ⟨rfl, ho1⟩
  · have h20' : (len : Int) ≤ 20 := by omega
    have hn20 : len ≤ 20 := by omega
    obtain ⟨ao2, cap2, off, he, p2, _, p4⟩ := hs
    simp only [Value.slice.injEq, List.length_map] at he
    obtain ⟨rfl, rfl, rfl⟩ := he
    obtain ⟨n, hn⟩ : ∃ n, S.length = n := ⟨_, rfl⟩
    rw [List.length_map, hn] at p2
    rw [hn] at h20' hn20 ⊢
    obtain ⟨i2, h2, h20, h21, h22⟩ := info_parts info_cod9
    have HN := Lib.hid hn
    have HB := Lib.hid hB
    have H2 := Lib.hid p2
    have H4 := Lib.hid p4
    have HV := Lib.hid hv
    clear hn hB p2 p4 hv hl
    go_enter Try.func8, Try.ntmps8
    go_wp2_with fail
    refine cK.mono ?_
    rintro e w1 ⟨rfl, ho1⟩
    clear cK
    have HO1 := Lib.hid ho1
    clear ho1
    go_wp2_with fail
    go_loopg [5, 6] n (fun m t i wr => m ≤ n ∧ i = .int .i64 ((n - m : Nat) : Int) ∧ wr.ownsRow w.heap.size 49 2 t ((n - m) * 6) (codCells (blkL (fF9 S v) (n - m))) ∧ Only Nil w wr)
    case atStart => exact ⟨Nat.le_refl _, by simp, by simpa [blkL, codCells] using World.ownsRow_nil _ _ _ _, HO1.out⟩
    case round =>
      obtain ⟨hm, rfl, hown, ho⟩ := hrel
      obtain ⟨m, rfl⟩ : ∃ m, m = gk := ⟨gk, rfl⟩
      obtain ⟨k, hk⟩ : ∃ k, n - m = k := ⟨_, rfl⟩
      rw [hk] at hown ⊢
      have hkn : k ≤ n := by omega
      have HK := Lib.hid hk
      clear hk
      obtain ⟨N, hN⟩ : ∃ N, k * 6 = N := ⟨_, rfl⟩
      have hN2 : N ≤ 120 := by omega
      rw [hN] at hown
      obtain ⟨a3, c3, rfl⟩ := sl_of_own hown
      by_cases hkl : k < n
      · have hkl2 : k < S.length := by rw [HN.out]; exact hkl
        obtain ⟨x, hx⟩ : ∃ x, S.getD k 0 = x := ⟨_, rfl⟩
        have hx2 : S[k]? = some x := by rw [← hx]; simp [List.getD, hkl2]
        have hx8 : x < 256 := HB.out x (List.mem_of_getElem? hx2)
        have ea := H2.out (by omega)
        subst ea
        have hcell := ho.cell (H4.out k (.int .u8 x) (by simp [hx2])) (fun h => h)
        obtain ⟨z, hz⟩ : ∃ z, x % 5 = z := ⟨_, rfl⟩
        have hz5 : z < 5 := by omega
        have hzi : (x : Int) % 5 = (z : Int) := by omega
        have k0 : (0 : Int) ≤ (k : Int) := Int.natCast_nonneg _
        have k1 : (k : Int) < (n : Int) := by omega
        have hf : fF9 S v k = [⟨27, (N : Int) + 2⟩, ⟨0, 0⟩, ⟨28, (z : Int) + 1⟩, ⟨5, 0⟩, ⟨1, v⟩, ⟨7, 0⟩] := by
          unfold fF9 zF
          rw [hx, hz, hN]
          rfl
        have w32a : IntKind.i32.wrap ((N : Int) + 2) = (N : Int) + 2 := by rw [IntKind.wrap_i32]; omega
        have w32b : IntKind.i32.wrap (z : Int) = (z : Int) := by rw [IntKind.wrap_i32]; omega
        have w32c : IntKind.i32.wrap ((z : Int) + 1) = (z : Int) + 1 := by rw [IntKind.wrap_i32]; omega
        have HF := Lib.hid hf
        have HNN := Lib.hid hN
        have HO := Lib.hid ho
        have hszr := ho.size
        clear hf hx2 hx hN hx8 ho hz
        go_wp2_with (at_builtin; go_loud (refine wpList_append_cods rfl _ _ 22 rfl w.heap.size 49 i2 _ 16 Try.underlying22 h2 h20 h21 h22 rfl _ _ _ rfl hown [⟨27, (N : Int) + 2⟩, ⟨0, 0⟩, ⟨28, (z : Int) + 1⟩, ⟨5, 0⟩, ⟨1, v⟩, ⟨7, 0⟩] 6 rfl (by decide) _ ?c0 rfl ?c1 ?c2 hszr ?_))
        case c0 => rfl
        case c1 => simp [maxLen]; omega
        case c2 => omega
        intro g cap4 w4 hown4 hc4 hc5 ho4
        have ho5 : Only Nil w w4 := HO.out.nil_own hown ho4
        have hg : fF9 S v k = _ := HF.out
        have hown5 : w4.ownsRow w.heap.size 49 2 (.slice (some ⟨g, 0, none⟩) (N + 6) cap4) (N + 6) (codCells (blkL (fF9 S v) (k + 1))) := by
          rw [blkL_succ, codCells_append, hg]; exact hown4
        have HOWN := Lib.hid hown5
        clear hown hown4 hcell ho4 hown5 hg HF hszr
        go_wp2_with fail
        go_roundg (m - 1)
        case measure => have := HK.out; omega
        case rel =>
          refine ⟨by omega, by have := HK.out; go_num, ?_, ho5⟩
          rw [show n - (m - 1) = k + 1 by have := HK.out; omega, show (k + 1) * 6 = N + 6 by have := HNN.out; omega]
          exact HOWN.out
      · have hkl2 : k = n := by omega
        subst hkl2
        have HO := Lib.hid ho
        have hszr := ho.size
        clear ho
        go_wp2_with (at_builtin; go_loud (refine wpList_append_cods rfl _ _ 22 rfl w.heap.size 49 i2 _ 16 Try.underlying22 h2 h20 h21 h22 rfl _ _ _ rfl hown [⟨29, 0⟩] 1 rfl (by decide) _ ?c0 rfl ?c1 ?c2 hszr ?_))
        case c0 => rfl
        case c1 => simp [maxLen]; omega
        case c2 => omega
        intro g cap4 w4 hown4 hc4 hc5 ho4
        have ho5 : Only Nil w w4 := HO.out.nil_own hown ho4
        rw [← codCells_append] at hown4
        have hcode : blkL (fF9 S v) k ++ [⟨29, 0⟩] = cF9 S v := by unfold cF9; rw [HN.out]
        rw [hcode] at hown4
        have hlc : (cF9 S v).length = N + 1 := by rw [cF9_len, HN.out, hN]
        have hs1 := CSrc.of_own hown4
        have cN := newS_any (Q := Nil) (cF9 S v) [] 200 5 200 5 200 5 (by decide) (by decide) (by decide) (by decide) _ 0 _ _ _ hs1 (fun n cap h => by cases h) (srcB_none _ 0) (by rw [hlc]; omega) (by decide) (by decide) (fun _ h => h.elim)
        have HLC := Lib.hid hlc
        have HNN := Lib.hid hN
        clear hown hown4 ho4 hs1 hlc hN hszr HO hcode
        have hS20 : S.length ≤ 20 := by rw [HN.out]; exact hn20
        have hi32 := cF9_i32 HV.out hS20
        have hfr := frames_run S v hS20 k (by rw [HN.out]; exact Nat.le_refl _)
        have hok := (sRun_ok (ss0_ok 200 5 [] (by decide) (by decide) (by intro x hx; cases hx)) hi32 (by rw [HLC.out]; omega) (k * 5))
        obtain ⟨t, ht⟩ : ∃ t, sRun (cF9 S v) (k * 5) (ss0 200 5 []) = t := ⟨_, rfl⟩
        rw [ht] at hfr hok
        have HFR := Lib.hid hfr
        have HOK := Lib.hid hok
        have HI := Lib.hid hi32
        have HT := Lib.hid ht
        have HO5 := Lib.hid ho5
        have hS0 : (ss0 200 5 []).Ok := ss0_ok 200 5 [] (by decide) (by decide) (by intro x hx; cases hx)
        have HS0 := Lib.hid hS0
        clear hfr hok hi32 ht ho5 hS20 hS0
        go_wp2_with fail
        refine cN.mono ?_
        rintro e w6 ⟨mb, wb, cv', iv', rfl, hmb, hwb, ho6, hM6⟩
        clear cN
        have ho6' : Only Nil w w6 := HO5.out.trans ho6 (fun _ _ h => h)
        have hF6 : Fr3 w.heap.size mb wb (.slice none 0 0) (.slice none 0 0) (.slice none 0 0) := Fr3.new (by have := HO5.out.size; omega) (by have := HO5.out.size; omega)
        have hF : (5 * (k : Int)).toNat = k * 5 := by omega
        have cR := runS_any mb wb (cF9 S v) HI.out (by rw [HLC.out]; omega) (ss0 200 5 []) cv' _ _ iv' _ w6 hM6 HS0.out (5 * (k : Int)) (by omega) (by omega) (by rw [hF]; show 0 + _ ≤ _; omega) (t := t) (by rw [hF]; exact HT.out)
        have HF6 := Lib.hid hF6
        have HO6 := Lib.hid ho6'
        clear hM6 hmb hwb ho6 hF6 ho6' hF
        go_wp2_with fail
        refine cR.mono ?_
        rintro e w7 ⟨sv7, kv7, iv7, ov7, rv, rfl, hg7, hown7, hM7⟩
        clear cR
        have hF7 := HF6.out.gone HO6.out.size hg7
        have ho7 := HF6.out.only HO6.out hg7
        have HM := Lib.hid hM7
        have HF7 := Lib.hid hF7
        have HO7 := Lib.hid ho7
        clear hM7 hg7 hown7 hF7 ho7 HF6 HO6
        go_wp2_with fail
        go_loopg [8, 9] k (fun m t8 i wr => m ≤ k ∧ i = .int .i64 ((k - m : Nat) : Int) ∧ t8 = .int .i64 ((tF S (k - m) : Nat) : Int) ∧ Only Nil w7 wr)
        case atStart => exact ⟨Nat.le_refl _, by simp, by simp [tF], Only.refl _ _⟩
        case round =>
          obtain ⟨hm2, rfl, rfl, ho8⟩ := hrel
          obtain ⟨m2, rfl⟩ : ∃ m, m = gk := ⟨gk, rfl⟩
          obtain ⟨q, hq⟩ : ∃ q, k - m2 = q := ⟨_, rfl⟩
          rw [hq]
          have hqk : q ≤ k := by omega
          have HQ := Lib.hid hq
          have htF := tF_le S q
          obtain ⟨T, hT⟩ : ∃ T, tF S q = T := ⟨_, rfl⟩
          have hT105 : T ≤ 105 := by omega
          rw [hT]
          have HTT := Lib.hid hT
          clear hq htF
          have hM8 := HM.out.quiet ho8
          by_cases hql : q < k
          · have hwd : t.mem.getD T 0 = v := by rw [← hT]; exact HFR.out.word q hql
            have cW := wordS_in mb wb T (cF9 S v) t _ _ _ _ _ _ hM8 HOK.out.1.len (by rw [HFR.out.mem]; omega)
            rw [hwd] at cW
            have hql2 : q < S.length := by rw [HN.out]; exact hql
            obtain ⟨x, hx⟩ : ∃ x, S.getD q 0 = x := ⟨_, rfl⟩
            have hx2 : S[q]? = some x := by rw [← hx]; simp [List.getD, hql2]
            have hx8 : x < 256 := HB.out x (List.mem_of_getElem? hx2)
            have ea := H2.out (by omega)
            subst ea
            have hcell := (HO7.out.trans ho8 (fun _ _ h => h)).cell (H4.out q (.int .u8 x) (by simp [hx2])) (fun h => h)
            obtain ⟨z, hz⟩ : ∃ z, x % 5 = z := ⟨_, rfl⟩
            have hz5 : z < 5 := by omega
            have hzi : (x : Int) % 5 = (z : Int) := by omega
            have k0 : (0 : Int) ≤ (q : Int) := Int.natCast_nonneg _
            have k1 : (q : Int) < (k : Int) := by omega
            have hvv : (v != v) = false := by simp
            have hTs : tF S (q + 1) = T + (z + 1) := by show tF S q + zF S q = _; rw [hT]; unfold zF; rw [hx, hz]
            have HTS := Lib.hid hTs
            have HO8 := Lib.hid ho8
            clear hM8 hT hwd hx hx2 hx8 hz hTs ho8 hql2
            go_wp2_with fail
            refine cW.mono ?_
            rintro e w9 ⟨rfl, rfl⟩
            clear cW
            go_wp2_with fail
            go_roundg (m2 - 1)
            case measure => have := HQ.out; omega
            case rel =>
              refine ⟨by omega, by have := HQ.out; go_num, ?_, HO8.out⟩
              rw [show k - (m2 - 1) = q + 1 by have := HQ.out; omega, HTS.out]
              go_num
          · have hqk2 : q = k := by omega
            subst hqk2
            have cF := frameS_any mb wb (cF9 S v) t _ _ _ _ _ _ hM8
            rw [HFR.out.top, hT] at cF
            clear hql
            have HO8 := Lib.hid ho8
            clear hM8 ho8
            by_cases h0 : q = 0
            · subst h0
              clear hT
              go_wp2_with fail
              refine cF.mono ?_
              rintro e w9 ⟨rfl, ho9⟩
              clear cF
              go_wp2_with fail
              go_ret
              exact ⟨rfl, (HO7.out.trans HO8.out (fun _ _ h => h)).trans ho9 (fun _ _ h => h)⟩
            · have hq0 : (((q : Nat) : Int) == 0) = false := by simp; omega
              obtain ⟨r, hr⟩ : ∃ r, q = r + 1 := ⟨q - 1, by omega⟩
              have hqi : (q : Int) - 1 = (r : Int) := by omega
              have hr2 : r < S.length := by rw [HN.out]; omega
              obtain ⟨x, hx⟩ : ∃ x, S.getD r 0 = x := ⟨_, rfl⟩
              have hx2 : S[r]? = some x := by rw [← hx]; simp [List.getD, hr2]
              have hx8 : x < 256 := HB.out x (List.mem_of_getElem? hx2)
              have ea := H2.out (by omega)
              subst ea
              obtain ⟨z, hz⟩ : ∃ z, x % 5 = z := ⟨_, rfl⟩
              have hz5 : z < 5 := by omega
              have hzi : (x : Int) % 5 = (z : Int) := by omega
              have hlv := frames_leave S v t (by rw [HN.out]; exact HFR.out) (by rw [HN.out]; omega)
              have hTr : T = tF S r + (z + 1) := by rw [← hT, hr]; show tF S r + zF S r = _; unfold zF; rw [hx, hz]
              rw [HN.out, show q - 1 = r by omega] at hlv
              obtain ⟨T2, hT2⟩ : ∃ T2, tF S r = T2 := ⟨_, rfl⟩
              rw [hT2] at hlv hTr
              have hcell := H4.out r (.int .u8 x) (by simp [hx2])
              have r0 : (0 : Int) ≤ (r : Int) := Int.natCast_nonneg _
              have r1 : (r : Int) < (q : Int) := by omega
              have HLV := Lib.hid hlv
              have HC := Lib.hid hcell
              have HTR := Lib.hid hTr
              clear hT hx hx2 hx8 hz hlv hT2 hcell hTr hr h0 hr2
              go_wp2_with fail
              refine cF.mono ?_
              rintro e w9 ⟨rfl, ho9⟩
              clear cF
              have ho79 := HO8.out.trans ho9 (fun _ _ h => h)
              have cS := stepS_any mb wb (cF9 S v) HI.out t _ _ _ _ _ _ (HM.out.quiet ho79) HOK.out.1 (by have := HOK.out.2.2; have e : (ss0 200 5 []).out.length = 0 := rfl; omega)
              rw [show (t.fin == 0) = true by rw [HFR.out.fin]; rfl] at cS
              have HO79 := Lib.hid ho79
              clear ho9 ho79
              go_wp2_with fail
              refine cS.mono ?_
              rintro e w10 ⟨sv10, kv10, iv10, ov10, rfl, hg10, hM10⟩
              clear cS
              have ho10 := HF7.out.only (HO7.out.trans HO79.out (fun _ _ h => h)) hg10
              have cF2 := frameS_any mb wb (cF9 S v) _ _ _ _ _ _ _ hM10
              rw [HLV.out] at cF2
              have HO10 := Lib.hid ho10
              clear hg10 hM10 ho10
              go_wp2_with fail
              refine cF2.mono ?_
              rintro e w11 ⟨rfl, ho11⟩
              clear cF2
              have hoE := HO10.out.trans ho11 (fun _ _ h => h)
              have hcell := hoE.cell HC.out (fun h => h)
              have hTr := HTR.out
              have hTT : (T : Int) - (z : Int) - 1 = (T2 : Int) := by omega
              have HOE := Lib.hid hoE
              clear ho11 hoE hTr
              go_wp2_with fail
              go_ret
              exact ⟨by simp, HOE.out⟩
end Go.Proofs.Ytbgmdckfkfkglaa
