/- Decode, the program's. -/
import Derived.Test.YtipdfgkemghmoaaDoorCFirst
import Derived.Deep.RegionLaw
import Derived.Deep.AppendLies
set_option linter.unusedSimpArgs false
set_option linter.unusedVariables false
namespace Go.Proofs.YtipdfgkemghmoaaDoor
open Go.RowKit M

/-- A list of one's own, if there is one. -/
def DecIs (w : World) (r : Option (List Cod)) (sv : Value) (w' : World) : Prop :=
  match r with
  | none => sv = .slice none 0 0
  | some l => w'.ownsRow w.heap.size 26 2 sv l.length (codCells l)
def decErr (r : Option (List Cod)) : Int := if r.isSome then 0 else 20

set_option maxRecDepth 20000 in
set_option maxHeartbeats 3200000 in
theorem decI_any (s : Value) (B : List Nat) (w : World) (hs : Row w s B) (hl : B.length ≤ 10000) :
    Calls Tryd.prog 11 #[s] w fun e w' => ∃ sv, e = .returned (.tuple #[sv, .int .i64 (decErr (decL B))]) ∧ DecIs w (decL B) sv w' ∧ Only Nil w w' := by
  obtain ⟨R, hR⟩ : ∃ R, decL B = R := ⟨_, rfl⟩
  rw [hR]
  obtain ⟨i0, hi, hz0, hz1, hz2⟩ := info_parts Tryd.info26
  obtain ⟨u, m, ok, hr⟩ : ∃ u m ok, readV 0 0 B = (u, m, ok) := ⟨_, _, _, rfl⟩
  have cR := read_val s B w hs u m ok hr
  have hu := readV_lt B
  rw [hr] at hu
  simp only at hu
  have hrow := hs
  obtain ⟨b, ao, cap, off, rfl, h2, h3, h4, h5, h6, h7⟩ := hs
  clear h4 h5 h6 h7
  cases ok
  · have e : R = none := by rw [← hR]; unfold decL; rw [hr]; rfl
    subst e
    clear hR hr hrow
    go_enter Tryd.func11, Tryd.ntmps11
    go_wp2_with fail
    refine cR.mono ?_
    rintro e w1 ⟨rfl, rfl⟩
    go_wp2_with fail
    go_ret2
    exact ⟨_, rfl, rfl, Only.refl _ _⟩
  · have hm := readV_le B (by rw [hr])
    rw [hr] at hm
    simp only at hm
    have e : listV u (B.drop m) = R := by rw [← hR]; unfold decL; rw [hr]; rfl
    have hao : ∃ b off, ao = some ⟨b, off, none⟩ := by
      obtain ⟨b, ao', cap', off, e', h2', h3', h4', h5', h6', h7'⟩ := hrow
      simp only [Value.slice.injEq] at e'
      obtain ⟨rfl, _, rfl⟩ := e'
      exact ⟨b, off, h4' (by omega)⟩
    obtain ⟨b2, off2, rfl⟩ := hao
    have hrest := hrow.rest m hm.1
    obtain ⟨ap, hap⟩ : ∃ ap, (if cap = m then some (⟨b2, off2, none⟩ : Addr) else some ⟨b2, off2 + m, none⟩) = ap := ⟨_, rfl⟩
    rw [hap] at hrest
    have hdl : (B.drop m).length ≤ 10000 := by rw [List.length_drop]; omega
    obtain ⟨n, hn⟩ : ∃ n, B.length = n := ⟨_, rfl⟩
    rw [hn] at h2 hl hrest hm cR ⊢
    unfold maxLen at h3
    have hm0 : (0 : Int) ≤ (m : Int) := Int.natCast_nonneg _
    have HR := Lib.hid hrest
    have HE := Lib.hid e
    have HDL := Lib.hid hdl
    clear hR hr hrow e hrest hdl hn
    go_enter Tryd.func11, Tryd.ntmps11
    go_wp2_with fail
    refine cR.mono ?_
    rintro e w1 ⟨rfl, rfl⟩
    clear cR
    go_wp2_with fail
    go_loopg [4, 7, 8] u (fun g x r l wr => g < 18446744073709551616 ∧ x = .int .u64 (g : Int) ∧ ∃ (rest : List Nat) (pre : List Cod), Row w r rest ∧ wr.ownsRow w.heap.size 26 2 l pre.length (codCells pre) ∧ (listV g rest).map (pre ++ ·) = R ∧ pre.length + rest.length ≤ 10000 ∧ Only Nil w wr)
    case atStart => exact ⟨hu, rfl, B.drop m, [], HR.out, World.ownsRow_nil _ _ _ _, (by rw [HE.out]; cases R <;> simp), (by simpa using HDL.out), Only.refl _ _⟩
    case round =>
      clear HR HE HDL
      obtain ⟨hg, rfl, rest, pre, hrow, hown, hRR, hlen, ho⟩ := hrel
      obtain ⟨g, rfl⟩ : ∃ g, g = gk := ⟨gk, rfl⟩
      by_cases hg0 : g = 0
      · have hd : g ≤ 0 := by omega
        have hRR0 : (listV 0 rest).map (pre ++ ·) = R := by rw [← hRR, hg0]
        clear hRR hg0
        have hRR := hRR0
        clear hRR0
        have hrow2 := hrow
        obtain ⟨b5, ao5, cap5, off5, rfl, k2, k3, k4, k5, k6, k7⟩ := hrow2
        obtain ⟨n5, hn5⟩ : ∃ n, rest.length = n := ⟨_, rfl⟩
        rw [hn5] at k2 hlen ⊢
        by_cases h0 : n5 = 0
        · subst h0
          have hr0 : rest = [] := List.eq_nil_of_length_eq_zero hn5
          subst hr0
          have e : R = some pre := by rw [← hRR]; simp [listV]
          have HE := Lib.hid e
          clear e hRR k4 k5 k6 k7 hrow hn5
          go_wp2_with fail
          go_ret2
          rw [HE.out]
          exact ⟨_, rfl, hown, ho⟩
        · have e : R = none := by
            rw [← hRR]
            have : rest ≠ [] := fun h => h0 (by rw [← hn5, h]; rfl)
            simp [listV, this]
          have HE := Lib.hid e
          have hp : (0 : Int) < (n5 : Int) := by omega
          clear e hRR k4 k5 k6 k7 hrow hn5
          go_wp2_with fail
          go_ret2
          rw [HE.out]
          exact ⟨_, rfl, rfl, ho⟩
      · have hd : decide ((0 : Int) < (g : Int)) = true := by simp; omega
        obtain ⟨g1, hg1⟩ : ∃ g1, g - 1 = g1 := ⟨_, rfl⟩
        have hRR0 : (listV (g1 + 1) rest).map (pre ++ ·) = R := by rw [← hRR, show g = g1 + 1 by omega]
        have hsub : IntKind.u64.wrap ((g : Int) - 1) = (g1 : Int) := by rw [IntKind.wrap_u64]; omega
        have hgg : g1 < g := by omega
        clear hRR hg0 hg1
        have hRR := hRR0
        clear hRR0
        have cF := first_any u7 rest wr (hrow.kept ho) (by omega)
        cases hf : firstV rest with
        | none =>
          have e : R = none := by rw [← hRR]; simp [listV, hf]
          have HE := Lib.hid e
          rw [hf] at cF
          unfold firstRes at cF
          simp only at cF
          clear e hRR hf hrow
          go_wp2_with fail
          refine cF.mono ?_
          rintro e w2 ⟨rfl, ho2⟩
          go_wp2_with fail
          go_ret2
          rw [HE.out]
          exact ⟨_, rfl, rfl, ho.trans (ho2.alloc _) (fun _ _ h => h)⟩
        | some cm =>
          obtain ⟨c, k⟩ := cm
          have hfs := firstV_some hf
          have e : (listV g1 (rest.drop k)).map ((pre ++ [c]) ++ ·) = R := by
            rw [← hRR]
            simp only [listV, hf, Option.map_map]
            congr 1
            funext x
            simp
          rw [hf] at cF
          unfold firstRes at cF
          simp only at cF
          have hao : ∃ b off n cap, u7 = .slice (some ⟨b, off, none⟩) n cap ∧ rest.length = n := by
            obtain ⟨b, ao', cap', off, e', h2', h3', h4', h5', h6', h7'⟩ := hrow
            have := h4' (by omega)
            subst this
            exact ⟨b, off, _, cap', e', rfl⟩
          obtain ⟨b5, off5, n5, cap5, rfl, hn5⟩ := hao
          have hrest := hrow.rest k (by omega)
          have hcaps := hrow.caps
          unfold maxLen at hcaps
          obtain ⟨ap5, hap5⟩ : ∃ ap, (if cap5 = k then some (⟨b5, off5, none⟩ : Addr) else some ⟨b5, off5 + k, none⟩) = ap := ⟨_, rfl⟩
          rw [hap5] at hrest
          have hlr : pre.length + 1 + (rest.drop k).length ≤ 10000 := by rw [List.length_drop]; omega
          have hkn : k ≤ n5 := by omega
          have hk0 : (0 : Int) ≤ (k : Int) := Int.natCast_nonneg _
          rw [hn5] at hlen
          obtain ⟨op, kk⟩ := c
          simp only at cF
          have HE := Lib.hid e
          have HR := Lib.hid hrest
          have HO := Lib.hid ho
          have HOWN := Lib.hid hown
          have HL := Lib.hid hlr
          clear e hRR hf hrow hrest hlr hn5 hfs ho hown
          go_wp2_with fail
          refine cF.mono ?_
          rintro e w2 ⟨rfl, ho2⟩
          clear cF
          have HO2 := Lib.hid ho2
          clear ho2
          go_wp2_with fail
          have hB := Blk.new w2 #[Value.int .i64 op, .int .i32 kk] 26
          have hoA : Only Nil wr (w2.alloc (.cells #[Value.int .i64 op, .int .i32 kk] 26)) := HO2.out.alloc _
          obtain ⟨bk, hbk⟩ : ∃ b, w2.heap.size = b := ⟨_, rfl⟩
          obtain ⟨w3, hw3⟩ : ∃ w3, w2.alloc (.cells #[Value.int .i64 op, .int .i32 kk] 26) = w3 := ⟨_, rfl⟩
          rw [hw3] at hB hoA ⊢
          rw [hbk] at hB ⊢
          have hown3 : w3.drew.ownsRow w.heap.size 26 2 u8 pre.length (codCells pre) := ownsRow_only HOWN.out hoA.drew (fun _ _ h => h)
          have ho3 : Only Nil w w3.drew := HO.out.trans hoA.drew (fun _ _ h => h)
          have hsz := ho3.size
          have b0 := hB.cell 0
          have b1 := hB.cell 1
          simp only [List.getElem?_toArray, List.getElem?_cons_zero, List.getElem?_cons_succ] at b0 b1
          have hBlt := hB.lt
          have hbase : Hid (w.heap.size ≤ (w3.drew.alloc (.cells #[Value.int .i64 op, .int .i32 kk] 26)).heap.size) := Lib.hid ((ho3.alloc _).size)
          have hnews : Hid (∀ j u, [Value.int .i64 op, .int .i32 kk][j]? = some u → (w3.drew.alloc (.cells #[Value.int .i64 op, .int .i32 kk] 26)).cell? ((⟨w3.heap.size, 0, none⟩ : Addr).add j) = some u) := by
            refine Lib.hid fun j u hj => ?_
            match j, hj with
            | 0, hj => simp at hj; subst hj; exact (Blk.new w3.drew #[Value.int .i64 op, .int .i32 kk] 26).cell 0
            | 1, hj => simp at hj; subst hj; exact (Blk.new w3.drew #[Value.int .i64 op, .int .i32 kk] 26).cell 1
          have h1c : Hid (∀ u ∈ [Value.int .i64 op, .int .i32 kk], u.oneCell' = true) := Lib.hid (fun u hu => by
            simp only [List.mem_cons, List.not_mem_nil, or_false] at hu
            rcases hu with rfl | rfl <;> rfl)
          have s1 : Hid (pre.length + 1 ≤ maxLen) := Lib.hid (by simp [maxLen]; omega)
          have s2 : Hid ((pre.length + 1) * 16 ≤ 140737488355328) := Lib.hid (by omega)
          have HO3 := Lib.hid ho3
          have HOWN3 := Lib.hid hown3
          clear hw3 hbk hoA hB HO HO2 HOWN ho3
          go_region_law (first
            | (refine step_append_lies _ rfl (.tmp 35) (.tmp 37) 22 rfl w.heap.size 26 i0 (.agg #[.int .i64 0, .int .i32 0]) 2 16 Tryd.underlying22 hi hz0 hz1 hz2 rfl (by decide) u8 pre.length (codCells pre) (by simp [Act.eval, Act.put]) (hown3.alloc _) ⟨w3.heap.size, 0, none⟩ 1 1 [.int .i64 op, .int .i32 kk] (by simp [Act.eval, Act.put]) rfl hnews.out h1c.out (by decide) s1.out s2.out hbase.out _ rfl ?_; intro g9 cap9 w9 hown9 hg9 hgb hlt9))
          all_goals
            have ho9 : Only Nil w w9 := (HO3.out.alloc _).nil_own (HOWN3.out.alloc _) (Only.of_grown hg9)
            clear hg9 hgb hlt9 b0 b1 hBlt hbase hnews hown3
            go_wp2_with fail
            go_roundg g1
            case measure => omega
            case rel =>
              refine ⟨by omega, by go_num, rest.drop k, pre ++ [⟨op, kk⟩], HR.out, ?_, HE.out, ?_, ho9⟩
              · rw [List.length_append, List.length_singleton, codCells_append]
                exact hown9
              · rw [List.length_append, List.length_singleton]; exact HL.out
end Go.Proofs.YtipdfgkemghmoaaDoor
