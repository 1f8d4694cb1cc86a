/- A type, a slice of records of numbers as an argument. -/
import Derived.Test.YtcbeibhmjokecaaDoorYFitW
import Derived.Test.YtcbeibhmjokecaaDoorQOpen
import Derived.Test.YtcbeibhmjokecaaDoorYTabs
set_option linter.unusedSimpArgs false
set_option linter.unusedVariables false
namespace Go.Proofs.YtcbeibhmjokecaaDoor
open Go.ChangeShapes Go.WideShapes Go.RowKit M

section
variable {H : Type} {enc : TypeId × Value → H} {w : World}
set_option maxRecDepth 100000 in
theorem open_ty {v : Value} {d : DataW H} {p : List MemPlace} {base : Nat} (hv : Value.okWide Tryd.prog w .any base 25 v) (h : DataW.Trod enc Tryd.prog w 0 (fun _ => true) true 25 v d p) (hw : InReach 25 d) :
    ∃ (t : Ty) (ov : Value), v = .agg #[.int .i64 t.form, .int .i64 t.n, .string t.name, ov] ∧ t.name.size ≤ maxLen ∧ TyS Any w ov t.of := by
  obtain ⟨cs, rfl, hsz⟩ := okWide_struct Tryd.underlying25 hv
  obtain ⟨fuel, hf⟩ := h
  obtain ⟨t, ov, hc, hs, ht⟩ := ty_of hf hw (fun k _ c' y' h' => tyS_of k c' y' h')
  refine ⟨t, ov, ?_, hs, ht⟩
  have hc2 : cs.toList = tyCells t ov := by simpa [Value.cells] using hc
  rw [show cs = (tyCells t ov).toArray by rw [← hc2]]
  rfl
theorem cU8 : Tryd.prog.cellsOf 5 = 1 := by kernel_rfl
theorem cBs : Tryd.prog.cellsOf 28 = 1 := by kernel_rfl
theorem bU8 : Tryd.prog.bytesOf 5 = 1 := by kernel_rfl
theorem cRin : Tryd.prog.cellsOf 30 = 6 := by kernel_rfl
theorem bRin : Tryd.prog.bytesOf 30 = 88 := by kernel_rfl
set_option maxRecDepth 100000 in
theorem bytes_as {fuel : Nat} {c : Value} {y : DataW H × List MemPlace} (h : DataW.trod enc Tryd.prog w 0 (fun _ => true) true fuel 28 [c] = some y) (hw : InReach 28 y.1) : ∃ (b : Nat) (l : List Nat), M.Src w b c (U8v l) ∧ (∀ x ∈ l, x < 256) ∧ l.length ≤ 140737488355328 := by
  have hsl : ∃ ao n cap, c = .slice ao n cap ∧ n ≤ 140737488355328 := by
    rcases DataW.trod_slice Tryd.underlying28 h with ⟨h0, _⟩ | ⟨a, len, cap, elems, rest, n, hfu, hc, hy, _, hl, hm, hlen, hel, _, _⟩
    · simp only [List.cons.injEq, and_true] at h0
      exact ⟨_, _, _, h0, Nat.zero_le _⟩
    · simp only [List.cons.injEq, and_true] at hc
      refine ⟨_, _, _, hc, ?_⟩
      have hbd : (elems.length + rest.length) * 1 ≤ reachBytes := hw _ (by
        rw [hy]
        simp only [DataW.weights, Tryd.underlying28, List.length_map, bU8]
        exact List.mem_cons_self)
      unfold reachBytes at hbd
      omega
  obtain ⟨ao, n, cap, rfl, hn⟩ := hsl
  obtain ⟨b, zs, hr, hz⟩ := ints_of (a := ao) (n := n) (cap := cap) Tryd.underlying28 Tryd.underlying5 cU8 ⟨fuel, by simpa [Value.cells] using h⟩
  have hnn : zs = (zs.map Int.toNat).map (fun (x : Nat) => (x : Int)) := by
    rw [List.map_map]
    conv => lhs; rw [← List.map_id zs]
    refine List.map_congr_left fun z hz2 => ?_
    have := bounds_u8 (hz z hz2)
    simp only [id_eq, Function.comp]
    omega
  have hlen := hr.len
  rw [List.length_map] at hlen
  refine ⟨b, zs.map Int.toNat, ?_, fun x hx => ?_, by rw [List.length_map]; omega⟩
  · have hs := hr.src
    have e : List.map (Value.int .u8) zs = U8v (zs.map Int.toNat) := by
      conv => lhs; rw [hnn]
      unfold U8v
      rw [List.map_map]
      rfl
    rw [e] at hs
    exact hs
  · obtain ⟨z, hz2, rfl⟩ := List.mem_map.1 hx
    have := bounds_u8 (hz z hz2)
    omega
set_option maxRecDepth 100000 in
theorem rin_of {fuel : Nat} {cs : List Value} {x : DataW H × List MemPlace} (h : DataW.trod enc Tryd.prog w 0 (fun _ => true) true fuel 30 cs = some x) (hw : InReach 30 x.1) :
    ∃ (r : Rin) (fv ov : Value) (fb : Nat), cs = rinCells r fv ov ∧ M.Src w fb fv (U8v r.fields) ∧ TyS Any w ov r.t.of ∧ r.base < 256 ∧ (∀ x ∈ r.fields, x < 256) ∧ r.t.name.size ≤ maxLen ∧ r.fields.length ≤ 140737488355328 := by
  obtain ⟨xs, n, hfu, hx, hlc, hlx, hg⟩ := DataW.trod_struct Tryd.underlying30 h
  rw [cRin] at hlc
  have hlx3 : xs.length = 3 := hlx
  match cs, hlc with
  | [c0, c1, c2, c3, c4, c5], _ =>
    match xs, hlx3 with
    | [y0, y1, y2], _ =>
      have g0 : DataW.trod enc Tryd.prog w 0 (fun _ => true) true n 5 (List.take (Tryd.prog.cellsOf 5) [c0, c1, c2, c3, c4, c5]) = some y0 := hg 0 _ rfl
      have g1 : DataW.trod enc Tryd.prog w 0 (fun _ => true) true n 28 (List.take (Tryd.prog.cellsOf 28) [c1, c2, c3, c4, c5]) = some y1 := hg 1 _ rfl
      have g2 : DataW.trod enc Tryd.prog w 0 (fun _ => true) true n 25 (List.take (Tryd.prog.cellsOf 25) [c2, c3, c4, c5]) = some y2 := hg 2 _ rfl
      simp only [cU8, cBs, cT, List.take_succ_cons, List.take_zero] at g0 g1 g2
      obtain ⟨o, e0, _, h0⟩ := DataW.trod_int Tryd.underlying5 g0
      have hb1 : InReach 28 y1.1 := fun q hq => hw q (by
        rw [hx]
        simp only [DataW.weights, Tryd.underlying30, List.map_cons, List.map_nil]
        exact DataW.weights_mem_each (j := 1) rfl rfl q hq)
      have hb2 : InReach 25 y2.1 := fun q hq => hw q (by
        rw [hx]
        simp only [DataW.weights, Tryd.underlying30, List.map_cons, List.map_nil]
        exact DataW.weights_mem_each (j := 2) rfl rfl q hq)
      obtain ⟨t, ov, e1, hn, ht⟩ := ty_of g2 hb2 (fun k _ c' y' h' => tyS_of k c' y' h')
      obtain ⟨fb, l, hl, hl2, hl3⟩ := bytes_as g1 hb1
      have hv2 := bounds_u8 h0
      simp only [List.cons.injEq, and_true] at e0
      unfold tyCells at e1
      simp only [List.cons.injEq, and_true] at e1
      obtain ⟨q1, q2, q3, q4⟩ := e1
      obtain ⟨on, rfl⟩ : ∃ z : Nat, o = (z : Int) := ⟨o.toNat, by omega⟩
      subst e0 q1 q2 q3 q4
      exact ⟨⟨on, l, t⟩, _, _, fb, rfl, hl, ht, by show on < 256; omega, hl2, hn, hl3⟩
set_option maxRecDepth 100000 in
theorem open_rins {a : Option Addr} {n cap : Nat} {d : DataW H} {p : List MemPlace} (h : ∃ fuel, DataW.trod enc Tryd.prog w 0 (fun _ => true) true fuel 22 (Value.slice a n cap).cells.toList = some (d, p)) (hw : InReach 22 d) : ∃ l, RinS w (.slice a n cap) l := by
  obtain ⟨fuel, hf⟩ := h
  rcases DataW.trod_slice Tryd.underlying22 hf with ⟨h0, _⟩ | ⟨ad, len, cp, elems, rest, n', hfu, hc, hy, _, hl, hm, hlen, hel, _, _⟩
  · simp [Value.cells] at h0
    obtain ⟨rfl, rfl, rfl⟩ := h0
    exact ⟨[], none, 0, 0, 0, rfl, fun h => by simp at h, by simp, fun i r h => by simp at h⟩
  · simp [Value.cells] at hc
    obtain ⟨rfl, rfl, rfl⟩ := hc
    rw [cRin] at hel
    have hbd : (elems.length + rest.length) * 88 ≤ reachBytes := hw _ (by
      have hd := congrArg Prod.fst hy
      simp only at hd
      rw [hd]
      simp only [DataW.weights, Tryd.underlying22, List.length_map, bRin]
      exact List.mem_cons_self)
    have hall : ∀ i, ∃ q : Rin × Value × Value × Nat, i < n → (∃ cs, w.cells? 0 (ad.add (i * 6)) 6 = some cs ∧ cs = rinCells q.1 q.2.1 q.2.2.1) ∧ M.Src w q.2.2.2 q.2.1 (U8v q.1.fields) ∧ TyS Any w q.2.2.1 q.1.t.of ∧ q.1.base < 256 ∧ (∀ x ∈ q.1.fields, x < 256) ∧ q.1.t.name.size ≤ maxLen ∧ q.1.fields.length ≤ 140737488355328 := by
      intro i
      by_cases hi : i < n
      · have h1 := hel i hi
        rw [List.getElem?_eq_getElem (by omega)] at h1
        obtain ⟨cs, hcs, htr⟩ := Option.bind_eq_some_iff.1 h1
        have hb : InReach 30 (elems[i]'(by omega)).1 := fun q hq => hw q (by
          have hd := congrArg Prod.fst hy
          simp only at hd
          rw [hd]
          simp only [DataW.weights, Tryd.underlying22]
          refine List.mem_cons_of_mem _ (List.mem_append_left _ (weightsAll_mem (i := i) (d := (elems[i]'(by omega)).1) ?_ q hq))
          rw [List.getElem?_map, List.getElem?_eq_getElem (by omega)]
          rfl)
        obtain ⟨r, fv, ov, fb, e, h2⟩ := rin_of htr hb
        exact ⟨(r, fv, ov, fb), fun _ => ⟨⟨cs, hcs, e⟩, h2⟩⟩
      · exact ⟨(⟨0, [], .mk 0 0 ⟨#[]⟩ []⟩, .slice none 0 0, .slice none 0 0, 0), fun h => absurd h hi⟩
    obtain ⟨F, hF⟩ := Classical.axiomOfChoice hall
    have hL : ((List.range n).map fun i => (F i).1).length = n := by simp
    have hg : ∀ i t, ((List.range n).map fun i => (F i).1)[i]? = some t → i < n ∧ t = (F i).1 := by
      intro i t hi
      have hil := (List.getElem?_eq_some_iff.1 hi).1
      rw [hL] at hil
      refine ⟨hil, ?_⟩
      rw [List.getElem?_map, List.getElem?_range hil] at hi
      simpa using hi.symm
    have ha : 0 < n → ∃ b off, ad = ⟨b, off, none⟩ := fun h0 => by
      obtain ⟨⟨cs, hcs, _⟩, _⟩ := hF 0 h0
      have := spot_of_cells (k := 0 * 6) (by decide) (by omega) hcs
      obtain ⟨b, off, sp⟩ := ad
      simp only at this
      subst this
      exact ⟨b, off, rfl⟩
    have hab : 0 < n → ad = ⟨ad.block, ad.off, none⟩ := fun h0 => by
      obtain ⟨b, off, e⟩ := ha h0
      rw [e]
    unfold reachBytes at hbd
    refine ⟨(List.range n).map fun i => (F i).1, some ad, cap, ad.off, ad.block, by rw [hL], fun h0 => by rw [hL] at h0; exact congrArg some (hab h0), by rw [hL]; omega, fun i r hi => ?_⟩
    obtain ⟨hil, rfl⟩ := hg i r hi
    obtain ⟨⟨cs, hcs, e⟩, h2⟩ := hF i hil
    exact ⟨(F i).2.1, (F i).2.2.1, (F i).2.2.2, by rw [← e]; exact cells_at (hab (by omega)) hcs, h2⟩
end
end Go.Proofs.YtcbeibhmjokecaaDoor
