/- Records of few numbers, as an argument; rows of fields that keep off some blocks. -/
import Derived.Test.YtcbeibhmjokecaaDoorYTypeOf
import Derived.Test.YtcbeibhmjokecaaDoorYArr
set_option linter.unusedSimpArgs false
set_option linter.unusedVariables false
namespace Go.Proofs.YtcbeibhmjokecaaDoor
open Go.RowKit M

structure Rin where
  base : Nat
  fields : List Nat
  t : Ty
def rinCells (r : Rin) (fv ov : Value) : List Value := [.int .u8 (r.base : Int), fv, .int .i64 r.t.form, .int .i64 r.t.n, .string r.t.name, ov]
theorem rinCells_len (r : Rin) (fv ov : Value) : (rinCells r fv ov).length = 6 := rfl
def U8v (l : List Nat) : List Value := l.map fun (x : Nat) => Value.int .u8 (x : Int)
/-- One record of numbers at a place. -/
def RinAt (w : World) (b o : Nat) (r : Rin) : Prop :=
  ∃ (fv ov : Value) (fb : Nat), At w b o (rinCells r fv ov) ∧ M.Src w fb fv (U8v r.fields) ∧ TyS Any w ov r.t.of ∧ r.base < 256 ∧ (∀ x ∈ r.fields, x < 256) ∧ r.t.name.size ≤ maxLen ∧ r.fields.length ≤ 140737488355328
def RinS (w : World) (v : Value) (l : List Rin) : Prop :=
  ∃ (ao : Option Addr) (cap off b : Nat), v = .slice ao l.length cap ∧ (0 < l.length → ao = some ⟨b, off, none⟩) ∧ l.length * 64 ≤ 140737488355328 ∧ ∀ i r, l[i]? = some r → RinAt w b (off + i * 6) r
theorem RinAt.go {w w' : World} {b o : Nat} {r : Rin} (h : RinAt w b o r) (ho : Only Nil w w') : RinAt w' b o r := by
  obtain ⟨fv, ov, fb, h1, h2, h3, h4⟩ := h
  exact ⟨fv, ov, fb, h1.kept ho (fun _ h => h), h2.kept ho (fun _ h => h), h3.go ho, h4⟩
theorem RinS.go {w w' : World} {v : Value} {l : List Rin} (h : RinS w v l) (ho : Only Nil w w') : RinS w' v l := by
  obtain ⟨ao, cap, off, b, h1, h2, h3, h4⟩ := h
  exact ⟨ao, cap, off, b, h1, h2, h3, fun i r hi => (h4 i r hi).go ho⟩

/-- A row of variables that the call has made, whose types keep off some blocks. -/
def VrRowC (C : Nat → Prop) (base : Nat) (w : World) (v : Value) (L : List Vr) : Prop :=
  ∃ (xs : List Value) (ovs : Nat → Value), w.ownsRow base 47 6 v L.length xs ∧ (∀ x ∈ L, x.name.size ≤ maxLen ∧ x.t.name.size ≤ maxLen) ∧ ∀ i x, L[i]? = some x → (∀ j u, (vrCells x (ovs i))[j]? = some u → xs[i * 6 + j]? = some u) ∧ TyS (fun k => C k ∧ k < w.heap.size ∧ v.ownBlock ≠ some k) w (ovs i) x.t.of
theorem VrRowC.nil (C : Nat → Prop) (base : Nat) (w : World) : VrRowC C base w (.slice none 0 0) [] :=
  ⟨[], fun _ => .slice none 0 0, World.ownsRow_nil _ _ _ _, fun _ h => by simp at h, fun i t h => by simp at h⟩
theorem VrRowC.kept {C S : Nat → Prop} {base : Nat} {w w' : World} {v : Value} {L : List Vr} (h : VrRowC C base w v L) (ho : Only S w w') (h1 : ∀ k, C k → ¬ S k) (h2 : ∀ k, base ≤ k → k < w.heap.size → ¬ S k) : VrRowC C base w' v L := by
  obtain ⟨xs, ovs, q1, q2, q3⟩ := h
  exact ⟨xs, ovs, ownsRow_only q1 ho (fun k hk => h2 k (q1.lt k hk).1 (q1.lt k hk).2), q2, fun i x hi => ⟨(q3 i x hi).1, ((q3 i x hi).2.kept ho (fun k hk => h1 k hk.1)).mono (fun k hk => ⟨hk.1, Nat.lt_of_lt_of_le hk.2.1 ho.size, hk.2.2⟩)⟩⟩
theorem VrRowC.varS {C D : Nat → Prop} {base : Nat} {w : World} {v : Value} {L : List Vr} (h : VrRowC C base w v L) (hL : L.length * 80 ≤ 140737488355328) (h1 : ∀ k, C k → D k) (h2 : ∀ k, base ≤ k → D k) : VarS D w v L := by
  obtain ⟨xs, ovs, q1, hs, q2⟩ := h
  by_cases h0 : 0 < L.length
  · obtain ⟨g, cap, rfl, z1, z2, z3, z4⟩ := ownsRow_shape q1 h0
    refine VarS.mk L _ cap 0 g ovs (fun _ => rfl) (fun h => by simp at h) (fun _ => h2 g z1) hL hs (fun i t hi j u hu => ?_) (fun i t hi => (q2 i t hi).2.mono (fun k h => h1 k h.1))
    have hj := (List.getElem?_eq_some_iff.1 hu).1
    rw [vrCells_len] at hj
    have hil := (List.getElem?_eq_some_iff.1 hi).1
    rw [Nat.zero_add, World.ownsRow.cellAt q1 (i * 6 + j) (by omega)]
    exact (q2 i t hi).1 j u hu
  · have hl : L = [] := List.eq_nil_of_length_eq_zero (by omega)
    subst hl
    rcases q1.2 with ⟨rfl, _⟩ | ⟨g, cap, cur, rfl, hb, _⟩
    · exact VarS.nil _ _
    · exact VarS.mk [] (some ⟨g, 0, none⟩) cap 0 g ovs (fun h => absurd h (by simp)) (fun h => by simp at h) (fun h => absurd h (by simp)) (by simp) (fun _ h => by simp at h) (fun _ _ h => by simp at h) (fun _ _ h => by simp at h)
/-- A variable more. -/
theorem VrRowC.push {C : Nat → Prop} {base n : Nat} {w w1 w2 : World} {v v' ov : Value} {L : List Vr} {x : Vr} {xs : List Value} {ovs : Nat → Value} (hL : L.length = n) (hrow : w.ownsRow base 47 6 v n xs) (hnm : ∀ x ∈ L, x.name.size ≤ maxLen ∧ x.t.name.size ≤ maxLen)
    (hm : ∀ i x, L[i]? = some x → (∀ j u, (vrCells x (ovs i))[j]? = some u → xs[i * 6 + j]? = some u) ∧ TyS (fun k => C k ∧ k < w.heap.size ∧ v.ownBlock ≠ some k) w (ovs i) x.t.of)
    (h1 : Only Nil w w1) (hT : TyS (fun k => C k ∧ k < w1.heap.size ∧ v.ownBlock ≠ some k) w1 ov x.t.of) (hx : x.name.size ≤ maxLen ∧ x.t.name.size ≤ maxLen) (hown : w2.ownsRow base 47 6 v' (n + 1) (xs ++ vrCells x ov)) (hg : MovedTo w1 v v') (h2 : Only (Own v.ownBlock) w1 w2) : VrRowC C base w2 v' (L ++ [x]) := by
  subst hL
  have s1 := h1.size
  have s2 := h2.size
  have hxl := ownsRow_len hrow
  obtain ⟨g, hg1, hg2⟩ := hg
  have hcls : ∀ k, C k ∧ k < w1.heap.size ∧ v.ownBlock ≠ some k → C k ∧ k < w2.heap.size ∧ v'.ownBlock ≠ some k := fun k hk => ⟨hk.1, by have := hk.2.1; omega, by
    rw [hg1]
    intro e; injection e with e; subst e
    rcases hg2 with h | h
    · exact hk.2.2 h
    · have := hk.2.1; omega⟩
  refine ⟨_, fun i => if i < L.length then ovs i else ov, by rw [List.length_append]; exact hown, fun t' h' => ?_, fun i t' hi => ?_⟩
  · rcases List.mem_append.1 h' with h | h
    · exact hnm t' h
    · simp only [List.mem_singleton] at h; subst h; exact hx
  · by_cases hik : i < L.length
    · rw [List.getElem?_append_left hik] at hi
      obtain ⟨q1, q2⟩ := hm i t' hi
      simp only [if_pos hik]
      refine ⟨fun j u hu => ?_, ?_⟩
      · have hj := (List.getElem?_eq_some_iff.1 hu).1
        rw [vrCells_len] at hj
        rw [List.getElem?_append_left (by omega)]
        exact q1 j u hu
      · exact ((q2.go h1).kept h2 (fun k hk h => hk.2.2 h.symm)).mono (fun k hk => hcls k ⟨hk.1, by have := hk.2.1; omega, hk.2.2⟩)
    · have hil := (List.getElem?_eq_some_iff.1 hi).1
      rw [List.length_append, List.length_singleton] at hil
      have : i = L.length := by omega
      subst this
      have : t' = x := by rw [List.getElem?_append_right (by omega)] at hi; simp at hi; exact hi.symm
      subst this
      simp only [if_neg hik]
      refine ⟨fun j u hu => ?_, ?_⟩
      · rw [List.getElem?_append_right (by omega), show L.length * 6 + j - xs.length = j by omega]
        exact hu
      · exact (hT.kept h2 (fun k hk h => hk.2.2 h.symm)).mono (fun k hk => hcls k hk)
end Go.Proofs.YtcbeibhmjokecaaDoor

/- Records of numbers, made: made. -/
set_option linter.unusedSimpArgs false
set_option linter.unusedVariables false
namespace Go.Proofs.YtcbeibhmjokecaaDoor
open Go.RowKit M

/-- Off the map's block and the record's. -/
def Off (mb rb : Nat) : Nat → Prop := fun k => k ≠ mb ∧ ¬ M.One rb k
theorem tt_class {mb rb W0 nL capL : Nat} {aoL : Option Addr} {xsL : List Value} {w2 w3 wc w : World} (hrb : W0 ≤ mb ∧ mb < rb ∧ rb < w2.heap.size) (hown : w2.ownsRow (rb + 1) 47 6 (.slice aoL nL capL) nL xsL) (h23 : Only Nil w2 w3) (h3 : Only Nil w3 wc) {q : Nat} (hq : q < W0 ∨ wc.heap.size ≤ q) (hq2 : q < w.heap.size) :
    Off mb rb q ∧ q < w.heap.size ∧ (Value.slice aoL nL capL).ownBlock ≠ some q := by
  have s1 := h23.size
  have s2 := h3.size
  refine ⟨⟨fun h => ?_, fun h => ?_⟩, hq2, fun h => ?_⟩
  · rcases hq with h' | h' <;> omega
  · have h2 : q = rb := h
    rcases hq with h' | h' <;> omega
  · have := hown.lt q h
    rcases hq with h' | h' <;> omega
theorem tt_go {C : Nat → Prop} {w w' : World} {v ov : Value} {l : List Ty} (h : TyS (fun q => C q ∧ q < w.heap.size ∧ v.ownBlock ≠ some q) w ov l) (ho : Only Nil w w') : TyS (fun q => C q ∧ q < w'.heap.size ∧ v.ownBlock ≠ some q) w' ov l :=
  (h.go ho).mono (fun q hq => ⟨hq.1, Nat.lt_of_lt_of_le hq.2.1 ho.size, hq.2.2⟩)
/-- What made leaves. -/
def MadePost (w : World) (e : Ending) (w' : World) : Prop :=
  ∃ (b n : Nat) (R : Recs) (fv : ByteArray → Value), e = .returned (.map (some b)) ∧ RMk w' b n R fv ∧ n ≤ 6 ∧ (∀ s r, R s = some r → r.fields.length ≤ 5) ∧ Only Nil w w'
set_option maxRecDepth 20000 in
set_option maxHeartbeats 12800000 in
theorem made_any {w0 : World} {v : Value} {l : List Rin} (hl : RinS w0 v l) (w : World) (hw : Only Nil w0 w) :
    Calls Tryd.prog 10 #[v] w (MadePost w) := by
  obtain ⟨iV, zV, hiV, hV0, hV1, hV2, hV3⟩ := infoVr_parts
  obtain ⟨ao, cap, off, b, rfl, h0, hn, hel⟩ := hl
  obtain ⟨n, hln⟩ : ∃ n, l.length = n := ⟨_, rfl⟩
  rw [hln] at h0 hn ⊢
  have HLN := Lib.hid hln
  have H0 := Lib.hid h0
  have HN := Lib.hid hn
  have HEL := Lib.hid (fun i r (hi : l[i]? = some r) => (hel i r hi).go hw)
  clear hln h0 hn hel hw
  have mkm : ∀ w, (Instr.makeMap 31 none).run Tryd.prog w = .ok (.map (some w.heap.size)) (w.alloc (.map #[] 0)) := fun w => by
    simp [Instr.makeMap, run_underlying Tryd.underlying31, Result.andThen]
  go_enter Tryd.func10, Tryd.ntmps10
  go_upto_region 2 with fail
  obtain ⟨mb, hmb⟩ : ∃ z, w.heap.size = z := ⟨_, rfl⟩
  have hMk := RMk.made w (fun _ => .slice none 0 0)
  have o1 := alloc0 w (.map #[] 0)
  obtain ⟨wm, hwm⟩ : ∃ z, w.alloc (.map #[] 0) = z := ⟨_, rfl⟩
  rw [hmb, hwm] at hMk
  rw [hwm] at o1 ⊢
  rw [hmb]
  have HMK := Lib.hid hMk
  have HOM := Lib.hid o1
  have HMB := Lib.hid hmb
  clear hMk o1 hwm mkm hmb
  go_wp2_with fail
  go_loopg [4] n (fun g i wr => ∃ (k m : Nat) (R : Recs) (fv : ByteArray → Value), i = .int .i64 (k : Int) ∧ k ≤ n ∧ k ≤ 6 ∧ g = n - k ∧ m ≤ k ∧ RMk wr mb m R fv ∧ (∀ s r, R s = some r → r.fields.length ≤ 5) ∧ Only Nil w wr)
  case atStart => exact ⟨0, 0, _, _, rfl, Nat.zero_le _, Nat.zero_le _, rfl, Nat.le_refl _, HMK.out, (fun s r h => by cases h), HOM.out⟩
  case round =>
    obtain ⟨i, m, R, fv, rfl, hin, hi6, hg, hm, hR, hF, ho⟩ := hrel
    obtain ⟨w1, hw1⟩ : ∃ z, wr = z := ⟨_, rfl⟩
    rw [hw1] at hR ho ⊢
    clear hw1
    have HR := Lib.hid hR
    have HF := Lib.hid hF
    have HO := Lib.hid ho
    have HG := Lib.hid hg
    have HI6 := Lib.hid hi6
    have HM := Lib.hid hm
    have i0 : (0 : Int) ≤ (i : Int) := Int.natCast_nonneg _
    clear hR hF ho hg hm hin
    by_cases hgo : i < n ∧ i < 6
    · obtain ⟨h1, h2⟩ := hgo
      have i1 : (i : Int) < (n : Int) := by omega
      have i2 : (i : Int) < 6 := by omega
      obtain ⟨r, hr⟩ : ∃ r, l[i]? = some r := ⟨_, List.getElem?_eq_getElem (by rw [HLN.out]; exact h1)⟩
      have e1 := H0.out (by omega)
      subst e1
      obtain ⟨fvl, ovl, fb, a0, hsrc0, hTy0, hb256, hf256, hnt, hfl⟩ := HEL.out i r hr
      have a1 := a0.kept HO.out (fun _ h => h)
      have hsrc := hsrc0.kept HO.out (fun _ h => h)
      have hTy : TyS (fun q => q < w.heap.size) w1 ovl r.t.of := (hTy0.lts.go HO.out).mono (fun q hq => hq.2)
      clear a0 hsrc0 hTy0
      obtain ⟨rbase, fl, tr⟩ := r
      simp only at a1 hsrc hTy hb256 hf256 hnt hfl
      have HI1 := Lib.hid h1
      clear h1 h2 hr hi6
      unfold rinCells at a1
      simp only at a1
      obtain ⟨aoF, capF, offF, eF, p1, p2, p3⟩ := hsrc
      rw [show (U8v fl).length = fl.length by simp [U8v]] at eF p1
      obtain ⟨nf, hnf⟩ : ∃ z, fl.length = z := ⟨_, rfl⟩
      rw [hnf] at eF p1 hfl
      subst eF
      obtain ⟨aoT, capT, eT⟩ := hTy.slice
      obtain ⟨nT, hnT⟩ : ∃ z, tr.of.length = z := ⟨_, rfl⟩
      rw [hnT] at eT
      subst eT
      have y0 : w1.cell? ⟨b, off + i * 6, none⟩ = some (.int .u8 (rbase : Int)) := a1.get0
      have y1 : w1.cell? ⟨b, off + i * 6 + 1, none⟩ = some (.slice aoF nf capF) := a1.get 1 rfl
      have y2 : w1.cell? ⟨b, off + i * 6 + 2, none⟩ = some (.int .i64 tr.form) := a1.get 2 rfl
      have y3 : w1.cell? ⟨b, off + i * 6 + 3, none⟩ = some (.int .i64 tr.n) := a1.get 3 rfl
      have y4 : w1.cell? ⟨b, off + i * 6 + 4, none⟩ = some (.string tr.name) := a1.get 4 rfl
      have y5 : w1.cell? ⟨b, off + i * 6 + 5, none⟩ = some (.slice aoT nT capT) := a1.get 5 rfl
      have HTY := Lib.hid hTy
      have HNT := Lib.hid hnt
      have HP1 := Lib.hid p1
      have HP3 := Lib.hid p3
      have HNF0 := Lib.hid hnf
      have HNF := Lib.hid hfl
      have HF256 := Lib.hid hf256
      obtain ⟨rb, hrb⟩ : ∃ z, w1.heap.size = z := ⟨_, rfl⟩
      have hRb := Blk.new w1 #[.string ⟨#[82]⟩, .bool false, .string ⟨#[]⟩, .slice none 0 0] 49
      have oR := alloc0 w1 (.cells #[.string ⟨#[82]⟩, .bool false, .string ⟨#[]⟩, .slice none 0 0] 49)
      have HY0 := fun w' (h : Only Nil w1 w') => h.cell y0 (fun h => h)
      have HY1 := Lib.hid (fun w' (h : Only Nil w1 w') => h.cell y1 (fun h => h))
      have HY2 := Lib.hid (fun w' (h : Only Nil w1 w') => h.cell y2 (fun h => h))
      have HY3 := Lib.hid (fun w' (h : Only Nil w1 w') => h.cell y3 (fun h => h))
      have HY4 := Lib.hid (fun w' (h : Only Nil w1 w') => h.cell y4 (fun h => h))
      have HY5 := Lib.hid (fun w' (h : Only Nil w1 w') => h.cell y5 (fun h => h))
      have HRW := Lib.hid (show w1.heap.size ≤ rb by omega)
      have HRB2 := Lib.hid (show mb < rb by have h3 := HR.out.map.lt; omega)
      rw [hrb] at hRb
      obtain ⟨w1b, hw1b⟩ : ∃ z, w1.alloc (.cells #[.string ⟨#[82]⟩, .bool false, .string ⟨#[]⟩, .slice none 0 0] 49) = z := ⟨_, rfl⟩
      rw [hw1b] at hRb oR
      have HW1B := Lib.hid hw1b
      have HRBE := Lib.hid hrb
      have HRb := Lib.hid hRb
      have HOR := Lib.hid oR
      have HB256 := Lib.hid hb256
      clear a1 y0 y1 y2 y3 y4 y5 hTy hnt p1 p2 p3 hnf hfl hf256 hrb hRb oR hw1b hnT hb256
      go_upto_region 6 with fail
      rw [HW1B.out, HRBE.out]
      have Y0 := HY0 _ HOR.out
      go_upto_region 7 with fail
      obtain ⟨cB, hcB⟩ : ∃ c, (decide ((rbase : Int) % 9 < 7) && decide (60 < (rbase : Int))) = c := ⟨_, rfl⟩
      have HCB := Lib.hid hcB
      clear hcB
      obtain ⟨bq, hbq⟩ : ∃ z : Int, (rbase : Int) % 9 = z := ⟨_, rfl⟩
      rw [hbq]
      have HBQ := Lib.hid hbq
      have HBQ0 := Lib.hid (show 0 ≤ bq ∧ bq < 9 by omega)
      clear hbq
      go_cut [36] (fun s36 wx => s36 = .bool cB ∧ wx = w1b)
      case first =>
        have h2 := HCB.out
        rw [HBQ.out] at h2
        by_cases g1 : bq < 7
        · by_cases g2 : (60 : Int) < (rbase : Int)
          · rw [decide_eq_true g1, decide_eq_true g2] at h2
            subst h2
            go_wp2_with fail
            go_meet
            exact ⟨rfl, rfl⟩
          · rw [decide_eq_true g1, decide_eq_false g2] at h2
            subst h2
            go_wp2_with fail
            go_meet
            exact ⟨rfl, rfl⟩
        · rw [decide_eq_false g1] at h2
          have h2 : false = cB := h2
          subst h2
          go_wp2_with fail
          go_meet
          exact ⟨rfl, rfl⟩
      case rest =>
        obtain ⟨rfl, rfl⟩ := hcut
        clear Y0
        obtain ⟨bn, hbn⟩ : ∃ z : Nat, bq = (z : Int) := ⟨bq.toNat, by have := HBQ0.out; omega⟩
        subst hbn
        have hb9 : bn < 9 := by have := HBQ0.out; omega
        have hCb := Blk.new wc #[.int .u8 ((48 + bn : Nat) : Int)] 5
        have cvb := conv_blk hCb
        have oCb := alloc0 wc (.cells #[.int .u8 ((48 + bn : Nat) : Int)] 5)
        have hRb8 := HRb.out.kept oCb (fun h => h)
        have cSb := ch_size (48 + bn)
        obtain ⟨SB, hSB⟩ : ∃ S, ch (48 + bn) = S := ⟨_, rfl⟩
        rw [hSB] at cvb cSb
        rw [show ((48 + bn : Nat) : Int) = 48 + (bn : Int) by simp] at cvb oCb hRb8
        have d2 : (wc.alloc (.cells #[.int .u8 (48 + (bn : Int))] 5)).cell? ⟨rb, 2, none⟩ = some (.string ⟨#[]⟩) := hRb8.cell 2
        have f2 := hRb8.free 2
        have HCVB := Lib.hid cvb
        have HRB8 := Lib.hid hRb8
        have HOCB := Lib.hid oCb
        clear cvb hCb oCb hRb8 hSB
        have hrblt := HRb.out.lt
        have wb1 : IntKind.u8.wrap (bn : Int) = (bn : Int) := by simp [IntKind.wrap, IntKind.bits, IntKind.signed]; omega
        have wb2 : IntKind.u8.wrap (48 + (bn : Int)) = 48 + (bn : Int) := by simp [IntKind.wrap, IntKind.bits, IntKind.signed]; omega
        go_upto_if 36 with fail
        go_cut [5] (fun s5 wx => s5 = .pointer (some ⟨rb, 0, none⟩) ∧ ∃ bs : ByteArray, Blk wx rb #[.string ⟨#[82]⟩, .bool false, .string bs, .slice none 0 0] 49 ∧ bs.size ≤ maxLen ∧ Only Nil w1 wx)
        case first =>
          cases cB with
          | false =>
            go_wp2_with fail
            go_meet
            exact ⟨rfl, _, HRb.out, Nat.zero_le _, HOR.out⟩
          | true =>
            have cvb := HCVB.out
            go_wp2_with fail
            go_meet
            have hz := (HRb.out.setCell 2 (.string (⟨#[77, 46, 82]⟩ ++ SB))).alloc (.cells #[.int .u8 (48 + (bn : Int))] 5)
            simp only [List.setIfInBounds_toArray, List.set_cons_zero, List.set_cons_succ] at hz
            refine ⟨rfl, ⟨#[77, 46, 82]⟩ ++ SB, hz, by rw [ByteArray.size_append, cSb]; show 3 + 1 ≤ maxLen; decide, ?_⟩
            exact (HOR.out.trans ((Only.refl (M.One rb) _).setCell' (M.One rb) rfl _) (fun k hk h => by have h2 : k = rb := h; have := HRW.out; omega)).alloc _
        case rest =>
          obtain ⟨rfl, bs, hRw, hbs, how⟩ := hcut
          obtain ⟨wy, hwy⟩ : ∃ z, wc = z := ⟨_, rfl⟩
          have HBS := Lib.hid hbs
          have HOW := Lib.hid how
          have HRW2 := Lib.hid hRw
          clear d2 f2 cSb wb1 wb2 hbs how hRw hwy hb9
          go_wp2_with fail
          go_loopg [7] nf (fun g v2 w2 => ∃ (k : Nat) (LL : List Vr) (lv : Value), v2 = .int .i64 (k : Int) ∧ k ≤ nf ∧ g = nf - k ∧ LL.length = k ∧ k ≤ 5 ∧ Only Nil w1 w2 ∧ Blk w2 rb #[.string ⟨#[82]⟩, .bool false, .string bs, lv] 49 ∧ VrRowC (Off mb rb) (rb + 1) w2 lv LL)
          case atStart => exact ⟨0, [], _, rfl, Nat.zero_le _, rfl, rfl, Nat.zero_le _, HOW.out, HRW2.out, VrRowC.nil _ _ _⟩
          case round =>
            obtain ⟨k, LL, lv, rfl, hkn, hg2, hLk, hk5, ho2, hB2, hrow2⟩ := hrel
            obtain ⟨w2, hw2⟩ : ∃ z, wr = z := ⟨_, rfl⟩
            rw [hw2] at ho2 hB2 hrow2 ⊢
            clear hw2
            have HG2 := Lib.hid hg2
            have HO2 := Lib.hid ho2
            have HBR0 := Lib.hid hB2
            have HROW2 := Lib.hid hrow2
            have HLK0 := Lib.hid hLk
            have k0 : (0 : Int) ≤ (k : Int) := Int.natCast_nonneg _
            have Y1 := HY1.out _ ho2
            by_cases hgo2 : k < nf ∧ k < 5
            · obtain ⟨hkf, hk4⟩ := hgo2
              have k1 : (k : Int) < (nf : Int) := by omega
              have k2 : (k : Int) < 5 := by omega
              obtain ⟨xsL, ovsL, hown2, hnm2, hm2⟩ := hrow2
              obtain ⟨aoL, capL, hlv⟩ := sl_of_own hown2
              subst hlv
              obtain ⟨nL, hnL⟩ : ∃ z, LL.length = z := ⟨_, rfl⟩
              rw [hnL] at hown2 hm2 hB2 HBR0
              have HLK : Hid (nL = k) := Lib.hid (hnL.symm.trans hLk)
              have HLL := Lib.hid hnL
              have HNL : Hid (nL ≤ 5) := Lib.hid (by omega)
              have HOWN := Lib.hid hown2
              have HNM := Lib.hid hnm2
              have HMM := Lib.hid hm2
              have HBR := HBR0
              obtain ⟨fk, hfk⟩ : ∃ z, fl[k]? = some z := ⟨_, List.getElem?_eq_getElem (by rw [HNF0.out]; exact hkf)⟩
              have hfk256 := HF256.out fk (List.mem_of_getElem? hfk)
              have e2 := HP1.out (by omega)
              subst e2
              have xf0 := ho2.cell (HP3.out k _ (show (U8v fl)[k]? = some (.int .u8 (fk : Int)) by unfold U8v; rw [List.getElem?_map, hfk]; rfl)) (fun h => h)
              have Y2 := HY2.out _ ho2
              have Y3 := HY3.out _ ho2
              have Y4 := HY4.out _ ho2
              have Y5 := HY5.out _ ho2
              have x3' : w2.cell? ⟨rb, 3, none⟩ = some (.slice aoL nL capL) := hB2.cell 3
              have HRB : Hid (rb + 1 ≤ w2.heap.size) := Lib.hid (by have := hB2.lt; omega)
              have HRB3 := Lib.hid hB2.lt
              have HFK := Lib.hid hfk256
              have HKF := Lib.hid hkf
              have hTR := HTY.out.go ho2
              have wk1 : IntKind.u8.wrap (k : Int) = (k : Int) := by simp [IntKind.wrap, IntKind.bits, IntKind.signed]; omega
              have wk2 : IntKind.u8.wrap (97 + (k : Int)) = 97 + (k : Int) := by simp [IntKind.wrap, IntKind.bits, IntKind.signed]; omega
              clear hg2 hLk hk5 ho2 hB2 hown2 hnm2 hm2 hnL hfk hfk256 hkn
              go_upto_region 12 with fail
              have ck : (97 + (k : Int)) = ((97 + k : Nat) : Int) := by simp
              have HCK := Lib.hid ck
              have hsz := ch_size (97 + k)
              obtain ⟨S, hS⟩ : ∃ S, ch (97 + k) = S := ⟨_, rfl⟩
              rw [hS] at hsz
              have HS := Lib.hid hS
              have HCS := Lib.hid hsz
              have HRBX : Hid (w.heap.size ≤ mb ∧ mb < rb ∧ rb < w2.heap.size) := Lib.hid ⟨by have := HMB.out; omega, HRB2.out, HRB3.out⟩
              clear ck hS
              have HCT := Lib.hid (fun w' (h : Only Nil w2 w') => typeOf_any (U := fun q => q < w.heap.size) fk HFK.out tr.form tr.n tr.name HNT.out _ _ w' (hTR.go h))
              clear hTR
              have hq : Only Nil w2 w2.drew := (Only.refl Nil w2).drew
              refine wp_region_T (fun w' => Only Nil w2 w') [24, 25, 26] (by kernel_rfl) ?_
              refine wpAnyT_sub (S' := fun w' => Only Nil w2.drew w') (fun _ h => Nil.trans hq h) ?_
              obtain ⟨wd, hwd⟩ : ∃ z, w2.drew = z := ⟨_, rfl⟩
              rw [hwd] at hq  ⊢
              clear hwd
              refine wpAnyT_take 0 (v := ?_) rfl (by kernel_rfl) (by kernel_rfl) (by kernel_rfl) (fun _ _ _ h => h) (by kernel_rfl) (by kernel_rfl) (Or.inl ⟨by kernel_rfl, ?_⟩) (Only.refl Nil _) ?_
              rotate_left
              · (intro w' hw'; have e0 := M.Only.cell hw' (M.Only.cell hq x3' (fun h => h)) (fun h => h); have e1 := M.Only.cell hw' (M.Only.cell hq Y1 (fun h => h)) (fun h => h); have e2 := M.Only.cell hw' (M.Only.cell hq xf0 (fun h => h)) (fun h => h); have e3 := M.Only.cell hw' (M.Only.cell hq Y2 (fun h => h)) (fun h => h); have e4 := M.Only.cell hw' (M.Only.cell hq Y3 (fun h => h)) (fun h => h); have e5 := M.Only.cell hw' (M.Only.cell hq Y4 (fun h => h)) (fun h => h); have e6 := M.Only.cell hw' (M.Only.cell hq Y5 (fun h => h)) (fun h => h); go_simp; (try with_reducible rfl))
              refine wpAnyT_take 1 (v := ?_) rfl (by kernel_rfl) (by kernel_rfl) (by kernel_rfl) (fun _ _ _ h => h) (by kernel_rfl) (by kernel_rfl) (Or.inl ⟨by kernel_rfl, ?_⟩) (Only.refl Nil _) ?_
              rotate_left
              · (intro w' hw'; have e0 := M.Only.cell hw' (M.Only.cell hq x3' (fun h => h)) (fun h => h); have e1 := M.Only.cell hw' (M.Only.cell hq Y1 (fun h => h)) (fun h => h); have e2 := M.Only.cell hw' (M.Only.cell hq xf0 (fun h => h)) (fun h => h); have e3 := M.Only.cell hw' (M.Only.cell hq Y2 (fun h => h)) (fun h => h); have e4 := M.Only.cell hw' (M.Only.cell hq Y3 (fun h => h)) (fun h => h); have e5 := M.Only.cell hw' (M.Only.cell hq Y4 (fun h => h)) (fun h => h); have e6 := M.Only.cell hw' (M.Only.cell hq Y5 (fun h => h)) (fun h => h); go_simp; (try with_reducible rfl))
              refine wpAnyT_take 2 (v := ?_) rfl (by kernel_rfl) (by kernel_rfl) (by kernel_rfl) (fun _ _ _ h => h) (by kernel_rfl) (by kernel_rfl) (Or.inl ⟨by kernel_rfl, ?_⟩) (Only.refl Nil _) ?_
              rotate_left
              · (intro w' hw'; have e0 := M.Only.cell hw' (M.Only.cell hq x3' (fun h => h)) (fun h => h); have e1 := M.Only.cell hw' (M.Only.cell hq Y1 (fun h => h)) (fun h => h); have e2 := M.Only.cell hw' (M.Only.cell hq xf0 (fun h => h)) (fun h => h); have e3 := M.Only.cell hw' (M.Only.cell hq Y2 (fun h => h)) (fun h => h); have e4 := M.Only.cell hw' (M.Only.cell hq Y3 (fun h => h)) (fun h => h); have e5 := M.Only.cell hw' (M.Only.cell hq Y4 (fun h => h)) (fun h => h); have e6 := M.Only.cell hw' (M.Only.cell hq Y5 (fun h => h)) (fun h => h); go_simp; (try with_reducible rfl))
              refine wpAnyT_take 3 (v := ?_) rfl (by kernel_rfl) (by kernel_rfl) (by kernel_rfl) (fun _ _ _ h => h) (by kernel_rfl) (by kernel_rfl) (Or.inl ⟨by kernel_rfl, ?_⟩) (Only.refl Nil _) ?_
              rotate_left
              · (intro w' hw'; have e0 := M.Only.cell hw' (M.Only.cell hq x3' (fun h => h)) (fun h => h); have e1 := M.Only.cell hw' (M.Only.cell hq Y1 (fun h => h)) (fun h => h); have e2 := M.Only.cell hw' (M.Only.cell hq xf0 (fun h => h)) (fun h => h); have e3 := M.Only.cell hw' (M.Only.cell hq Y2 (fun h => h)) (fun h => h); have e4 := M.Only.cell hw' (M.Only.cell hq Y3 (fun h => h)) (fun h => h); have e5 := M.Only.cell hw' (M.Only.cell hq Y4 (fun h => h)) (fun h => h); have e6 := M.Only.cell hw' (M.Only.cell hq Y5 (fun h => h)) (fun h => h); go_simp; (try with_reducible rfl))
              refine wpAnyT_take 4 (v := ?_) rfl (by kernel_rfl) (by kernel_rfl) (by kernel_rfl) (fun _ _ _ h => h) (by kernel_rfl) (by kernel_rfl) (Or.inl ⟨by kernel_rfl, ?_⟩) (Only.refl Nil _) ?_
              rotate_left
              · (intro w' hw'; have e0 := M.Only.cell hw' (M.Only.cell hq x3' (fun h => h)) (fun h => h); have e1 := M.Only.cell hw' (M.Only.cell hq Y1 (fun h => h)) (fun h => h); have e2 := M.Only.cell hw' (M.Only.cell hq xf0 (fun h => h)) (fun h => h); have e3 := M.Only.cell hw' (M.Only.cell hq Y2 (fun h => h)) (fun h => h); have e4 := M.Only.cell hw' (M.Only.cell hq Y3 (fun h => h)) (fun h => h); have e5 := M.Only.cell hw' (M.Only.cell hq Y4 (fun h => h)) (fun h => h); have e6 := M.Only.cell hw' (M.Only.cell hq Y5 (fun h => h)) (fun h => h); go_simp; (try with_reducible rfl))
              refine wpAnyT_take 8 (v := ?_) rfl (by kernel_rfl) (by kernel_rfl) (by kernel_rfl) (fun _ _ _ h => h) (by kernel_rfl) (by kernel_rfl) (Or.inl ⟨by kernel_rfl, ?_⟩) (Only.refl Nil _) ?_
              rotate_left
              · (intro w' hw'; have e0 := M.Only.cell hw' (M.Only.cell hq x3' (fun h => h)) (fun h => h); have e1 := M.Only.cell hw' (M.Only.cell hq Y1 (fun h => h)) (fun h => h); have e2 := M.Only.cell hw' (M.Only.cell hq xf0 (fun h => h)) (fun h => h); have e3 := M.Only.cell hw' (M.Only.cell hq Y2 (fun h => h)) (fun h => h); have e4 := M.Only.cell hw' (M.Only.cell hq Y3 (fun h => h)) (fun h => h); have e5 := M.Only.cell hw' (M.Only.cell hq Y4 (fun h => h)) (fun h => h); have e6 := M.Only.cell hw' (M.Only.cell hq Y5 (fun h => h)) (fun h => h); go_simp; (try with_reducible rfl))
              refine wpAnyT_take 9 (v := ?_) rfl (by kernel_rfl) (by kernel_rfl) (by kernel_rfl) (fun _ _ _ h => h) (by kernel_rfl) (by kernel_rfl) (Or.inl ⟨by kernel_rfl, ?_⟩) (Only.refl Nil _) ?_
              rotate_left
              · (intro w' hw'; have e0 := M.Only.cell hw' (M.Only.cell hq x3' (fun h => h)) (fun h => h); have e1 := M.Only.cell hw' (M.Only.cell hq Y1 (fun h => h)) (fun h => h); have e2 := M.Only.cell hw' (M.Only.cell hq xf0 (fun h => h)) (fun h => h); have e3 := M.Only.cell hw' (M.Only.cell hq Y2 (fun h => h)) (fun h => h); have e4 := M.Only.cell hw' (M.Only.cell hq Y3 (fun h => h)) (fun h => h); have e5 := M.Only.cell hw' (M.Only.cell hq Y4 (fun h => h)) (fun h => h); have e6 := M.Only.cell hw' (M.Only.cell hq Y5 (fun h => h)) (fun h => h); go_simp; (try with_reducible rfl))
              refine wpAnyT_take 10 (v := ?_) rfl (by kernel_rfl) (by kernel_rfl) (by kernel_rfl) (fun _ _ _ h => h) (by kernel_rfl) (by kernel_rfl) (Or.inl ⟨by kernel_rfl, ?_⟩) (Only.refl Nil _) ?_
              rotate_left
              · (intro w' hw'; have e0 := M.Only.cell hw' (M.Only.cell hq x3' (fun h => h)) (fun h => h); have e1 := M.Only.cell hw' (M.Only.cell hq Y1 (fun h => h)) (fun h => h); have e2 := M.Only.cell hw' (M.Only.cell hq xf0 (fun h => h)) (fun h => h); have e3 := M.Only.cell hw' (M.Only.cell hq Y2 (fun h => h)) (fun h => h); have e4 := M.Only.cell hw' (M.Only.cell hq Y3 (fun h => h)) (fun h => h); have e5 := M.Only.cell hw' (M.Only.cell hq Y4 (fun h => h)) (fun h => h); have e6 := M.Only.cell hw' (M.Only.cell hq Y5 (fun h => h)) (fun h => h); go_simp; (try with_reducible rfl))
              refine wpAnyT_take 11 (v := ?_) rfl (by kernel_rfl) (by kernel_rfl) (by kernel_rfl) (fun _ _ _ h => h) (by kernel_rfl) (by kernel_rfl) (Or.inl ⟨by kernel_rfl, ?_⟩) (Only.refl Nil _) ?_
              rotate_left
              · (intro w' hw'; have e0 := M.Only.cell hw' (M.Only.cell hq x3' (fun h => h)) (fun h => h); have e1 := M.Only.cell hw' (M.Only.cell hq Y1 (fun h => h)) (fun h => h); have e2 := M.Only.cell hw' (M.Only.cell hq xf0 (fun h => h)) (fun h => h); have e3 := M.Only.cell hw' (M.Only.cell hq Y2 (fun h => h)) (fun h => h); have e4 := M.Only.cell hw' (M.Only.cell hq Y3 (fun h => h)) (fun h => h); have e5 := M.Only.cell hw' (M.Only.cell hq Y4 (fun h => h)) (fun h => h); have e6 := M.Only.cell hw' (M.Only.cell hq Y5 (fun h => h)) (fun h => h); go_simp; (try with_reducible rfl))
              refine wpAnyT_take 12 (v := ?_) rfl (by kernel_rfl) (by kernel_rfl) (by kernel_rfl) (fun _ _ _ h => h) (by kernel_rfl) (by kernel_rfl) (Or.inl ⟨by kernel_rfl, ?_⟩) (Only.refl Nil _) ?_
              rotate_left
              · (intro w' hw'; have e0 := M.Only.cell hw' (M.Only.cell hq x3' (fun h => h)) (fun h => h); have e1 := M.Only.cell hw' (M.Only.cell hq Y1 (fun h => h)) (fun h => h); have e2 := M.Only.cell hw' (M.Only.cell hq xf0 (fun h => h)) (fun h => h); have e3 := M.Only.cell hw' (M.Only.cell hq Y2 (fun h => h)) (fun h => h); have e4 := M.Only.cell hw' (M.Only.cell hq Y3 (fun h => h)) (fun h => h); have e5 := M.Only.cell hw' (M.Only.cell hq Y4 (fun h => h)) (fun h => h); have e6 := M.Only.cell hw' (M.Only.cell hq Y5 (fun h => h)) (fun h => h); go_simp; (try with_reducible rfl))
              refine wpAnyT_take 13 (v := ?_) rfl (by kernel_rfl) (by kernel_rfl) (by kernel_rfl) (fun _ _ _ h => h) (by kernel_rfl) (by kernel_rfl) (Or.inl ⟨by kernel_rfl, ?_⟩) (Only.refl Nil _) ?_
              rotate_left
              · (intro w' hw'; have e0 := M.Only.cell hw' (M.Only.cell hq x3' (fun h => h)) (fun h => h); have e1 := M.Only.cell hw' (M.Only.cell hq Y1 (fun h => h)) (fun h => h); have e2 := M.Only.cell hw' (M.Only.cell hq xf0 (fun h => h)) (fun h => h); have e3 := M.Only.cell hw' (M.Only.cell hq Y2 (fun h => h)) (fun h => h); have e4 := M.Only.cell hw' (M.Only.cell hq Y3 (fun h => h)) (fun h => h); have e5 := M.Only.cell hw' (M.Only.cell hq Y4 (fun h => h)) (fun h => h); have e6 := M.Only.cell hw' (M.Only.cell hq Y5 (fun h => h)) (fun h => h); go_simp; (try with_reducible rfl))
              refine wpAnyT_take 14 (v := ?_) rfl (by kernel_rfl) (by kernel_rfl) (by kernel_rfl) (fun _ _ _ h => h) (by kernel_rfl) (by kernel_rfl) (Or.inl ⟨by kernel_rfl, ?_⟩) (Only.refl Nil _) ?_
              rotate_left
              · (intro w' hw'; have e0 := M.Only.cell hw' (M.Only.cell hq x3' (fun h => h)) (fun h => h); have e1 := M.Only.cell hw' (M.Only.cell hq Y1 (fun h => h)) (fun h => h); have e2 := M.Only.cell hw' (M.Only.cell hq xf0 (fun h => h)) (fun h => h); have e3 := M.Only.cell hw' (M.Only.cell hq Y2 (fun h => h)) (fun h => h); have e4 := M.Only.cell hw' (M.Only.cell hq Y3 (fun h => h)) (fun h => h); have e5 := M.Only.cell hw' (M.Only.cell hq Y4 (fun h => h)) (fun h => h); have e6 := M.Only.cell hw' (M.Only.cell hq Y5 (fun h => h)) (fun h => h); go_simp; (try with_reducible rfl))
              refine wpAnyT_take 15 (v := ?_) rfl (by kernel_rfl) (by kernel_rfl) (by kernel_rfl) (fun _ _ _ h => h) (by kernel_rfl) (by kernel_rfl) (Or.inl ⟨by kernel_rfl, ?_⟩) (Only.refl Nil _) ?_
              rotate_left
              · (intro w' hw'; have e0 := M.Only.cell hw' (M.Only.cell hq x3' (fun h => h)) (fun h => h); have e1 := M.Only.cell hw' (M.Only.cell hq Y1 (fun h => h)) (fun h => h); have e2 := M.Only.cell hw' (M.Only.cell hq xf0 (fun h => h)) (fun h => h); have e3 := M.Only.cell hw' (M.Only.cell hq Y2 (fun h => h)) (fun h => h); have e4 := M.Only.cell hw' (M.Only.cell hq Y3 (fun h => h)) (fun h => h); have e5 := M.Only.cell hw' (M.Only.cell hq Y4 (fun h => h)) (fun h => h); have e6 := M.Only.cell hw' (M.Only.cell hq Y5 (fun h => h)) (fun h => h); go_simp; (try with_reducible rfl))
              refine wpAnyT_take 16 (v := ?_) rfl (by kernel_rfl) (by kernel_rfl) (by kernel_rfl) (fun _ _ _ h => h) (by kernel_rfl) (by kernel_rfl) (Or.inl ⟨by kernel_rfl, ?_⟩) (Only.refl Nil _) ?_
              rotate_left
              · (intro w' hw'; have e0 := M.Only.cell hw' (M.Only.cell hq x3' (fun h => h)) (fun h => h); have e1 := M.Only.cell hw' (M.Only.cell hq Y1 (fun h => h)) (fun h => h); have e2 := M.Only.cell hw' (M.Only.cell hq xf0 (fun h => h)) (fun h => h); have e3 := M.Only.cell hw' (M.Only.cell hq Y2 (fun h => h)) (fun h => h); have e4 := M.Only.cell hw' (M.Only.cell hq Y3 (fun h => h)) (fun h => h); have e5 := M.Only.cell hw' (M.Only.cell hq Y4 (fun h => h)) (fun h => h); have e6 := M.Only.cell hw' (M.Only.cell hq Y5 (fun h => h)) (fun h => h); go_simp; (try with_reducible rfl))
              refine wpAnyT_take 17 (v := ?_) rfl (by kernel_rfl) (by kernel_rfl) (by kernel_rfl) (fun _ _ _ h => h) (by kernel_rfl) (by kernel_rfl) (Or.inl ⟨by kernel_rfl, ?_⟩) (Only.refl Nil _) ?_
              rotate_left
              · (intro w' hw'; have e0 := M.Only.cell hw' (M.Only.cell hq x3' (fun h => h)) (fun h => h); have e1 := M.Only.cell hw' (M.Only.cell hq Y1 (fun h => h)) (fun h => h); have e2 := M.Only.cell hw' (M.Only.cell hq xf0 (fun h => h)) (fun h => h); have e3 := M.Only.cell hw' (M.Only.cell hq Y2 (fun h => h)) (fun h => h); have e4 := M.Only.cell hw' (M.Only.cell hq Y3 (fun h => h)) (fun h => h); have e5 := M.Only.cell hw' (M.Only.cell hq Y4 (fun h => h)) (fun h => h); have e6 := M.Only.cell hw' (M.Only.cell hq Y5 (fun h => h)) (fun h => h); go_simp; (try with_reducible rfl))
              refine wpAnyT_take 18 (v := ?_) rfl (by kernel_rfl) (by kernel_rfl) (by kernel_rfl) (fun _ _ _ h => h) (by kernel_rfl) (by kernel_rfl) (Or.inl ⟨by kernel_rfl, ?_⟩) (Only.refl Nil _) ?_
              rotate_left
              · (intro w' hw'; have e0 := M.Only.cell hw' (M.Only.cell hq x3' (fun h => h)) (fun h => h); have e1 := M.Only.cell hw' (M.Only.cell hq Y1 (fun h => h)) (fun h => h); have e2 := M.Only.cell hw' (M.Only.cell hq xf0 (fun h => h)) (fun h => h); have e3 := M.Only.cell hw' (M.Only.cell hq Y2 (fun h => h)) (fun h => h); have e4 := M.Only.cell hw' (M.Only.cell hq Y3 (fun h => h)) (fun h => h); have e5 := M.Only.cell hw' (M.Only.cell hq Y4 (fun h => h)) (fun h => h); have e6 := M.Only.cell hw' (M.Only.cell hq Y5 (fun h => h)) (fun h => h); go_simp; (try with_reducible rfl))
              refine wpAnyT_take 19 (v := ?_) rfl (by kernel_rfl) (by kernel_rfl) (by kernel_rfl) (fun _ _ _ h => h) (by kernel_rfl) (by kernel_rfl) (Or.inl ⟨by kernel_rfl, ?_⟩) (Only.refl Nil _) ?_
              rotate_left
              · (intro w' hw'; have e0 := M.Only.cell hw' (M.Only.cell hq x3' (fun h => h)) (fun h => h); have e1 := M.Only.cell hw' (M.Only.cell hq Y1 (fun h => h)) (fun h => h); have e2 := M.Only.cell hw' (M.Only.cell hq xf0 (fun h => h)) (fun h => h); have e3 := M.Only.cell hw' (M.Only.cell hq Y2 (fun h => h)) (fun h => h); have e4 := M.Only.cell hw' (M.Only.cell hq Y3 (fun h => h)) (fun h => h); have e5 := M.Only.cell hw' (M.Only.cell hq Y4 (fun h => h)) (fun h => h); have e6 := M.Only.cell hw' (M.Only.cell hq Y5 (fun h => h)) (fun h => h); go_simp; (try with_reducible rfl))
              refine wpAnyT_take 20 (v := ?_) rfl (by kernel_rfl) (by kernel_rfl) (by kernel_rfl) (fun _ _ _ h => h) (by kernel_rfl) (by kernel_rfl) (Or.inl ⟨by kernel_rfl, ?_⟩) (Only.refl Nil _) ?_
              rotate_left
              · (intro w' hw'; have e0 := M.Only.cell hw' (M.Only.cell hq x3' (fun h => h)) (fun h => h); have e1 := M.Only.cell hw' (M.Only.cell hq Y1 (fun h => h)) (fun h => h); have e2 := M.Only.cell hw' (M.Only.cell hq xf0 (fun h => h)) (fun h => h); have e3 := M.Only.cell hw' (M.Only.cell hq Y2 (fun h => h)) (fun h => h); have e4 := M.Only.cell hw' (M.Only.cell hq Y3 (fun h => h)) (fun h => h); have e5 := M.Only.cell hw' (M.Only.cell hq Y4 (fun h => h)) (fun h => h); have e6 := M.Only.cell hw' (M.Only.cell hq Y5 (fun h => h)) (fun h => h); go_simp; (try with_reducible rfl))
              refine wpAnyT_two (i := 5) (j := 21) rfl rfl (by kernel_rfl) (fun K hK => ?_) (fun K hK => ?_)
              · go_simp
                refine hK.out _ _ (fun _ => (Only.refl Nil wd).alloc _) ?_
                clear hK K
                have q_a := Blk.new wd #[.int .u8 (97 + (k : Int))] 5
                have ho1x := alloc0 wd (.cells #[.int .u8 (97 + (k : Int))] 5)
                obtain ⟨b_a, hb_a⟩ : ∃ z, wd.heap.size = z := ⟨_, rfl⟩
                have g_a : w2.heap.size ≤ b_a := by rw [← hb_a]; exact hq.size
                have l_a : b_a < (wd.alloc (.cells #[.int .u8 (97 + (k : Int))] 5)).heap.size := by rw [← hb_a]; simp
                obtain ⟨w1x, hw1x⟩ : ∃ z, wd.alloc (.cells #[.int .u8 (97 + (k : Int))] 5) = z := ⟨_, rfl⟩
                rw [hb_a] at q_a ⊢
                rw [hw1x] at q_a ho1x l_a   ⊢
                clear hb_a hw1x
                refine wpAnyT_sub (S' := fun w' => Only Nil w1x w') (fun _ h => Nil.trans ho1x h) ?_
                replace hq := Nil.trans hq ho1x
                clear ho1x
                refine wpAnyT_take 6 (v := ?_) rfl (by kernel_rfl) (by kernel_rfl) (by kernel_rfl) (fun _ _ _ h => h) (by kernel_rfl) (by kernel_rfl) (Or.inl ⟨by kernel_rfl, ?_⟩) (Only.refl Nil _) ?_
                rotate_left
                · (intro w' hw'; have cv := conv_blk (c := 97 + k) (by have h := q_a.kept hw' (fun h => h); rwa [HCK.out] at h); rw [HS.out] at cv; go_simp; (try with_reducible rfl))
                refine wpAnyT_take 7 (v := ?_) rfl (by kernel_rfl) (by kernel_rfl) (by kernel_rfl) (fun _ _ _ h => h) (by kernel_rfl) (by kernel_rfl) (Or.inl ⟨by kernel_rfl, ?_⟩) (Only.refl Nil _) ?_
                rotate_left
                · (intro w' hw'; go_simp; (try with_reducible rfl))
                refine wpAnyT_one (i := 21) rfl (by kernel_rfl) (fun K hK => ?_)
                go_simp
                go_wp2_with (go_at_call 16; refine (HCT.out _ hq).mono ?_; rintro e w2x ⟨tt, ovT, rfl, hTT0, hTN, ho2x⟩; have HTN := Lib.hid hTN; have hTT : TyS (fun q => Off mb rb q ∧ q < w2x.heap.size ∧ (Value.slice aoL nL capL).ownBlock ≠ some q) w2x ovT tt.of := hTT0.lts.mono (fun q hq3 => tt_class HRBX.out HOWN.out (Only.refl Nil w2) hq hq3.1 hq3.2); clear hTT0 hTN; obtain ⟨aoT, capT, eT⟩ := hTT.slice; obtain ⟨nT, hnT⟩ : ∃ z, tt.of.length = z := ⟨_, rfl⟩; rw [hnT] at eT; subst eT)
                refine hK.out _ _ (fun _ => ho2x) ?_
                clear hK K
                replace q_a := q_a.kept ho2x (fun h => h)
                replace l_a := Nat.lt_of_lt_of_le l_a ho2x.size
                refine wpAnyT_sub (S' := fun w' => Only Nil w2x w') (fun _ h => Nil.trans ho2x h) ?_
                replace hq := Nil.trans hq ho2x
                clear ho2x
                refine wpAnyT_take 22 (v := ?_) rfl (by kernel_rfl) (by kernel_rfl) (by kernel_rfl) (fun _ _ _ h => h) (by kernel_rfl) (by kernel_rfl) (Or.inl ⟨by kernel_rfl, ?_⟩) (Only.refl Nil _) ?_
                rotate_left
                · (intro w' hw'; go_simp; (try with_reducible rfl))
                refine wpAnyT_one (i := 23) rfl (by kernel_rfl) (fun K hK => ?_)
                go_simp
                refine hK.out _ _ (fun _ => (Only.refl Nil w2x).alloc _) ?_
                clear hK K
                have h78 : Only Nil w2 w2x := hq
                have hT8 := hTT
                obtain ⟨g9, cap9, w9, hrun, hown9, hmv, ho9⟩ := run_append_new (P := Tryd.prog) (w := w2x) (rb + 1) 33 33 47 iV zV 6 80 1 Tryd.underlying33 hiV hV0 hV1 hV2 hV3 (by decide) (by decide) (.slice aoL nL capL) nL xsL (ownsRow_only HOWN.out h78 (fun _ _ h => h)) #[.string (⟨#[102]⟩ ++ S), .bool false, .int .i64 tt.form, .int .i64 tt.n, .string tt.name, (.slice aoT nT capT)] rfl (by simp [Value.oneCell'])
                  (by unfold maxLen; have := HNL.out; omega) (by have := HNL.out; omega) (Nat.le_trans HRB.out h78.size)
                refine wpAnyT_one (i := 24) rfl (by kernel_rfl) (fun K hK => ?_)
                rw [if_pos (by kernel_rfl)]
                refine operWp_append (v := .slice aoL nL capL) (u := .slice (some ⟨w2x.heap.size, 0, none⟩) 1 1) (.tmp 59) (.tmp 81) 33 rfl (by kernel_rfl) (by kernel_rfl) hrun ?_
                refine hK.out _ _ (fun h => by cases h) ?_
                clear hK K hrun
                have hrb9 : ¬ Own (Value.slice aoL nL capL).ownBlock rb := fun h => by have := (HOWN.out.lt rb h.symm).1; omega
                have hB9 := (HBR.out.kept h78 (fun h => h)).kept ho9 hrb9
                have hrow9 : VrRowC (Off mb rb) (rb + 1) w9 (.slice (some ⟨g9, 0, none⟩) (nL + 1) cap9) (LL ++ [⟨⟨#[102]⟩ ++ S, false, tt⟩]) :=
                  VrRowC.push HLL.out HOWN.out HNM.out HMM.out h78 (hT8.mono (fun k hk => hk)) ⟨by rw [ByteArray.size_append, HCS.out]; show 1 + 1 ≤ maxLen; decide, HTN.out⟩ hown9 hmv ho9
                obtain ⟨⟨z0, z1, z2, z3⟩, zf0, zf1, zf2, zf3⟩ := hB9.Fours
                refine wpAnyT_one (i := 25) rfl (by kernel_rfl) (fun K hK => ?_)
                go_simp
                refine hK.out _ _ (fun h => by cases h) ?_
                clear hK K
                refine wpAnyT_one (i := 26) rfl (by kernel_rfl) (fun K hK => ?_)
                go_simp
                refine hK.out _ _ (fun h => by cases h) ?_
                clear hK K
                refine wpAnyT_done (by kernel_rfl) ?_
                have hBz := hB9.setCell 3 (.slice (some ⟨g9, 0, none⟩) (nL + 1) cap9)
                simp only [List.setIfInBounds_toArray, List.set_cons_zero, List.set_cons_succ] at hBz
                have hoz : Only (M.One rb) w9 (w9.setCell ⟨rb, 3, none⟩ (.slice (some ⟨g9, 0, none⟩) (nL + 1) cap9)) := (Only.refl (M.One rb) w9).setCell' (M.One rb) rfl _
                have hrowz := hrow9.kept hoz (fun k hk h => hk.2 h) (fun k hk _ h => by have : k = rb := h; omega)
                have hOz : Only Nil w1 (w9.setCell ⟨rb, 3, none⟩ (.slice (some ⟨g9, 0, none⟩) (nL + 1) cap9)) := ((Nil.trans HO2.out h78).trans ho9 (fun b hb h => by have := (HOWN.out.lt b h.symm).1; have := HRW.out; omega)).trans hoz (fun b hb h => by have h2 : b = rb := h; have := HRW.out; omega)
                have HBZ := Lib.hid hBz
                have HROWZ := Lib.hid hrowz
                have HOZ := Lib.hid hOz
                clear hT8 hTT h78 hown9 hmv ho9 hrow9 hrb9 hB9 z0 z1 z2 z3 zf0 zf1 zf2 zf3 hBz hoz hrowz hOz
                go_wp2_with fail
                go_roundg (nf - (k + 1))
                case measure => have := HG2.out; omega
                case rel => exact ⟨k + 1, _, _, rfl, by omega, rfl, by rw [List.length_append, HLL.out, HLK.out]; rfl, by omega, HOZ.out, HBZ.out, HROWZ.out⟩
              · go_simp
                go_wp2_with (go_at_call 16; refine (HCT.out _ hq).mono ?_; rintro e w1x ⟨tt, ovT, rfl, hTT0, hTN, ho1x⟩; have HTN := Lib.hid hTN; have hTT : TyS (fun q => Off mb rb q ∧ q < w1x.heap.size ∧ (Value.slice aoL nL capL).ownBlock ≠ some q) w1x ovT tt.of := hTT0.lts.mono (fun q hq3 => tt_class HRBX.out HOWN.out (Only.refl Nil w2) hq hq3.1 hq3.2); clear hTT0 hTN; obtain ⟨aoT, capT, eT⟩ := hTT.slice; obtain ⟨nT, hnT⟩ : ∃ z, tt.of.length = z := ⟨_, rfl⟩; rw [hnT] at eT; subst eT)
                refine hK.out _ _ (fun _ => ho1x) ?_
                clear hK K
                refine wpAnyT_sub (S' := fun w' => Only Nil w1x w') (fun _ h => Nil.trans ho1x h) ?_
                replace hq := Nil.trans hq ho1x
                clear ho1x
                refine wpAnyT_one (i := 5) rfl (by kernel_rfl) (fun K hK => ?_)
                go_simp
                refine hK.out _ _ (fun _ => (Only.refl Nil w1x).alloc _) ?_
                clear hK K
                have q_a := Blk.new w1x #[.int .u8 (97 + (k : Int))] 5
                have ho2x := alloc0 w1x (.cells #[.int .u8 (97 + (k : Int))] 5)
                replace hTT := tt_go hTT ho2x
                obtain ⟨b_a, hb_a⟩ : ∃ z, w1x.heap.size = z := ⟨_, rfl⟩
                have g_a : w2.heap.size ≤ b_a := by rw [← hb_a]; exact hq.size
                have l_a : b_a < (w1x.alloc (.cells #[.int .u8 (97 + (k : Int))] 5)).heap.size := by rw [← hb_a]; simp
                obtain ⟨w2x, hw2x⟩ : ∃ z, w1x.alloc (.cells #[.int .u8 (97 + (k : Int))] 5) = z := ⟨_, rfl⟩
                rw [hb_a] at q_a ⊢
                rw [hw2x] at q_a ho2x l_a hTT  ⊢
                clear hb_a hw2x
                refine wpAnyT_sub (S' := fun w' => Only Nil w2x w') (fun _ h => Nil.trans ho2x h) ?_
                replace hq := Nil.trans hq ho2x
                clear ho2x
                refine wpAnyT_take 6 (v := ?_) rfl (by kernel_rfl) (by kernel_rfl) (by kernel_rfl) (fun _ _ _ h => h) (by kernel_rfl) (by kernel_rfl) (Or.inl ⟨by kernel_rfl, ?_⟩) (Only.refl Nil _) ?_
                rotate_left
                · (intro w' hw'; have cv := conv_blk (c := 97 + k) (by have h := q_a.kept hw' (fun h => h); rwa [HCK.out] at h); rw [HS.out] at cv; go_simp; (try with_reducible rfl))
                refine wpAnyT_take 7 (v := ?_) rfl (by kernel_rfl) (by kernel_rfl) (by kernel_rfl) (fun _ _ _ h => h) (by kernel_rfl) (by kernel_rfl) (Or.inl ⟨by kernel_rfl, ?_⟩) (Only.refl Nil _) ?_
                rotate_left
                · (intro w' hw'; go_simp; (try with_reducible rfl))
                refine wpAnyT_take 22 (v := ?_) rfl (by kernel_rfl) (by kernel_rfl) (by kernel_rfl) (fun _ _ _ h => h) (by kernel_rfl) (by kernel_rfl) (Or.inl ⟨by kernel_rfl, ?_⟩) (Only.refl Nil _) ?_
                rotate_left
                · (intro w' hw'; go_simp; (try with_reducible rfl))
                refine wpAnyT_one (i := 23) rfl (by kernel_rfl) (fun K hK => ?_)
                go_simp
                refine hK.out _ _ (fun _ => (Only.refl Nil w2x).alloc _) ?_
                clear hK K
                have h78 : Only Nil w2 w2x := hq
                have hT8 := hTT
                obtain ⟨g9, cap9, w9, hrun, hown9, hmv, ho9⟩ := run_append_new (P := Tryd.prog) (w := w2x) (rb + 1) 33 33 47 iV zV 6 80 1 Tryd.underlying33 hiV hV0 hV1 hV2 hV3 (by decide) (by decide) (.slice aoL nL capL) nL xsL (ownsRow_only HOWN.out h78 (fun _ _ h => h)) #[.string (⟨#[102]⟩ ++ S), .bool false, .int .i64 tt.form, .int .i64 tt.n, .string tt.name, (.slice aoT nT capT)] rfl (by simp [Value.oneCell'])
                  (by unfold maxLen; have := HNL.out; omega) (by have := HNL.out; omega) (Nat.le_trans HRB.out h78.size)
                refine wpAnyT_one (i := 24) rfl (by kernel_rfl) (fun K hK => ?_)
                rw [if_pos (by kernel_rfl)]
                refine operWp_append (v := .slice aoL nL capL) (u := .slice (some ⟨w2x.heap.size, 0, none⟩) 1 1) (.tmp 59) (.tmp 81) 33 rfl (by kernel_rfl) (by kernel_rfl) hrun ?_
                refine hK.out _ _ (fun h => by cases h) ?_
                clear hK K hrun
                have hrb9 : ¬ Own (Value.slice aoL nL capL).ownBlock rb := fun h => by have := (HOWN.out.lt rb h.symm).1; omega
                have hB9 := (HBR.out.kept h78 (fun h => h)).kept ho9 hrb9
                have hrow9 : VrRowC (Off mb rb) (rb + 1) w9 (.slice (some ⟨g9, 0, none⟩) (nL + 1) cap9) (LL ++ [⟨⟨#[102]⟩ ++ S, false, tt⟩]) :=
                  VrRowC.push HLL.out HOWN.out HNM.out HMM.out h78 (hT8.mono (fun k hk => hk)) ⟨by rw [ByteArray.size_append, HCS.out]; show 1 + 1 ≤ maxLen; decide, HTN.out⟩ hown9 hmv ho9
                obtain ⟨⟨z0, z1, z2, z3⟩, zf0, zf1, zf2, zf3⟩ := hB9.Fours
                refine wpAnyT_one (i := 25) rfl (by kernel_rfl) (fun K hK => ?_)
                go_simp
                refine hK.out _ _ (fun h => by cases h) ?_
                clear hK K
                refine wpAnyT_one (i := 26) rfl (by kernel_rfl) (fun K hK => ?_)
                go_simp
                refine hK.out _ _ (fun h => by cases h) ?_
                clear hK K
                refine wpAnyT_done (by kernel_rfl) ?_
                have hBz := hB9.setCell 3 (.slice (some ⟨g9, 0, none⟩) (nL + 1) cap9)
                simp only [List.setIfInBounds_toArray, List.set_cons_zero, List.set_cons_succ] at hBz
                have hoz : Only (M.One rb) w9 (w9.setCell ⟨rb, 3, none⟩ (.slice (some ⟨g9, 0, none⟩) (nL + 1) cap9)) := (Only.refl (M.One rb) w9).setCell' (M.One rb) rfl _
                have hrowz := hrow9.kept hoz (fun k hk h => hk.2 h) (fun k hk _ h => by have : k = rb := h; omega)
                have hOz : Only Nil w1 (w9.setCell ⟨rb, 3, none⟩ (.slice (some ⟨g9, 0, none⟩) (nL + 1) cap9)) := ((Nil.trans HO2.out h78).trans ho9 (fun b hb h => by have := (HOWN.out.lt b h.symm).1; have := HRW.out; omega)).trans hoz (fun b hb h => by have h2 : b = rb := h; have := HRW.out; omega)
                have HBZ := Lib.hid hBz
                have HROWZ := Lib.hid hrowz
                have HOZ := Lib.hid hOz
                clear hT8 hTT h78 hown9 hmv ho9 hrow9 hrb9 hB9 z0 z1 z2 z3 zf0 zf1 zf2 zf3 hBz hoz hrowz hOz
                go_wp2_with fail
                go_roundg (nf - (k + 1))
                case measure => have := HG2.out; omega
                case rel => exact ⟨k + 1, _, _, rfl, by omega, rfl, by rw [List.length_append, HLL.out, HLK.out]; rfl, by omega, HOZ.out, HBZ.out, HROWZ.out⟩
            · by_cases hkf : k < nf
              · have k1 : (k : Int) < (nf : Int) := by omega
                have k2 : ¬ (k : Int) < 5 := by omega
                have k3 : decide ((k : Int) < 5) = false := by simpa using k2
                clear hgo2
                have HL5 : Hid (LL.length ≤ 5) := Lib.hid (by have := HLK0.out; omega)
                have hRm := HR.out.go HO2.out
                have z0 : w2.cell? ⟨rb, 0, none⟩ = some (.string ⟨#[82]⟩) := HBR0.out.cell 0
                have z1 : w2.cell? ⟨rb, 1, none⟩ = some (.bool false) := HBR0.out.cell 1
                have z2 : w2.cell? ⟨rb, 2, none⟩ = some (.string bs) := HBR0.out.cell 2
                have hi5 : i < 6 := by omega
                have wi1 : IntKind.u8.wrap (i : Int) = (i : Int) := by simp [IntKind.wrap, IntKind.bits, IntKind.signed]; omega
                have wi2 : IntKind.i64.wrap ((i : Int) + 1) = ((i + 1 : Nat) : Int) := by rw [IntKind.wrap]; simp [IntKind.bits, IntKind.signed]; omega
                have hCb := Blk.new w2 #[.int .u8 ((48 + i : Nat) : Int)] 5
                have cvb := conv_blk hCb
                have oCb := alloc0 w2 (.cells #[.int .u8 ((48 + i : Nat) : Int)] 5)
                have cSb := ch_size (48 + i)
                obtain ⟨SC, hSC⟩ : ∃ S, ch (48 + i) = S := ⟨_, rfl⟩
                rw [hSC] at cvb cSb
                rw [show ((48 + i : Nat) : Int) = 48 + (i : Int) by simp] at cvb oCb
                have hVS : VarS (fun k => k ≠ mb) w2 lv LL := HROW2.out.varS (by have := HL5.out; omega) (fun k hk => hk.1) (fun k hk => by have := HRB2.out; omega)
                obtain ⟨aoL, capL, eL⟩ := hVS.slice
                obtain ⟨nL, hnL⟩ : ∃ z, LL.length = z := ⟨_, rfl⟩
                rw [hnL] at eL
                subst eL
                have z3 : w2.cell? ⟨rb, 3, none⟩ = some (.slice aoL nL capL) := HBR0.out.cell 3
                obtain ⟨w9, run9, hR9, o9⟩ := (hRm.go oCb).put (⟨#[77, 46, 82]⟩ ++ SC) (by rw [ByteArray.size_append, cSb]; show 3 + 1 ≤ maxLen; decide) ⟨⟨#[82]⟩, false, bs, LL⟩ ⟨HBS.out, by show 1 ≤ maxLen; decide⟩ (.slice aoL nL capL) (hVS.go oCb) (by have := HM.out; omega)
                have run9' : (Instr.mapUpdate 31 (.map (some mb)) (.string (⟨#[77, 46, 82]⟩ ++ SC)) (.agg #[.string ⟨#[82]⟩, .bool false, .string bs, .slice aoL nL capL])).run Tryd.prog (w2.alloc (.cells #[.int .u8 (48 + (i : Int))] 5)) = .ok () w9 := run9
                have hF9 : ∀ s r, updR R (⟨#[77, 46, 82]⟩ ++ SC) ⟨⟨#[82]⟩, false, bs, LL⟩ s = some r → r.fields.length ≤ 5 := by
                  intro s r h
                  unfold updR at h
                  split at h
                  · injection h with h; subst h; exact HL5.out
                  · exact HF.out s r h
                have hm9 : (if (R (⟨#[77, 46, 82]⟩ ++ SC)).isSome then m else m + 1) ≤ i + 1 := by have := HM.out; split <;> omega
                have HR9 := Lib.hid hR9
                have HF9 := Lib.hid hF9
                have HM9 := Lib.hid hm9
                have HO9 := Lib.hid (((Nil.trans HO.out HO2.out).trans ((Only.nilOf oCb).trans o9 (fun _ _ h => h)) (fun k hk h => by have h2 : k = mb := h; have := HMB.out; omega)))
                have za0 := oCb.cell z0 (fun h => h)
                have za1 := oCb.cell z1 (fun h => h)
                have za2 := oCb.cell z2 (fun h => h)
                have za3 := oCb.cell z3 (fun h => h)
                have run9 := run9'
                have CVB := cvb
                clear hRm hCb oCb hSC hVS hnL hR9 o9 hF9 hm9 run9' hrow2 hB2 ho2 hg2 hLk
                go_wp2_with fail
                go_roundg (n - (i + 1))
                case measure => have := HG.out; omega
                case rel => exact ⟨i + 1, _, _, _, rfl, by omega, by omega, rfl, HM9.out, HR9.out, HF9.out, HO9.out⟩
              · have k1 : ¬ (k : Int) < (nf : Int) := by omega
                have k3 : decide (k < nf) = false := by simpa using hkf
                clear hgo2
                have HL5 : Hid (LL.length ≤ 5) := Lib.hid (by have := HLK0.out; omega)
                have hRm := HR.out.go HO2.out
                have z0 : w2.cell? ⟨rb, 0, none⟩ = some (.string ⟨#[82]⟩) := HBR0.out.cell 0
                have z1 : w2.cell? ⟨rb, 1, none⟩ = some (.bool false) := HBR0.out.cell 1
                have z2 : w2.cell? ⟨rb, 2, none⟩ = some (.string bs) := HBR0.out.cell 2
                have hi5 : i < 6 := by omega
                have wi1 : IntKind.u8.wrap (i : Int) = (i : Int) := by simp [IntKind.wrap, IntKind.bits, IntKind.signed]; omega
                have wi2 : IntKind.i64.wrap ((i : Int) + 1) = ((i + 1 : Nat) : Int) := by rw [IntKind.wrap]; simp [IntKind.bits, IntKind.signed]; omega
                have hCb := Blk.new w2 #[.int .u8 ((48 + i : Nat) : Int)] 5
                have cvb := conv_blk hCb
                have oCb := alloc0 w2 (.cells #[.int .u8 ((48 + i : Nat) : Int)] 5)
                have cSb := ch_size (48 + i)
                obtain ⟨SC, hSC⟩ : ∃ S, ch (48 + i) = S := ⟨_, rfl⟩
                rw [hSC] at cvb cSb
                rw [show ((48 + i : Nat) : Int) = 48 + (i : Int) by simp] at cvb oCb
                have hVS : VarS (fun k => k ≠ mb) w2 lv LL := HROW2.out.varS (by have := HL5.out; omega) (fun k hk => hk.1) (fun k hk => by have := HRB2.out; omega)
                obtain ⟨aoL, capL, eL⟩ := hVS.slice
                obtain ⟨nL, hnL⟩ : ∃ z, LL.length = z := ⟨_, rfl⟩
                rw [hnL] at eL
                subst eL
                have z3 : w2.cell? ⟨rb, 3, none⟩ = some (.slice aoL nL capL) := HBR0.out.cell 3
                obtain ⟨w9, run9, hR9, o9⟩ := (hRm.go oCb).put (⟨#[77, 46, 82]⟩ ++ SC) (by rw [ByteArray.size_append, cSb]; show 3 + 1 ≤ maxLen; decide) ⟨⟨#[82]⟩, false, bs, LL⟩ ⟨HBS.out, by show 1 ≤ maxLen; decide⟩ (.slice aoL nL capL) (hVS.go oCb) (by have := HM.out; omega)
                have run9' : (Instr.mapUpdate 31 (.map (some mb)) (.string (⟨#[77, 46, 82]⟩ ++ SC)) (.agg #[.string ⟨#[82]⟩, .bool false, .string bs, .slice aoL nL capL])).run Tryd.prog (w2.alloc (.cells #[.int .u8 (48 + (i : Int))] 5)) = .ok () w9 := run9
                have hF9 : ∀ s r, updR R (⟨#[77, 46, 82]⟩ ++ SC) ⟨⟨#[82]⟩, false, bs, LL⟩ s = some r → r.fields.length ≤ 5 := by
                  intro s r h
                  unfold updR at h
                  split at h
                  · injection h with h; subst h; exact HL5.out
                  · exact HF.out s r h
                have hm9 : (if (R (⟨#[77, 46, 82]⟩ ++ SC)).isSome then m else m + 1) ≤ i + 1 := by have := HM.out; split <;> omega
                have HR9 := Lib.hid hR9
                have HF9 := Lib.hid hF9
                have HM9 := Lib.hid hm9
                have HO9 := Lib.hid (((Nil.trans HO.out HO2.out).trans ((Only.nilOf oCb).trans o9 (fun _ _ h => h)) (fun k hk h => by have h2 : k = mb := h; have := HMB.out; omega)))
                have za0 := oCb.cell z0 (fun h => h)
                have za1 := oCb.cell z1 (fun h => h)
                have za2 := oCb.cell z2 (fun h => h)
                have za3 := oCb.cell z3 (fun h => h)
                have run9 := run9'
                have CVB := cvb
                clear hRm hCb oCb hSC hVS hnL hR9 o9 hF9 hm9 run9' hrow2 hB2 ho2 hg2 hLk
                go_wp2_with fail
                go_roundg (n - (i + 1))
                case measure => have := HG.out; omega
                case rel => exact ⟨i + 1, _, _, _, rfl, by omega, by omega, rfl, HM9.out, HR9.out, HF9.out, HO9.out⟩
    · by_cases h1 : i < n
      · have i1 : (i : Int) < (n : Int) := by omega
        have i2 : ¬ (i : Int) < 6 := by omega
        have i3 : decide ((i : Int) < 6) = false := by simpa using i2
        clear hgo
        obtain ⟨w9, hw9⟩ : ∃ z, w1 = z := ⟨_, rfl⟩
        clear hw9
        go_wp2_with fail
        go_ret
        exact ⟨mb, m, R, fv, rfl, HR.out, by have := HM.out; have := HI6.out; omega, HF.out, HO.out⟩
      · have i1 : ¬ (i : Int) < (n : Int) := by omega
        have i3 : decide (i < n) = false := by simpa using h1
        clear hgo
        obtain ⟨w9, hw9⟩ : ∃ z, w1 = z := ⟨_, rfl⟩
        clear hw9
        go_wp2_with fail
        go_ret
        exact ⟨mb, m, R, fv, rfl, HR.out, by have := HM.out; have := HI6.out; omega, HF.out, HO.out⟩
end Go.Proofs.YtcbeibhmjokecaaDoor

/- A slice of types in a block of its own. -/
set_option linter.unusedSimpArgs false
set_option linter.unusedVariables false
namespace Go.Proofs.YtcbeibhmjokecaaDoor
open Go.RowKit M

def flatT (ovs : Nat → Value) : Nat → List Ty → List Value
  | _, [] => []
  | i, x :: l => tyCells x (ovs i) ++ flatT ovs (i + 1) l
theorem flatT_get (ovs : Nat → Value) : ∀ (l : List Ty) (k i : Nat) (x : Ty), l[i]? = some x → ∀ j u, (tyCells x (ovs (k + i)))[j]? = some u → (flatT ovs k l)[i * 4 + j]? = some u
  | [], _, _, _, h, _, _, _ => by simp at h
  | y :: l, k, 0, x, h, j, u, hu => by
    simp only [List.getElem?_cons_zero, Option.some.injEq] at h
    subst h
    rw [Nat.add_zero] at hu
    have hj := (List.getElem?_eq_some_iff.1 hu).1
    unfold flatT
    rw [Nat.zero_mul, Nat.zero_add, List.getElem?_append_left hj]
    exact hu
  | y :: l, k, i + 1, x, h, j, u, hu => by
    simp only [List.getElem?_cons_succ] at h
    have h2 := flatT_get ovs l (k + 1) i x h j u (by rw [show k + 1 + i = k + (i + 1) by omega]; exact hu)
    unfold flatT
    rw [List.getElem?_append_right (by rw [tyCells_len]; omega), tyCells_len, show (i + 1) * 4 + j - 4 = i * 4 + j by omega]
    exact h2
theorem TyS.of_blk {w : World} {b : Nat} {t : TypeId} (L : List Ty) (ovs : Nat → Value) (hB : Blk w b (flatT ovs 0 L).toArray t) (hT : ∀ i x, L[i]? = some x → TyS Any w (ovs i) x.of) (hx : ∀ x ∈ L, x.name.size ≤ maxLen) (hL : L.length * 56 ≤ 140737488355328) : TyS Any w (.slice (some ⟨b, 0, none⟩) L.length L.length) L := by
  refine TyS.mk L _ _ 0 b ovs (fun _ => rfl) (fun h => by cases h) (fun _ => trivial) hL hx (fun i t hi j u hu => ?_) (fun i t hi => hT i t hi)
  rw [Nat.zero_add, hB.cell, List.getElem?_toArray]
  exact flatT_get ovs L 0 i t hi j u (by rw [Nat.zero_add]; exact hu)
theorem TyS.inv {U : Nat → Prop} {w : World} {v : Value} {l : List Ty} (h : TyS U w v l) : ∃ (ao : Option Addr) (cap off b : Nat) (ovs : Nat → Value), v = .slice ao l.length cap ∧ (0 < l.length → ao = some ⟨b, off, none⟩) ∧ (∀ t ∈ l, t.name.size ≤ maxLen) ∧ (∀ i t, l[i]? = some t → At w b (off + i * 4) (tyCells t (ovs i))) ∧ ∀ i t, l[i]? = some t → TyS U w (ovs i) t.of := by
  obtain ⟨l, ao, cap, off, b, ovs, h0, h1, hb, hn, hs, hc, hr⟩ := h
  exact ⟨ao, cap, off, b, ovs, rfl, h0, hs, hc, hr⟩
/-- Six types in a block of their own. -/
theorem six_of {w : World} {b : Nat} {t : TypeId} {t0 t1 t2 t3 t4 t5 : Ty} {v0 v1 v2 v3 v4 v5 : Value} (hB : Blk w b (tyCells t0 v0 ++ (tyCells t1 v1 ++ (tyCells t2 v2 ++ (tyCells t3 v3 ++ (tyCells t4 v4 ++ (tyCells t5 v5 ++ [])))))).toArray t)
    (h0 : TyS Any w v0 t0.of) (h1 : TyS Any w v1 t1.of) (h2 : TyS Any w v2 t2.of) (h3 : TyS Any w v3 t3.of) (h4 : TyS Any w v4 t4.of) (h5 : TyS Any w v5 t5.of)
    (n0 : t0.name.size ≤ maxLen) (n1 : t1.name.size ≤ maxLen) (n2 : t2.name.size ≤ maxLen) (n3 : t3.name.size ≤ maxLen) (n4 : t4.name.size ≤ maxLen) (n5 : t5.name.size ≤ maxLen) : TyS Any w (.slice (some ⟨b, 0, none⟩) 6 6) [t0, t1, t2, t3, t4, t5] := by
  refine TyS.of_blk [t0, t1, t2, t3, t4, t5] (fun i => if i = 0 then v0 else if i = 1 then v1 else if i = 2 then v2 else if i = 3 then v3 else if i = 4 then v4 else v5) hB (fun i x hi => ?_) (fun x hx => ?_) (by show 6 * 56 ≤ _; decide)
  · match i, hi with
    | 0, hi => simp only [List.getElem?_cons_zero, Option.some.injEq] at hi; subst hi; exact h0
    | 1, hi => simp only [List.getElem?_cons_zero, List.getElem?_cons_succ, Option.some.injEq] at hi; subst hi; exact h1
    | 2, hi => simp only [List.getElem?_cons_zero, List.getElem?_cons_succ, Option.some.injEq] at hi; subst hi; exact h2
    | 3, hi => simp only [List.getElem?_cons_zero, List.getElem?_cons_succ, Option.some.injEq] at hi; subst hi; exact h3
    | 4, hi => simp only [List.getElem?_cons_zero, List.getElem?_cons_succ, Option.some.injEq] at hi; subst hi; exact h4
    | 5, hi => simp only [List.getElem?_cons_zero, List.getElem?_cons_succ, Option.some.injEq] at hi; subst hi; exact h5
    | i + 6, hi => simp at hi
  · simp only [List.mem_cons, List.not_mem_nil, or_false] at hx
    rcases hx with rfl | rfl | rfl | rfl | rfl | rfl <;> assumption
end Go.Proofs.YtcbeibhmjokecaaDoor

