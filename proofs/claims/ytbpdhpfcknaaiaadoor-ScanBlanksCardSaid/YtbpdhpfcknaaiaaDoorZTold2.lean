/- Symbols: both sides tell the same. -/
import Derived.Test.YtbpdhpfcknaaiaaDoorZRScan
import Derived.Deep.QuietTactic
import Derived.BigQuiet
set_option linter.unusedSimpArgs false
set_option linter.unusedVariables false
namespace Go.Proofs.YtbpdhpfcknaaiaaDoor
open Go.RowKit M

theorem M.Only.drewN {S : Nat → Prop} {a w : World} (h : Only S a w) (q : Nat) : Only S a (w.drewN q) := ⟨h.os, h.tape, h.output, h.size, h.block⟩
theorem tokCells_get (s : ByteArray) (L : List Tk) : ∀ (k : Nat) (x : Tk), L[k]? = some x →
    (tokCells s L)[k * 5]? = some (.int .i64 (x.kind : Nat)) ∧ (tokCells s L)[k * 5 + 1]? = some (.int .i64 (x.pos : Nat)) ∧ (tokCells s L)[k * 5 + 2]? = some (.int .i64 (x.fin : Nat)) ∧ (tokCells s L)[k * 5 + 3]? = some (.string (s.extract x.a x.b)) ∧ (tokCells s L)[k * 5 + 4]? = some (.int .i32 x.num) := by
  induction L with
  | nil => intro k x h; simp at h
  | cons y L ih =>
    intro k x h
    have e : tokCells s (y :: L) = (tokC s y).toList ++ tokCells s L := rfl
    rw [e]
    cases k with
    | zero => simp only [List.getElem?_cons_zero, Option.some.injEq] at h; subst h; exact ⟨rfl, rfl, rfl, rfl, rfl⟩
    | succ k =>
      have := ih k x (by simpa using h)
      have hl : (tokC s y).toList.length = 5 := rfl
      rw [List.getElem?_append_right (by rw [hl]; omega), List.getElem?_append_right (by rw [hl]; omega), List.getElem?_append_right (by rw [hl]; omega), List.getElem?_append_right (by rw [hl]; omega), List.getElem?_append_right (by rw [hl]; omega), hl]
      rw [show (k + 1) * 5 - 5 = k * 5 by omega, show (k + 1) * 5 + 1 - 5 = k * 5 + 1 by omega, show (k + 1) * 5 + 2 - 5 = k * 5 + 2 by omega, show (k + 1) * 5 + 3 - 5 = k * 5 + 3 by omega, show (k + 1) * 5 + 4 - 5 = k * 5 + 4 by omega]
      exact this
/-- Symbols that are read. -/
def TAt (w : World) (b off : Nat) (s : ByteArray) (L : List Tk) : Prop := ∀ (k : Nat) (x : Tk), L[k]? = some x →
  w.cell? ⟨b, off + k * 5, none⟩ = some (.int .i64 (x.kind : Nat)) ∧ w.cell? ⟨b, off + k * 5 + 1, none⟩ = some (.int .i64 (x.pos : Nat)) ∧ w.cell? ⟨b, off + k * 5 + 2, none⟩ = some (.int .i64 (x.fin : Nat)) ∧ w.cell? ⟨b, off + k * 5 + 3, none⟩ = some (.string (s.extract x.a x.b)) ∧ w.cell? ⟨b, off + k * 5 + 4, none⟩ = some (.int .i32 x.num)
def TSrc (w : World) (b : Nat) (v : Value) (s : ByteArray) (L : List Tk) : Prop :=
  ∃ ao cap off, v = .slice ao L.length cap ∧ L.length ≤ cap ∧ cap ≤ maxLen ∧ (0 < L.length → ao = some ⟨b, off, none⟩) ∧ TAt w b off s L
theorem TAt.kept {S : Nat → Prop} {w w' : World} {b off : Nat} {s : ByteArray} {L : List Tk} (h : TAt w b off s L) (ho : Only S w w') (hb : ¬ S b) : TAt w' b off s L :=
  fun k x hk => by
    obtain ⟨h1, h2, h3, h4, h5⟩ := h k x hk
    exact ⟨ho.cell h1 hb, ho.cell h2 hb, ho.cell h3 hb, ho.cell h4 hb, ho.cell h5 hb⟩
theorem TSrc.kept {w w' : World} {b : Nat} {v : Value} {s : ByteArray} {L : List Tk} (h : TSrc w b v s L) (ho : Only Nil w w') : TSrc w' b v s L := by
  obtain ⟨ao, cap, off, h1, h2, h3, h4, h5⟩ := h
  exact ⟨ao, cap, off, h1, h2, h3, h4, h5.kept ho (fun h => h)⟩
theorem TSrc.of_own {w : World} {base : Nat} {e : TypeId} {v : Value} {n : Nat} {s : ByteArray} {L : List Tk} (h : w.ownsRow base e 5 v n (tokCells s L)) : TSrc w (v.ownBlock.getD 0) v s L := by
  have hl : L.length = n := by have := h.1; rw [tokCells_len] at this; omega
  rcases h.2 with ⟨rfl, h0⟩ | ⟨g, cap, cur, rfl, hb, hg, hnc, hcm, hcs, ht⟩
  · have hL : L = [] := List.eq_nil_of_length_eq_zero (by omega)
    subst hL
    exact ⟨none, 0, 0, rfl, Nat.le_refl _, Nat.zero_le _, fun h => by simp at h, fun k c hk => by simp at hk⟩
  · refine ⟨some ⟨g, 0, none⟩, cap, 0, by rw [hl], by omega, hcm, fun _ => rfl, fun k x hk => ?_⟩
    have hk2 := (List.getElem?_eq_some_iff.1 hk).1
    have h2 := tokCells_get s L k x hk
    have hc := fun i hi => World.ownsRow.cellAt (w := w) (base := base) (e := e) (size := 5) (g := g) (n := n) (cap := cap) (xs := tokCells s L) h i hi
    simp only [Value.ownBlock, Option.getD_some, Nat.zero_add]
    rw [hc (k * 5) (by omega), hc (k * 5 + 1) (by omega), hc (k * 5 + 2) (by omega), hc (k * 5 + 3) (by omega), hc (k * 5 + 4) (by omega)]
    exact h2

set_option maxRecDepth 10000 in
set_option maxHeartbeats 1600000 in
theorem tokens_same (b1 b2 : Nat) (s1 s2 : Value) (s : ByteArray) (L : List Tk) (w : World) (h1 : TSrc w b1 s1 s L) (h2 : TSrc w b2 s2 s L) (hl : L.length ≤ 1000000) :
    Calls Tryd.prog 13 #[s1, s2] w fun e w' => e = .returned (.bool true) ∧ Only Nil w w' := by
  obtain ⟨n, hn⟩ : ∃ n, L.length = n := ⟨_, rfl⟩
  obtain ⟨ao1, cap1, off1, rfl, p2, p3, p4, p5⟩ := h1
  obtain ⟨ao2, cap2, off2, rfl, q2, q3, q4, q5⟩ := h2
  rw [hn] at p2 p4 q2 q4 hl ⊢
  have HN := Lib.hid hn
  have H1 := Lib.hid p5
  have H2 := Lib.hid q5
  have G1 := Lib.hid p4
  have G2 := Lib.hid q4
  unfold maxLen at p3 q3
  clear hn p4 p5 q4 q5
  go_enter Tryd.func13, Tryd.ntmps13
  go_wp2_with fail
  go_loopg [5] n (fun m i wr => m ≤ n ∧ i = .int .i64 ((n - m : Nat) : Int) ∧ Only Nil w wr)
  case atStart => exact ⟨Nat.le_refl _, by simp, Only.refl _ _⟩
  case round =>
    obtain ⟨hm, rfl, ho⟩ := hrel
    obtain ⟨m, rfl⟩ : ∃ m, m = gk := ⟨gk, rfl⟩
    obtain ⟨k, hk⟩ : ∃ k, n - m = k := ⟨_, rfl⟩
    rw [hk]
    have hkn : k ≤ n := by omega
    have HK := Lib.hid hk
    clear hk
    by_cases hkl : k < n
    · have hkl2 : k < L.length := by rw [HN.out]; exact hkl
      have hat : L[k]? = some L[k] := List.getElem?_eq_getElem hkl2
      obtain ⟨y, hy⟩ : ∃ y, L[k] = y := ⟨_, rfl⟩
      rw [hy] at hat
      have e1 := G1.out (by omega)
      have e2 := G2.out (by omega)
      subst e1
      subst e2
      obtain ⟨r0, r1, r2, r3, r4⟩ := (H1.out.kept ho (fun h => h)) k y hat
      obtain ⟨t0, t1, t2, t3, t4⟩ := (H2.out.kept ho (fun h => h)) k y hat
      obtain ⟨z, hz⟩ : ∃ z, s.extract y.a y.b = z := ⟨_, rfl⟩
      rw [hz] at r3 t3
      obtain ⟨kind, pos, fin, ya, yb, num⟩ := y
      simp only at r0 r1 r2 r4 t0 t1 t2 t4
      have k0 : (0 : Int) ≤ (k : Int) := Int.natCast_nonneg _
      have k1 : (k : Int) < (n : Int) := by omega
      clear hat hy hkl2 hz
      go_wp2_with fail
      go_quiet (fail)
      go_wp2_with fail
      go_roundg (m - 1)
      case measure => have := HK.out; omega
      case rel => exact ⟨by omega, by have := HK.out; go_num, M.Only.drewN ho _⟩
    · have hkl2 : k = n := by omega
      subst hkl2
      go_wp2_with fail
      go_ret
      exact ⟨rfl, ho⟩
end Go.Proofs.YtbpdhpfcknaaiaaDoor

/- Symbols: told is true of any text. -/
set_option linter.unusedSimpArgs false
set_option linter.unusedVariables false
namespace Go.Proofs.YtbpdhpfcknaaiaaDoor
open Go.RowKit M

theorem scanS_len (t : Txt) (kw) : ∀ k i L, scanS t kw k i = .ok L → L.length ≤ k
  | 0, i, L, h => by cases h
  | k + 1, i, L, h => by
    rw [scanS] at h
    split at h
    · cases h
    split at h
    · injection h with h; subst h; show 1 ≤ k + 1; omega
    · cases hs : symS t (skipE t i).1 with
      | error e => rw [hs] at h; cases h
      | ok x =>
        rw [hs] at h
        simp only at h
        cases hk : scanS t kw k x.fin with
        | error e => rw [hk] at h; cases h
        | ok l => rw [hk] at h; injection h with h; subst h; have := scanS_len t kw k x.fin l hk; show l.length + 1 ≤ k + 1; omega
theorem allS_ok (s : ByteArray) (n : Nat) (hn : s.size = n) (L) (h : allS s = .ok L) : L.length ≤ n + 1 := by
  unfold allS at h
  split at h
  · cases h
  · have := scanS_len _ _ _ _ _ h; rw [show (tx s).n = n from hn] at this; omega
theorem allS_err (s : ByteArray) (e) (h : allS s = .error e) : e.2 = 30 ∨ e.2 = 34 := by
  unfold allS at h
  split at h
  · injection h with h; subst h; exact .inr rfl
  · exact scanE_err _ _ _ _ (Nat.zero_le _) h

set_option maxRecDepth 10000 in
set_option maxHeartbeats 1600000 in
theorem told_any (s : ByteArray) (n : Nat) (hn : s.size = n) (hb : n ≤ 900000) (w : World) (hA : Asc w) :
    Calls Tryd.prog 7 #[.string s] w fun e w' => e = .returned (.bool true) ∧ Only Nil w w' := by
  have c1 := all_any s n hn (by omega) w hA
  have c2 := fun w => scanR_any s n hn (by omega) w
  cases hr : allS s with
  | error pk =>
    obtain ⟨p, k⟩ := pk
    have hk := allS_err s _ hr
    rw [hr] at c1 c2
    have hk0 : ((k : Int) == 0) = false := not_beq (by simp only at hk; omega)
    clear hr hk
    go_enter Tryd.func7, Tryd.ntmps7
    go_wp2_with fail
    refine c1.mono ?_
    rintro e w1 ⟨⟨b, rfl, d0, d1⟩, ho1⟩
    go_wp2_with fail
    refine (c2 _).mono ?_
    rintro e w2 ⟨rfl, ho2⟩
    have q0 := ho2.cell d0 (fun h => h)
    have q1 := ho2.cell d1 (fun h => h)
    have HO := Lib.hid (ho1.trans ho2 (fun _ _ h => h))
    clear d0 d1 c1 c2 ho1 ho2
    go_wp2_with fail
    go_ret
    exact ⟨rfl, HO.out⟩
  | ok L =>
    have hL := allS_ok s n hn L hr
    rw [hr] at c1 c2
    clear hr
    go_enter Tryd.func7, Tryd.ntmps7
    go_wp2_with fail
    refine c1.mono ?_
    rintro e w1 ⟨⟨v1, rfl, hown1⟩, ho1⟩
    go_wp2_with fail
    refine (c2 _).mono ?_
    rintro e w2 ⟨⟨v2, rfl, hown2⟩, ho2⟩
    have T1 := (TSrc.of_own hown1).kept ho2
    have T2 := TSrc.of_own hown2
    have cT := tokens_same _ _ v1 v2 s L w2 T1 T2 (by omega)
    have HO := Lib.hid (ho1.trans ho2 (fun _ _ h => h))
    clear c1 c2 ho1 ho2 hown1 hown2 T1 T2 hL
    go_wp2_with fail
    refine cT.mono ?_
    rintro e w3 ⟨rfl, ho3⟩
    clear cT
    go_wp2_with fail
    go_ret
    exact ⟨rfl, HO.out.trans ho3 (fun _ _ h => h)⟩
end Go.Proofs.YtbpdhpfcknaaiaaDoor

