/- Layer 10: the first port that has a byte is picked. -/
import Derived.Test.YthdolanamcmooaaPFill
import Derived.Test.YthdolanamcmooaaGArgs
import Derived.Test.YthdolanamcmooaaNum
import Derived.Test.YthdolanamcmooaaApp
set_option linter.unusedSimpArgs false
set_option linter.unusedVariables false
namespace Go.Proofs.Ythdolanamcmooaa
open Go.RowKit Go.Conc M

def bufP : Option PD → List Int
  | none => []
  | some q => q.buf
def Off (q r : PD) : Prop := ∀ k, Two q.p q.c k → ¬ Two r.p r.c k
/-- The ports in memory: each beside the others, and beside the row that holds them. -/
def Ports (M0 : Nat) (w : World) (lv : Value) (L : List (Option PD)) : Prop :=
  (∀ (i : Nat) (q : PD), L[i]? = some (some q) → q.here w ∧ (∀ k, Two q.p q.c k → M0 ≤ k ∧ lv.ownBlock ≠ some k)) ∧
  ∀ (i j : Nat) (q r : PD), i ≠ j → L[i]? = some (some q) → L[j]? = some (some r) → Off q r
theorem here_lt {q : PD} {w : World} (h : q.here w) : ∀ k, Two q.p q.c k → k < w.heap.size := fun k hk => by
  rcases hk with e | e
  · rw [e]; exact h.1.lt
  · rw [e]; exact h.clt
theorem ports_push {M0 : Nat} {w w5 : World} {lv lv' : Value} {L : List (Option PD)} (o : Option PD) (hP : Ports M0 w lv L)
    (hkeep : ∀ q : PD, q.here w → (∀ k, Two q.p q.c k → M0 ≤ k ∧ lv.ownBlock ≠ some k) → q.here w5) (hg : lv'.ownBlock = lv.ownBlock ∨ ∃ g, lv'.ownBlock = some g ∧ w.heap.size ≤ g)
    (hnew : ∀ q : PD, o = some q → q.here w5 ∧ (∀ k, Two q.p q.c k → w.heap.size ≤ k ∧ M0 ≤ k ∧ lv'.ownBlock ≠ some k)) : Ports M0 w5 lv' (L ++ [o]) := by
  obtain ⟨h1, h2⟩ := hP
  have cases_ : ∀ (i : Nat) (q : PD), (L ++ [o])[i]? = some (some q) → (L[i]? = some (some q) ∧ i < L.length) ∨ (i = L.length ∧ o = some q) := fun i q hi => by
    by_cases g : i < L.length
    · rw [List.getElem?_append_left g] at hi
      exact Or.inl ⟨hi, g⟩
    · have hlt := (List.getElem?_eq_some_iff.1 hi).1
      simp at hlt
      have : i = L.length := by omega
      subst this
      rw [List.getElem?_append_right (Nat.le_refl _)] at hi
      simp at hi
      exact Or.inr ⟨rfl, hi⟩
  refine ⟨fun i q hi => ?_, fun i j q r hij hi hj => ?_⟩
  · rcases cases_ i q hi with ⟨h, _⟩ | ⟨_, h⟩
    · obtain ⟨a1, a2⟩ := h1 i q h
      refine ⟨hkeep q a1 a2, fun k hk => ⟨(a2 k hk).1, ?_⟩⟩
      rcases hg with e | ⟨g, e, hge⟩
      · rw [e]; exact (a2 k hk).2
      · rw [e]; intro e2; injection e2 with e2; have := here_lt a1 k hk; omega
    · obtain ⟨a1, a2⟩ := hnew q h
      exact ⟨a1, fun k hk => ⟨(a2 k hk).2.1, (a2 k hk).2.2⟩⟩
  · rcases cases_ i q hi with ⟨ha, hb⟩ | ⟨ha, hb⟩ <;> rcases cases_ j r hj with ⟨hc, hd⟩ | ⟨hc, hd⟩
    · exact h2 i j q r hij ha hc
    · intro k hk hk2
      have e1 := here_lt (h1 i q ha).1 k hk
      have e2 := ((hnew r hd).2 k hk2).1
      omega
    · intro k hk hk2
      have e1 := here_lt (h1 j r hc).1 k hk2
      have e2 := ((hnew q hb).2 k hk).1
      omega
    · omega
theorem bit_u8 (no k : Nat) (h : no < 256) : bits BinOp.and IntKind.u8 ((no : Int) / 2 ^ k) 1 = ((no / 2 ^ k % 2 : Nat) : Int) := by
  have e1 : (no : Int) / 2 ^ k = ((no / 2 ^ k : Nat) : Int) := by rw [pow_cast]; rfl
  have e2 : no / 2 ^ k < 256 := Nat.lt_of_le_of_lt (Nat.div_le_self _ _) h
  have := bits_and_nat .u8 rfl (no / 2 ^ k) 1 (by exact e2) (by decide)
  rw [e1]
  rw [Nat.and_one_is_mod] at this
  exact this
theorem infoPtr : (Try.prog.info? 39).map (fun i => (i.zero, i.size, i.bytes)) = some (some (.pointer none), 1, 8) := by kernel_rfl
def sum3 (Zs : List (List Int)) : Nat := (Zs.map List.length).sum
theorem three {α : Type} {l : List α} (h : l.length = 3) : ∃ a b c, l = [a, b, c] := by
  match l, h with
  | [a, b, c], _ => exact ⟨a, b, c, rfl⟩
theorem sum3_set {Zs : List (List Int)} {k : Nat} {x : Int} {rest : List Int} (h : Zs[k]? = some (x :: rest)) (hl : Zs.length = 3) : sum3 (Zs.set k rest) + 1 = sum3 Zs := by
  obtain ⟨a, b, c, rfl⟩ := three hl
  rcases k with _ | _ | _ | k
  · simp at h; subst h; simp [sum3]; omega
  · simp at h; subst h; simp [sum3]; omega
  · simp at h; subst h; simp [sum3]; omega
  · simp at h
def capV : Value → Nat
  | .slice _ _ c => c
  | _ => 0
/-- The rows. -/
def Rows3 (w : World) (Vs : List Value) (Zs : List (List Int)) : Prop :=
  Vs.length = 3 ∧ Zs.length = 3 ∧ ∀ (i : Nat) (v : Value) (z : List Int), Vs[i]? = some v → Zs[i]? = some z → ∃ b, Src w b v (B8 z) ∧ (0 < z.length → b < w.heap.size) ∧ z.length ≤ 20 ∧ z.length ≤ capV v
theorem rows3_new {w : World} {v0 v1 v2 : Value} {z0 z1 z2 : List Int} {b0 b1 b2 : Nat} (h0 : Src w b0 v0 (B8 z0)) (h1 : Src w b1 v1 (B8 z1)) (h2 : Src w b2 v2 (B8 z2)) (e0 : 0 < z0.length → b0 < w.heap.size) (e1 : 0 < z1.length → b1 < w.heap.size) (e2 : 0 < z2.length → b2 < w.heap.size) (f0 : z0.length ≤ 20) (f1 : z1.length ≤ 20) (f2 : z2.length ≤ 20) (k0 : z0.length ≤ capV v0) (k1 : z1.length ≤ capV v1) (k2 : z2.length ≤ capV v2) : Rows3 w [v0, v1, v2] [z0, z1, z2] :=
  ⟨rfl, rfl, fun i v z hv hz => by
    rcases i with _ | _ | _ | i
    · simp at hv hz; subst hv hz; exact ⟨b0, h0, e0, f0, k0⟩
    · simp at hv hz; subst hv hz; exact ⟨b1, h1, e1, f1, k1⟩
    · simp at hv hz; subst hv hz; exact ⟨b2, h2, e2, f2, k2⟩
    · simp at hv⟩
theorem Rows3.cut {w : World} {Vs : List Value} {Zs : List (List Int)} (h : Rows3 w Vs Zs) (k : Nat) : Rows3 w (Vs.set k (.slice none 0 0)) (Zs.set k []) :=
  ⟨by rw [List.length_set]; exact h.1, by rw [List.length_set]; exact h.2.1, fun i v z hv hz => by
    rw [List.getElem?_set] at hv hz
    by_cases e : k = i
    · subst e
      have hk : k < 3 := by
        rw [if_pos rfl] at hv
        split at hv
        · have := h.1; omega
        · cases hv
      rw [if_pos rfl, if_pos (by have := h.1; omega)] at hv
      rw [if_pos rfl, if_pos (by have := h.2.1; omega)] at hz
      injection hv with hv
      injection hz with hz
      subst hv hz
      exact ⟨0, ⟨none, 0, 0, rfl, nofun, fun _ => rfl, fun i u hu => by simp [B8] at hu⟩, fun h => by simp at h, by simp, by simp⟩
    · rw [if_neg e] at hv hz
      exact h.2.2 i v z hv hz⟩

theorem set_cases {α : Type} {l : List α} {j i : Nat} {a b : α} (h : (l.set j a)[i]? = some b) : (i = j ∧ a = b ∧ j < l.length) ∨ (i ≠ j ∧ l[i]? = some b) := by
  rw [List.getElem?_set] at h
  by_cases e : j = i
  · rw [if_pos e] at h
    split at h
    · injection h with h
      exact Or.inl ⟨e.symm, h, by omega⟩
    · cases h
  · rw [if_neg e] at h
    exact Or.inr ⟨fun h => e h.symm, h⟩
theorem ports_set {M0 : Nat} {w w5 : World} {lv : Value} {L : List (Option PD)} {j : Nat} {q : PD} {rest : List Int} (hP : Ports M0 w lv L) (hj : L[j]? = some (some q)) (h5 : PAt w5 q.p q.c q.cap rest q.cl)
    (hk : ∀ r : PD, r.here w → Off q r → (∀ k, Two r.p r.c k → M0 ≤ k) → r.here w5) : Ports M0 w5 lv (L.set j (some (⟨q.p, q.c, q.cap, rest, q.cl⟩ : PD))) := by
  refine ⟨fun i r hi => ?_, fun i i' r r' hii hi hi' => ?_⟩
  · rcases set_cases hi with ⟨rfl, e, _⟩ | ⟨hne, h⟩
    · injection e with e
      subst e
      exact ⟨h5, (hP.1 i q hj).2⟩
    · exact ⟨hk r (hP.1 i r h).1 (hP.2 j i q r (fun e => hne e.symm) hj h) (fun k hk => ((hP.1 i r h).2 k hk).1), (hP.1 i r h).2⟩
  · rcases set_cases hi with ⟨e1, e, _⟩ | ⟨hne, h⟩ <;> rcases set_cases hi' with ⟨e1', e', _⟩ | ⟨hne', h'⟩
    · omega
    · injection e with e
      subst e
      exact hP.2 j i' q r' (fun e => hne' e.symm) hj h'
    · injection e' with e'
      subst e'
      exact hP.2 i j r q hne h hj
    · exact hP.2 i i' r r' hii h h'
theorem src_tail {w : World} {b off C m : Nat} {x : Int} {rest : List Int} {ap : Option Addr} (h : Src w b (.slice (some ⟨b, off, none⟩) (x :: rest).length C) (B8 (x :: rest))) (hm : rest.length = m) (hap : (if C = 1 then some (⟨b, off, none⟩ : Addr) else some ⟨b, off + 1, none⟩) = ap) (hc : m + 1 ≤ C) : Src w b (.slice ap m (C - 1)) (B8 rest) := by
  obtain ⟨A, C', off', e, q1, q2, q3⟩ := h
  have e1 := q1 (by simp [B8])
  simp only [Value.slice.injEq] at e
  rw [← e.1] at e1
  simp only [Option.some.injEq, Addr.mk.injEq, true_and, and_true] at e1
  refine ⟨ap, C - 1, off + 1, by rw [B8_len, hm], fun h0 => ?_, fun h0 => ?_, fun i u hu => ?_⟩
  · rw [B8_len, hm] at h0
    rw [← hap, if_neg (by omega)]
  · rw [← hap] at h0
    split at h0 <;> cases h0
  · have := q3 (i + 1) u (by simpa [B8] using hu)
    rw [← e1] at this
    rw [show off + 1 + i = off + (i + 1) by omega]
    exact this
theorem Rows3.put {w : World} {Vs : List Value} {Zs : List (List Int)} (h : Rows3 w Vs Zs) (k : Nat) (v : Value) (z : List Int) (hz : ∃ b, Src w b v (B8 z) ∧ (0 < z.length → b < w.heap.size) ∧ z.length ≤ 20 ∧ z.length ≤ capV v) : Rows3 w (Vs.set k v) (Zs.set k z) :=
  ⟨by rw [List.length_set]; exact h.1, by rw [List.length_set]; exact h.2.1, fun i v' z' hv hz' => by
    rcases set_cases hv with ⟨e, e2, _⟩ | ⟨e, e2⟩ <;> rcases set_cases hz' with ⟨f, f2, _⟩ | ⟨f, f2⟩
    · subst e2 f2; exact hz
    · exact absurd e f
    · exact absurd f e
    · exact h.2.2 i v' z' e2 f2⟩
theorem row_at {w wr : World} {Vs : List Value} {Zs : List (List Int)} {xb : Nat} (hR : Rows3 w Vs Zs) (hB : Blk wr xb Vs.toArray 49) (ho : Only Nil w wr) {j : Nat} (hj : j < 3) :
    ∃ A C b off z, wr.cell? ⟨xb, j, none⟩ = some (.slice A z.length C) ∧ Zs[j]? = some z ∧ (0 < z.length → A = some ⟨b, off, none⟩) ∧ (∀ (i : Nat) (x : Int), z[i]? = some x → wr.cell? ⟨b, off + i, none⟩ = some (.int .u8 x)) ∧ z.length ≤ 20 ∧ Src w b (.slice A z.length C) (B8 z) ∧ Vs[j]? = some (.slice A z.length C) ∧ z.length ≤ C ∧ (0 < z.length → b < w.heap.size) := by
  obtain ⟨v, hv⟩ : ∃ v, Vs[j]? = some v := ⟨_, List.getElem?_eq_getElem (by have := hR.1; omega)⟩
  obtain ⟨z, hz⟩ : ∃ z, Zs[j]? = some z := ⟨_, List.getElem?_eq_getElem (by have := hR.2.1; omega)⟩
  obtain ⟨b, hs, hbl, hz20, hcv⟩ := hR.2.2 j v z hv hz
  have hs' := hs
  obtain ⟨A, C, off, rfl, q1, q2, q3⟩ := hs'
  rw [B8_len] at hs hv q1
  exact ⟨A, C, b, off, z, by rw [hB.cell]; simpa using hv, hz, q1, fun i x hx => ho.cell (q3 i _ (B8_at hx)) (fun h => h), hz20, hs, hv, hcv, hbl⟩
theorem empty_at {L : List (Option PD)} {Zs : List (List Int)} {k j : Nat} (hE : ∀ (i : Nat) (o : Option PD), i < k → L[i]? = some o → emptyP o) (hLz : ∀ (i : Nat) (o : Option PD), L[i]? = some o → Zs[i]? = some (bufP o)) (hl : L.length = 3) (hj : j < k) (hj3 : j < 3) {z : List Int} (hz : Zs[j]? = some z) : z = [] := by
  obtain ⟨o, ho⟩ : ∃ o, L[j]? = some o := ⟨_, List.getElem?_eq_getElem (by omega)⟩
  have h1 := hLz j o ho
  rw [hz] at h1
  injection h1 with h1
  rw [h1]
  cases o with
  | none => rfl
  | some q => exact hE j _ hj ho q rfl

set_option maxRecDepth 100000 in
set_option maxHeartbeats 6400000 in
theorem picks_any (a0 a1 a2 : Option Addr) (n0 n1 n2 cap0 cap1 cap2 b0 b1 b2 no : Nat) (z0 z1 z2 : List Int) (w : World) (h0 : InRow w a0 n0 cap0 b0 (B8 z0)) (h1 : InRow w a1 n1 cap1 b1 (B8 z1)) (h2 : InRow w a2 n2 cap2 b2 (B8 z2)) (hN : no < 256) :
    Calls Try.prog 6 #[.slice a0 n0 cap0, .slice a1 n1 cap1, .slice a2 n2 cap2, .int .u8 no] w fun e w' => e = .returned (.bool true) ∧ Only Nil w w' := by
  have cK := known10 w
  obtain ⟨l0, s0, lt0, le0, mx0, nn0⟩ := h0
  obtain ⟨l1, s1, lt1, le1, mx1, nn1⟩ := h1
  obtain ⟨l2, s2, lt2, le2, mx2, nn2⟩ := h2
  rw [B8_len] at l0 l1 l2
  by_cases g : 20 < n0 ∨ 20 < n1 ∨ 20 < n2
  · clear s0 s1 s2 l0 l1 l2
    go_enter Try.func6, Try.ntmps6
    go_wp2_with fail
    refine cK.mono ?_
    rintro e w1 ⟨rfl, ho1⟩
    clear cK
    by_cases g0 : 20 < n0
    · have t0 : (20 : Int) < (n0 : Int) := by omega
      go_wp2_with fail
      go_ret
      exact ⟨rfl, ho1⟩
    · have t0 : decide ((20 : Int) < (n0 : Int)) = false := by simp; omega
      by_cases g1 : 20 < n1
      · have t1 : (20 : Int) < (n1 : Int) := by omega
        go_wp2_with fail
        go_ret
        exact ⟨rfl, ho1⟩
      · have t1 : decide ((20 : Int) < (n1 : Int)) = false := by simp; omega
        have t2 : (20 : Int) < (n2 : Int) := by omega
        go_wp2_with fail
        go_ret
        exact ⟨rfl, ho1⟩
  have t0 : decide ((20 : Int) < (n0 : Int)) = false := by simp; omega
  have t1 : decide ((20 : Int) < (n1 : Int)) = false := by simp; omega
  have t2 : decide ((20 : Int) < (n2 : Int)) = false := by simp; omega
  go_enter Try.func6, Try.ntmps6
  go_wp2_with fail
  refine cK.mono ?_
  rintro e w1 ⟨rfl, ho1⟩
  clear cK
  have hR := rows3_new s0 s1 s2 (by rw [l0]; exact lt0) (by rw [l1]; exact lt1) (by rw [l2]; exact lt2) (by omega) (by omega) (by omega) (by rw [l0]; exact le0) (by rw [l1]; exact le1) (by rw [l2]; exact le2)
  have HR := Lib.hid hR
  have HO1 := Lib.hid ho1
  have hB := Blk.new w1 #[Value.slice a0 n0 cap0, .slice a1 n1 cap1, .slice a2 n2 cap2] 49
  have hoB : Only Nil w (w1.alloc (.cells #[Value.slice a0 n0 cap0, .slice a1 n1 cap1, .slice a2 n2 cap2] 49)) := ho1.alloc _
  clear s0 s1 s2 lt0 lt1 lt2 le0 le1 le2 mx0 mx1 mx2 nn0 nn1 nn2 hR ho1 l0 l1 l2
  go_wp2_with fail
  obtain ⟨w2, hw2⟩ : ∃ w2, w1.alloc (.cells #[Value.slice a0 n0 cap0, .slice a1 n1 cap1, .slice a2 n2 cap2] 49) = w2 := ⟨_, rfl⟩
  have hsz2 : w2.heap.size = w1.heap.size + 1 := by rw [← hw2]; simp
  rw [hw2] at hB hoB ⊢
  obtain ⟨xb, hxb⟩ : ∃ xb, w1.heap.size = xb := ⟨_, rfl⟩
  rw [hxb] at hB hsz2 ⊢
  have HB := Lib.hid hB
  have HO2 := Lib.hid hoB
  have HX := Lib.hid (show w.heap.size ≤ xb by have := HO1.out.size; omega)
  have HS2 := Lib.hid hsz2
  clear hB hoB hw2 hsz2 hxb t0 t1 t2
  go_loopg [11, 10] 3 (fun g i lv wr => ∃ (k : Nat) (Vs : List Value) (Zs : List (List Int)) (L : List (Option PD)), i = .int .i64 (k : Int) ∧ k ≤ 3 ∧ g = 3 - k ∧ Rows3 w Vs Zs ∧ Blk wr xb Vs.toArray 49 ∧ L.length = k ∧ (∀ (i : Nat) (o : Option PD), L[i]? = some o → Zs[i]? = some (bufP o)) ∧ Ports (xb + 1) wr lv L ∧ wr.ownsRow (xb + 1) 39 1 lv k (L.map pdV) ∧ Only Nil w wr)
  case atStart => exact ⟨0, _, _, [], rfl, Nat.zero_le _, rfl, HR.out, HB.out, rfl, fun i o h => by simp at h, ⟨fun i q h => by simp at h, fun i j q r hij h => by simp at h⟩, World.ownsRow_nil _ _ _ _, HO2.out⟩
  case round =>
    clear HR HB HO2
    obtain ⟨k, Vs, Zs, L, rfl, hk, hg, hR, hB, hLl, hLz, hP, hown, ho⟩ := hrel
    have HG := Lib.hid hg
    have k0 : (0 : Int) ≤ (k : Int) := Int.natCast_nonneg _
    by_cases hkn : k < 3
    · have k1 : (k : Int) < 3 := by omega
      obtain ⟨v, hv⟩ : ∃ v, Vs[k]? = some v := ⟨_, List.getElem?_eq_getElem (by have := hR.1; omega)⟩
      obtain ⟨z, hz⟩ : ∃ z, Zs[k]? = some z := ⟨_, List.getElem?_eq_getElem (by have := hR.2.1; omega)⟩
      obtain ⟨b, hs, hbl, hzl, hcv⟩ := hR.2.2 k v z hv hz
      have t1 : wr.cell? ⟨xb, k, none⟩ = some v := by rw [hB.cell]; simpa using hv
      have hltx := hB.lt
      have cF := filled_any 20 b v z wr (hs.kept ho (fun _ h => h)) (by omega)
      obtain ⟨aV, cV, hvv⟩ := sl_of_own hown
      subst hvv
      have HR := Lib.hid hR
      have HB := Lib.hid hB
      have HLL := Lib.hid hLl
      have HLZ := Lib.hid hLz
      have HPP := Lib.hid hP
      have HOW := Lib.hid hown
      have HO := Lib.hid ho
      have HV := Lib.hid hv
      have HZ := Lib.hid hz
      have HZL := Lib.hid hzl
      have hbu := bit_u8 no k hN
      clear hg hR hB hLl hLz hP hown ho hv hz hs hbl hzl hcv
      obtain ⟨i0, hi0, hz0, hz1, hz2⟩ := info_parts infoPtr
      by_cases hbit : no / 2 ^ k % 2 = 1
      · have tb : (bits BinOp.and IntKind.u8 ((no : Int) / 2 ^ k) 1 == 1) = true := by rw [hbu, hbit]; rfl
        clear hbu
        go_wp2_with fail
        refine cF.mono ?_
        rintro e w3 ⟨p, c, rfl, hA, hc1, hp1, ho3⟩
        have hB3 := HB.out.kept ho3 (fun h => h)
        have t3 : w3.cell? ⟨xb, k, none⟩ = some v := ho3.cell t1 (fun h => h)
        have f3 := hB3.free k
        have l3 := hB3.lt
        have HB3 := Lib.hid hB3
        have HO3 := Lib.hid ho3
        have oS : Only (One xb) w3 (w3.setCell ⟨xb, k, none⟩ (.slice none 0 0)) := Only.setCell (p := ⟨xb, k, none⟩) (Only.refl (One xb) w3) (fun _ => (rfl : xb = xb)) _
        have hlo : ∀ q, (Value.slice aV k cV).ownBlock = some q → xb + 1 ≤ q ∧ q < wr.heap.size := fun q hq => HOW.out.lt q hq
        have hown4 := ownsRow_only (ownsRow_only HOW.out ho3 (fun _ _ h => h)) oS (fun q hq (h : q = xb) => by have := (hlo q hq).1; omega)
        have zS : (w3.setCell ⟨xb, k, none⟩ (.slice none 0 0)).heap.size = w3.heap.size := by simp [World.setCell]
        have s3 := ho3.size
        have OS := Lib.hid oS
        have ZS := Lib.hid zS
        have HLO := Lib.hid hlo
        clear cF hA hc1 hp1 hB3 ho3 t1 oS hlo zS
        go_wp2_with (with_reducible refine wpList_append_oneA rfl _ _ 50 rfl (xb + 1) 39 i0 (.pointer none) 8 Try.underlying50 hi0 hz0 hz1 hz2 rfl _ _ _ rfl hown4 (.pointer none) rfl w3.heap.size rfl ZS.out.symm (by simp [maxLen]; omega) (by omega) (by rw [ZS.out]; omega) ?_)
        intro g2 cap3 w5 hown5 hc1 hc2 hg1 ho5
        have HOW5 := Lib.hid hown5
        have HG1 := Lib.hid hg1
        have HO5 := Lib.hid ho5
        clear hown4 hown5 hg1 ho5 hc1 hc2 f3 t3 l3
        go_wp2_with fail
        go_roundg (3 - (k + 1))
        case measure => have := HG.out; omega
        case rel =>
          refine ⟨k + 1, Vs.set k (.slice none 0 0), Zs.set k [], L ++ [none], by go_num, by omega, rfl, HR.out.cut k, ?_, by simp [HLL.out], ?_, ?_, ?_, ?_⟩
          · have h1 := (HB3.out.setCell k (.slice none 0 0)).kept HO5.out (fun h => by have := (HLO.out xb h.symm).1; omega)
            simpa using h1
          · intro i o hi
            by_cases e : i = k
            · subst e
              rw [List.getElem?_append_right (by rw [HLL.out]; exact Nat.le_refl _), HLL.out, Nat.sub_self] at hi
              simp at hi
              subst hi
              rw [List.getElem?_set, if_pos rfl, if_pos (by have := HR.out.2.1; omega)]
              rfl
            · have hlt := (List.getElem?_eq_some_iff.1 hi).1
              simp [HLL.out] at hlt
              rw [List.getElem?_append_left (by rw [HLL.out]; omega)] at hi
              rw [List.getElem?_set, if_neg (fun h => e h.symm)]
              exact HLZ.out i o hi
          · refine ports_push none HPP.out (fun q h1 h2 => ?_) ?_ (fun q h => by cases h)
            · have a1 : PAt w3 q.p q.c q.cap q.buf q.cl := h1.kept HO3.out (fun h => h) (fun h => h)
              have a2 := a1.kept OS.out (fun (h : q.p = xb) => by have := (h2 q.p (Or.inl rfl)).1; omega) (fun (h : q.c = xb) => by have := (h2 q.c (Or.inr rfl)).1; omega)
              exact a2.kept HO5.out (fun h => (h2 q.p (Or.inl rfl)).2 h.symm) (fun h => (h2 q.c (Or.inr rfl)).2 h.symm)
            · rcases HG1.out with h | h
              · exact Or.inl h
              · exact Or.inr ⟨g2, rfl, by omega⟩
          · have h1 := HOW5.out
            have e2 : L.map pdV ++ [.pointer none] = (L ++ [none]).map pdV := by simp [pdV]
            rw [e2] at h1
            exact h1
          · exact ((HO.out.trans HO3.out (fun _ _ h => h)).trans OS.out (fun i hi (h : i = xb) => by have := HX.out; omega)).trans HO5.out (fun i hi h => by have := (HLO.out i h.symm).1; have := HX.out; omega)
      · have tb : (bits BinOp.and IntKind.u8 ((no : Int) / 2 ^ k) 1 == 1) = false := by rw [hbu, show no / 2 ^ k % 2 = 0 by omega]; rfl
        clear hbu
        go_wp2_with fail
        refine cF.mono ?_
        rintro e w3 ⟨p, c, rfl, hA, hc1, hp1, ho3⟩
        have hcp : capOf 20 = 20 := by decide
        rw [hcp, List.take_of_length_le HZL.out] at hA
        have hB3 := HB.out.kept ho3 (fun h => h)
        have HA := Lib.hid hA
        have HB3 := Lib.hid hB3
        have HO3 := Lib.hid ho3
        have hlo : ∀ q, (Value.slice aV k cV).ownBlock = some q → xb + 1 ≤ q ∧ q < wr.heap.size := fun q hq => HOW.out.lt q hq
        have hown4 := ownsRow_only HOW.out ho3 (fun _ _ h => h)
        have s3 := ho3.size
        have HLO := Lib.hid hlo
        have HC1 := Lib.hid hc1
        have HP1 := Lib.hid hp1
        unfold ptr
        clear cF hA hc1 hp1 hB3 ho3 t1 hlo hcp
        go_wp2_with (with_reducible refine wpList_append_oneA rfl _ _ 50 rfl (xb + 1) 39 i0 (.pointer none) 8 Try.underlying50 hi0 hz0 hz1 hz2 rfl _ _ _ rfl hown4 (.pointer (some ⟨p, 0, none⟩)) rfl w3.heap.size rfl rfl (by simp [maxLen]; omega) (by omega) (by omega) ?_)
        intro g2 cap3 w5 hown5 hc1 hc2 hg1 ho5
        have HOW5 := Lib.hid hown5
        have HG1 := Lib.hid hg1
        have HO5 := Lib.hid ho5
        clear hown4 hown5 hg1 ho5 hc1 hc2
        go_wp2_with fail
        go_roundg (3 - (k + 1))
        case measure => have := HG.out; omega
        case rel =>
          refine ⟨k + 1, Vs, Zs, L ++ [some ⟨p, c, 20, z, false⟩], by go_num, by omega, rfl, HR.out, ?_, by simp [HLL.out], ?_, ?_, ?_, ?_⟩
          · exact HB3.out.kept HO5.out (fun h => by have := (HLO.out xb h.symm).1; omega)
          · intro i o hi
            by_cases e : i = k
            · subst e
              rw [List.getElem?_append_right (by rw [HLL.out]; exact Nat.le_refl _), HLL.out, Nat.sub_self] at hi
              simp at hi
              subst hi
              exact HZ.out
            · have hlt := (List.getElem?_eq_some_iff.1 hi).1
              simp [HLL.out] at hlt
              rw [List.getElem?_append_left (by rw [HLL.out]; omega)] at hi
              exact HLZ.out i o hi
          · have hpc : ∀ i, Two p c i → wr.heap.size ≤ i ∧ i < w3.heap.size := fun i hi => by
              have h1 := HA.out.1.lt
              have h2 := HA.out.clt
              have h3 := HC1.out
              have h4 := HP1.out
              rcases hi with h | h <;> omega
            refine ports_push _ HPP.out (fun q h1 h2 => ?_) ?_ (fun q h => ?_)
            · have a1 : PAt w3 q.p q.c q.cap q.buf q.cl := h1.kept HO3.out (fun h => h) (fun h => h)
              exact a1.kept HO5.out (fun h => (h2 q.p (Or.inl rfl)).2 h.symm) (fun h => (h2 q.c (Or.inr rfl)).2 h.symm)
            · rcases HG1.out with h | h
              · exact Or.inl h
              · exact Or.inr ⟨g2, rfl, by omega⟩
            · injection h with h
              subst h
              refine ⟨(show PAt w5 p c 20 z false from HA.out.kept HO5.out (fun h => by have := (HLO.out p h.symm).2; have := (hpc p (Or.inl rfl)).1; omega) (fun h => by have := (HLO.out c h.symm).2; have := (hpc c (Or.inr rfl)).1; omega)), fun i hi => ⟨(hpc i hi).1, by have := (hpc i hi).1; have := hltx; omega, fun h => ?_⟩⟩
              have hgi : g2 = i := by injection h
              rcases HG1.out with h | h
              · have := (HLO.out g2 h.symm).2; have := (hpc i hi).1; omega
              · have := (hpc i hi).2; omega
          · have h1 := HOW5.out
            have e2 : L.map pdV ++ [.pointer (some ⟨p, 0, none⟩)] = (L ++ [some (⟨p, c, 20, z, false⟩ : PD)]).map pdV := by simp [pdV, ptr]
            rw [e2] at h1
            exact h1
          · exact (HO.out.trans HO3.out (fun _ _ h => h)).trans HO5.out (fun i hi h => by have := (HLO.out i h.symm).1; have := HX.out; omega)
    · have hk3 : k = 3 := by omega
      subst hk3
      obtain ⟨w4, rfl⟩ : ∃ w4, w4 = wr := ⟨wr, rfl⟩
      obtain ⟨aV, cV, hvv⟩ := sl_of_own hown
      subst hvv
      obtain ⟨v0, v1, v2, hV⟩ := three hR.1
      obtain ⟨y0, y1, y2, hY⟩ := three hR.2.1
      have hs30 : sum3 Zs = y0.length + (y1.length + y2.length) := by rw [hY]; simp [sum3]
      have hR' := hR
      have hB' := hB
      rw [hV, hY] at hR'
      rw [hV] at hB'
      obtain ⟨p0, ⟨A0, C0, O0, rfl, _⟩, _, f0, _⟩ := hR'.2.2 0 v0 y0 rfl rfl
      obtain ⟨p1, ⟨A1, C1, O1, rfl, _⟩, _, f1, _⟩ := hR'.2.2 1 v1 y1 rfl rfl
      obtain ⟨p2, ⟨A2, C2, O2, rfl, _⟩, _, f2, _⟩ := hR'.2.2 2 v2 y2 rfl rfl
      rw [B8_len] at hB' hV
      rw [B8_len] at hB' hV
      rw [B8_len] at hB' hV
      have d0 := hB'.cell 0
      have d1 := hB'.cell 1
      have d2 := hB'.cell 2
      simp only [List.getElem?_toArray, List.getElem?_cons_zero, List.getElem?_cons_succ] at d0 d1 d2
      have hltx := hB'.lt
      obtain ⟨m0, hm0⟩ : ∃ m, y0.length = m := ⟨_, rfl⟩
      obtain ⟨m1, hm1⟩ : ∃ m, y1.length = m := ⟨_, rfl⟩
      obtain ⟨m2, hm2⟩ : ∃ m, y2.length = m := ⟨_, rfl⟩
      rw [hm0] at d0 f0 hs30
      rw [hm1] at d1 f1 hs30
      rw [hm2] at d2 f2 hs30
      have HR := Lib.hid hR
      have HB := Lib.hid hB
      have HLZ := Lib.hid hLz
      have HLL := Lib.hid hLl
      have HPP := Lib.hid hP
      have HOW := Lib.hid hown
      have HO := Lib.hid ho
      have HS3 := Lib.hid hs30
      clear hR hB hLz hLl hP hown ho hs30 hR' hB' hV hY hm0 hm1 hm2 hg HG
      go_wp2_with fail
      clear d0 d1 d2
      go_loopg [13] (sum3 Zs) (fun g i wr => ∃ (Vs : List Value) (Zs : List (List Int)) (L : List (Option PD)), i = .int .i64 ((sum3 Zs : Nat) : Int) ∧ g = sum3 Zs ∧ sum3 Zs ≤ 60 ∧ Rows3 w Vs Zs ∧ Blk wr xb Vs.toArray 49 ∧ L.length = 3 ∧ (∀ (i : Nat) (o : Option PD), L[i]? = some o → Zs[i]? = some (bufP o)) ∧ Ports (xb + 1) wr (.slice aV 3 cV) L ∧ wr.ownsRow (xb + 1) 39 1 (.slice aV 3 cV) 3 (L.map pdV) ∧ Only Nil w wr)
      case atStart => exact ⟨Vs, Zs, L, by rw [HS3.out]; congr 1; omega, rfl, by have := HS3.out; omega, HR.out, HB.out, HLL.out, HLZ.out, HPP.out, HOW.out, HO.out⟩
      case round =>
        clear HR HB HLZ HLL HPP HOW HO HS3
        obtain ⟨Vs, Zs, L, rfl, hg, h60, hR, hB, hLl, hLz, hP, hown, ho⟩ := hrel
        have N0 : (0 : Int) ≤ ((sum3 Zs : Nat) : Int) := Int.natCast_nonneg _
        have hsrc := Src.of_own hown
        have cP := pick_any _ _ L wr hsrc (fun i q h => (hP.1 i q h).1) (by omega)
        go_wp2_with fail
        refine cP.mono ?_
        intro e w5 hpost
        clear cP
        rcases hpost with ⟨k, q, x, rest, hE, hLk, hqb, rfl, hq5, ho5⟩ | ⟨hE, rfl, hww⟩
        · have hk3 : k < 3 := by have := (List.getElem?_eq_some_iff.1 hLk).1; omega
          have hB5 : Blk w5 xb Vs.toArray 49 := hB.kept ho5 (fun h => by have := ((hP.1 k q hLk).2 xb h).1; omega)
          have ho5' : Only Nil w w5 := ho.trans ho5 (fun i hi h => by have := ((hP.1 k q hLk).2 i h).1; have := HX.out; omega)
          have hbk := hLz k _ hLk
          have hBP : bufP (some q) = x :: rest := hqb
          rw [hBP] at hbk
          have HR := Lib.hid hR
          have HB5 := Lib.hid hB5
          have HO5 := Lib.hid ho5'
          have HLZ := Lib.hid hLz
          have HLL := Lib.hid hLl
          have HP := Lib.hid hP
          have HOW := Lib.hid hown
          have HE := Lib.hid hE
          have HBK := Lib.hid hbk
          have HLK := Lib.hid hLk
          have HQ5 := Lib.hid hq5
          have HOQ := Lib.hid ho5
          have HQB := Lib.hid hqb
          have HG := Lib.hid hg
          have H60 := Lib.hid h60
          have hltx := hB5.lt
          clear hR hB hLl hLz hP hown ho hsrc hE hLk hq5 ho5 hB5 ho5' hbk hBP hqb hg h60
          go_wp2_with fail
          go_loopg [17] k (fun g i wr => ∃ (j : Nat), i = .int .i64 (j : Int) ∧ j ≤ k ∧ g = k - j ∧ wr = w5)
          case atStart => exact ⟨0, rfl, Nat.zero_le _, rfl, rfl⟩
          case round =>
            obtain ⟨j, rfl, hj, hg3, rfl⟩ := hrel
            have HG3 := Lib.hid hg3
            clear hg3
            have j0 : (0 : Int) ≤ (j : Int) := Int.natCast_nonneg _
            have j3 : (j : Int) < 3 := by omega
            obtain ⟨A, C, b, off, z, c1, hz, hA, hcz, hz20, hsz, hvj, hzc, hblt⟩ := row_at HR.out HB5.out HO5.out (show j < 3 by omega)
            by_cases hjk : j < k
            · have hz0 := empty_at HE.out HLZ.out HLL.out hjk (by omega) hz
              subst hz0
              clear hz hA hcz hz20 hsz hvj hzc hblt
              simp only [List.length_nil] at c1
              go_wp2_with fail
              go_roundg (k - (j + 1))
              case measure => have := HG3.out; omega
              case rel => exact ⟨j + 1, by go_num, by omega, rfl, rfl⟩
            · have hjk' : j = k := by omega
              subst hjk'
              rw [HBK.out] at hz
              injection hz with hz
              subst hz
              have hA' := hA (by simp)
              subst hA'
              have cx := hcz 0 x rfl
              simp only [Nat.add_zero] at cx
              have HBL := Lib.hid (hblt (by simp))
              have ltb := World.block_lt_of_cell? wr _ cx
              have HSZ := Lib.hid hsz
              have fx := HB5.out.free j
              obtain ⟨m, hm⟩ : ∃ m, rest.length = m := ⟨_, rfl⟩
              simp only [List.length_cons] at c1 hzc
              rw [hm] at c1 hzc
              have c2 : wr.cell? ⟨xb, j, none⟩ = some (.slice (some ⟨b, off, none⟩) (m + 1) C) := c1
              have hj3' : ((j : Int) == 3) = false := by simp; omega
              have hm0 : (((m + 1 : Nat) : Int) == 0) = false := by simp; omega
              have HM := Lib.hid hm
              have hcc : (1 : Int) ≤ (C : Int) := by omega
              have hmc : (m : Int) + 1 ≤ (C : Int) := by omega
              have hxx : (x != x) = false := by simp
              obtain ⟨ap, hap⟩ : ∃ ap, (if C = 1 then some (⟨b, off, Option.none⟩ : Addr) else some ⟨b, off + 1, Option.none⟩) = ap := ⟨_, rfl⟩
              have HVJ := Lib.hid hvj
              have H20 := Lib.hid hz20
              clear hA hcz hz20 hsz hvj c1 hm hblt
              go_wp2_with fail
              have hss := sum3_set HBK.out HR.out.2.1
              go_roundg (sum3 (Zs.set j rest))
              case measure => have := HG.out; omega
              case rel =>
                have oS : Only (One xb) wr (wr.setCell ⟨xb, j, Option.none⟩ (.slice ap m (C - 1))) := Only.setCell (p := ⟨xb, j, Option.none⟩) (Only.refl (One xb) wr) (fun _ => (rfl : xb = xb)) _
                have hoff := (HP.out.1 j q HLK.out).2
                refine ⟨Vs.set j (.slice ap m (C - 1)), Zs.set j rest, L.set j (some (⟨q.p, q.c, q.cap, rest, q.cl⟩ : PD)), ?_, rfl, by have := H60.out; omega, ?_, ?_, by rw [List.length_set]; exact HLL.out, ?_, ?_, ?_, ?_⟩
                · have e1 : ((sum3 Zs : Nat) : Int) - 1 = ((sum3 (Zs.set j rest) : Nat) : Int) := by omega
                  rw [e1]
                  have h60 : sum3 (Zs.set j rest) ≤ 60 := by have := H60.out; omega
                  have e3 : wrap64 ((sum3 (Zs.set j rest) : Nat) : Int) = ((sum3 (Zs.set j rest) : Nat) : Int) := by
                    unfold wrap64
                    omega
                  exact congrArg (Value.int .i64) e3
                · exact HR.out.put j _ rest ⟨b, src_tail HSZ.out HM.out hap (by omega), fun _ => HBL.out, by have := H20.out; simp at this; omega, by rw [HM.out]; show m ≤ C - 1; omega⟩
                · have h1 := HB5.out.setCell j (.slice ap m (C - 1))
                  simpa using h1
                · intro i o hi
                  rcases set_cases hi with ⟨rfl, e, _⟩ | ⟨hne, h⟩
                  · subst e
                    rw [List.getElem?_set, if_pos rfl, if_pos (by have := HR.out.2.1; omega)]
                    rfl
                  · rw [List.getElem?_set, if_neg (fun h => hne h.symm)]
                    exact HLZ.out i o h
                · refine ports_set HP.out HLK.out ?_ (fun r h1 h2 h3 => ?_)
                  · exact HQ5.out.kept oS (fun (h : q.p = xb) => by have := (hoff q.p (Or.inl rfl)).1; omega) (fun (h : q.c = xb) => by have := (hoff q.c (Or.inr rfl)).1; omega)
                  · have a1 : PAt wr r.p r.c r.cap r.buf r.cl := h1.kept HOQ.out (fun h => h2 r.p h (Or.inl rfl)) (fun h => h2 r.c h (Or.inr rfl))
                    exact a1.kept oS (fun (h : r.p = xb) => by have := h3 r.p (Or.inl rfl); omega) (fun (h : r.c = xb) => by have := h3 r.c (Or.inr rfl); omega)
                · have h1 := ownsRow_only (ownsRow_only HOW.out HOQ.out (fun i hi h => (hoff i h).2 hi)) oS (fun i hi (h : i = xb) => by have := (HOW.out.lt i hi).1; omega)
                  have e2 : (L.set j (some (⟨q.p, q.c, q.cap, rest, q.cl⟩ : PD))).map pdV = L.map pdV := by
                    rw [List.map_set]
                    apply List.ext_getElem?
                    intro i
                    rw [List.getElem?_set]
                    by_cases e : j = i
                    · subst e
                      rw [if_pos rfl, if_pos (by rw [List.length_map]; exact (List.getElem?_eq_some_iff.1 HLK.out).1), List.getElem?_map, HLK.out]
                      rfl
                    · rw [if_neg e]
                  rw [e2]
                  exact h1
                · exact HO5.out.trans oS (fun i hi (h : i = xb) => by have := HX.out; omega)
        · have HR := Lib.hid hR
          have HB5 := Lib.hid hB
          have HO5 := Lib.hid ho
          have HLZ := Lib.hid hLz
          have HLL := Lib.hid hLl
          have HE := Lib.hid (show ∀ (i : Nat) (o : Option PD), i < 3 → L[i]? = some o → emptyP o from fun i o _ h => hE i o h)
          have hltx := hB.lt
          subst hww
          clear hR hB hLl hLz hP hown ho hsrc hE hg h60
          go_wp2_with fail
          go_loopg [17] 3 (fun g i wr => ∃ (j : Nat), i = .int .i64 (j : Int) ∧ j ≤ 3 ∧ g = 3 - j ∧ wr = w5)
          case atStart => exact ⟨0, rfl, Nat.zero_le _, rfl, rfl⟩
          case round =>
            obtain ⟨j, rfl, hj, hg3, rfl⟩ := hrel
            have HG3 := Lib.hid hg3
            clear hg3
            have j0 : (0 : Int) ≤ (j : Int) := Int.natCast_nonneg _
            by_cases hj3 : j < 3
            · have j3 : (j : Int) < 3 := by omega
              obtain ⟨A, C, b, off, z, c1, hz, hA, hcz, hz20, hsz, hvj, hzc, hblt⟩ := row_at HR.out HB5.out HO5.out hj3
              have hz0 := empty_at HE.out HLZ.out HLL.out hj3 hj3 hz
              subst hz0
              clear hz hA hcz hz20 hsz hvj hzc hblt
              simp only [List.length_nil] at c1
              go_wp2_with fail
              go_roundg (3 - (j + 1))
              case measure => have := HG3.out; omega
              case rel => exact ⟨j + 1, by go_num, by omega, rfl, rfl⟩
            · have hj' : j = 3 := by omega
              subst hj'
              go_wp2_with fail
              go_ret
              exact ⟨rfl, HO5.out⟩
end Go.Proofs.Ythdolanamcmooaa
