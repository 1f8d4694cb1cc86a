/- Sources that are made of numbers: the state, what it picks, texts of choices. -/
import Derived.Test.YtbpdhpfcknaaiaaDoorGInts
import Derived.Test.YtbpdhpfcknaaiaaDoorRowIn
import Derived.BigQuiet
import Derived.Deep.DeepCutAuto
import Derived.Test.YtbpdhpfcknaaiaaDoorGOrd
set_option linter.unusedSimpArgs false
set_option linter.unusedVariables false
namespace Go.Proofs.YtbpdhpfcknaaiaaDoor
open Go.RowKit M

/-- The next number below n, and where the next one is. -/
def pickM (L : List Nat) (i n : Nat) : Nat × Nat :=
  match L[i]? with
  | some v => (v % n, i + 1)
  | none => (0, i)
theorem pickM_lt (L : List Nat) (i : Nat) {n : Nat} (h : 0 < n) : (pickM L i n).1 < n := by
  unfold pickM
  split
  · exact Nat.mod_lt _ h
  · exact h
/-- The state in memory: block g. -/
structure GAt (w : World) (g : Nat) (lv : Value) (L : List Nat) (i d : Nat) : Prop where
  blk : Blk w g #[lv, .int .i64 (i : Int), .int .i64 (d : Int)] 46
  row : ∃ (b : Nat) (ao : Option Addr) (cap off : Nat), b ≠ g ∧ lv = .slice ao L.length cap ∧ (0 < L.length → ao = some ⟨b, off, none⟩) ∧ ∀ (j v : Nat), L[j]? = some v → w.cell? ⟨b, off + j, none⟩ = some (.int .u16 (v : Int))
  small : ∀ v ∈ L, v < 65536
  few : L.length ≤ 1000000
  le : i ≤ L.length
theorem GAt.kept {S : Nat → Prop} {w w' : World} {g : Nat} {lv : Value} {L : List Nat} {i d : Nat} (h : GAt w g lv L i d) (ho : Only S w w') (hS : ∀ k, k < w.heap.size → ¬ S k) : GAt w' g lv L i d := by
  obtain ⟨hB, ⟨b, ao, cap, off, hb, e, h0, hc⟩, h1, h2, h3⟩ := h
  exact ⟨hB.kept ho (hS g hB.lt), ⟨b, ao, cap, off, hb, e, h0, fun j v hj => ho.cell (hc j v hj) (hS b (World.block_lt_of_cell? w _ (hc j v hj)))⟩, h1, h2, h3⟩
theorem GAt.go {w w' : World} {g : Nat} {lv : Value} {L : List Nat} {i d : Nat} (h : GAt w g lv L i d) (ho : Only Nil w w') : GAt w' g lv L i d := h.kept ho (fun _ _ h => h)
theorem GAt.drewN {w : World} {g : Nat} {lv : Value} {L : List Nat} {i d : Nat} (h : GAt w g lv L i d) (q : Nat) : GAt (w.drewN q) g lv L i d := h.go ⟨rfl, rfl, rfl, Nat.le_refl _, fun _ _ _ => rfl⟩
theorem GAt.set {w : World} {g : Nat} {lv : Value} {L : List Nat} {i d : Nat} (h : GAt w g lv L i d) (i2 d2 : Nat) (h2 : i2 ≤ L.length) {w' : World} (hB : Blk w' g #[lv, .int .i64 (i2 : Int), .int .i64 (d2 : Int)] 46) (ho : Only (M.One g) w w') : GAt w' g lv L i2 d2 := by
  obtain ⟨_, ⟨b, ao, cap, off, hb, e, h0, hc⟩, h1, h3, _⟩ := h
  exact ⟨hB, ⟨b, ao, cap, off, hb, e, h0, fun j v hj => ho.cell (hc j v hj) (fun h => hb h)⟩, h1, h3, h2⟩
theorem og (g : Nat) (w : World) (p : Nat) (v : Value) : Only (M.One g) w (w.setCell ⟨g, p, none⟩ v) := M.Only.setCell (Only.refl (M.One g) w) (p := ⟨g, p, none⟩) (fun _ => rfl) v
theorem og_trans {g : Nat} {a b c : World} (h : Only (M.One g) a b) (k : Only (M.One g) b c) : Only (M.One g) a c := h.trans k (fun _ _ h => h)
theorem og_nil {g : Nat} {a b : World} (h : Only Nil a b) : Only (M.One g) a b := h.mono (fun _ h => h.elim)
theorem GAt.setI {w : World} {g : Nat} {lv : Value} {L : List Nat} {i d : Nat} (h : GAt w g lv L i d) (i2 : Nat) (h2 : i2 ≤ L.length) : GAt (w.setCell ⟨g, 1, none⟩ (.int .i64 (i2 : Int))) g lv L i2 d :=
  h.set i2 d h2 (h.blk.setCell 1 _) (og g w 1 _)
theorem GAt.setD {w : World} {g : Nat} {lv : Value} {L : List Nat} {i d : Nat} (h : GAt w g lv L i d) (d2 : Nat) : GAt (w.setCell ⟨g, 2, none⟩ (.int .i64 (d2 : Int))) g lv L i d2 :=
  h.set i d2 h.le (h.blk.setCell 2 _) (og g w 2 _)
/-- What each of the texts' makers tells: the text s, and the state goes on. -/
def GPost (g : Nat) (lv : Value) (L : List Nat) (i d : Nat) (s : ByteArray) (w : World) (e : Ending) (w' : World) : Prop :=
  e = .returned (.string s) ∧ GAt w' g lv L i d ∧ Only (M.One g) w w'
/-- A choice of texts. -/
theorem choice_cell (l : List ByteArray) (p : Nat) (hp : p < l.length) : (l.map Value.string).toArray[p]? = some (.string (l.getD p ⟨#[]⟩)) := by
  simp [List.getD, List.getElem?_eq_getElem hp]
theorem choice_le (l : List ByteArray) (k : Nat) (h : ∀ x ∈ l, x.size ≤ k) (p : Nat) : (l.getD p ⟨#[]⟩).size ≤ k := by
  by_cases hp : p < l.length
  · simp only [List.getD, List.getElem?_eq_getElem hp, Option.getD_some]
    exact h _ (List.getElem_mem hp)
  · simp only [List.getD, List.getElem?_eq_none (Nat.le_of_not_lt hp), Option.getD_none]
    exact Nat.zero_le _
set_option maxRecDepth 10000 in
set_option maxHeartbeats 1600000 in
theorem pick_any {w : World} {g : Nat} {lv : Value} {L : List Nat} {i d : Nat} (hG : GAt w g lv L i d) (n : Nat) (h1 : 1 ≤ n) (h2 : n ≤ 1000) :
    Calls Tryd.prog 20 #[.pointer (some ⟨g, 0, none⟩), .int .i64 (n : Int)] w fun e w' => e = .returned (.int .i64 ((pickM L i n).1 : Int)) ∧ GAt w' g lv L (pickM L i n).2 d ∧ Only (M.One g) w w' := by
  have HG := Lib.hid hG
  obtain ⟨b, ao, cap, off, hb, rfl, h0, hc⟩ := hG.row
  have c0 : w.cell? ⟨g, 0, none⟩ = some (.slice ao L.length cap) := hG.blk.cell 0
  have c1 : w.cell? ⟨g, 1, none⟩ = some (.int .i64 (i : Int)) := hG.blk.cell 1
  have hle := hG.le
  have hfew := hG.few
  by_cases hi : i < L.length
  · obtain ⟨v, hv⟩ : ∃ v, L[i]? = some v := ⟨_, List.getElem?_eq_getElem hi⟩
    have e1 : pickM L i n = (v % n, i + 1) := by unfold pickM; rw [hv]
    have hv6 : v < 65536 := hG.small v (List.mem_of_getElem? hv)
    have ea := h0 (by omega)
    subst ea
    have c5 := hc i v hv
    rw [e1]
    have HL1 := Lib.hid (show i + 1 ≤ L.length by omega)
    obtain ⟨m, hm⟩ : ∃ m, L.length = m := ⟨_, rfl⟩
    rw [hm] at c0 hi hle hfew
    have HHM := Lib.hid hm
    have i0 : (0 : Int) ≤ (i : Int) := Int.natCast_nonneg _
    have t1 : decide (m ≤ i) = false := by simpa using hi
    have t2 : ¬ (m : Int) ≤ (i : Int) := by omega
    have t3 : (i : Int) < (m : Int) := by omega
    have u1 : ((n : Int) == 0) = false := by simp; omega
    have u2 : ¬ (n : Int) = 0 := by omega
    have u3 : ¬ n = 0 := by omega
    have u4 : ((v : Int).tmod (n : Int)) = ((v % n : Nat) : Int) := rfl
    have u5 : ((v : Int) % (n : Int)) = ((v % n : Nat) : Int) := rfl
    have wv : IntKind.i64.wrap (v : Int) = (v : Int) := by rw [IntKind.wrap]; simp [IntKind.bits, IntKind.signed]; omega
    have wi : IntKind.i64.wrap ((i : Int) + 1) = ((i + 1 : Nat) : Int) := by rw [IntKind.wrap]; simp [IntKind.bits, IntKind.signed]; omega
    obtain ⟨r, hr⟩ : ∃ r, v % n = r := ⟨_, rfl⟩
    rw [hr] at u4 u5 ⊢
    obtain ⟨i1, hi1⟩ : ∃ r, i + 1 = r := ⟨_, rfl⟩
    rw [hi1] at wi HL1 ⊢
    have f1 := hG.blk.free 1
    have HC := Lib.hid (show ∀ q, GAt ((w.drewN q).setCell ⟨g, 1, none⟩ (.int .i64 (i1 : Int))) g (.slice (some ⟨b, off, none⟩) L.length cap) L i1 d ∧ Only (M.One g) w ((w.drewN q).setCell ⟨g, 1, none⟩ (.int .i64 (i1 : Int))) from fun q => ⟨(hG.drewN q).setI i1 HL1.out, og_trans (b := w.drewN q) ⟨rfl, rfl, rfl, Nat.le_refl _, fun _ _ _ => rfl⟩ (og g (w.drewN q) 1 _)⟩)
    rw [hm] at HC
    clear hG h0 hc hv e1 hv6 hr hi1 hm h1 h2 hb hi hle hfew
    go_enter Tryd.func20, Tryd.ntmps20
    go_wp2_with fail
    go_quiet (fail)
    go_wp2_with fail
    go_quiet (fail)
    go_wp2_with fail
    go_ret
    rw [HHM.out]
    exact ⟨rfl, (HC.out _).1, (HC.out _).2⟩
  · have e1 : pickM L i n = (0, i) := by unfold pickM; rw [List.getElem?_eq_none (by omega)]
    rw [e1]
    have t1 : decide (L.length ≤ i) = true := by simp; omega
    have t2 : (L.length : Int) ≤ (i : Int) := by omega
    clear h0 hc e1 hb hG
    go_enter Tryd.func20, Tryd.ntmps20
    go_wp2_with fail
    go_quiet (fail)
    go_wp2_with fail
    go_ret
    exact ⟨rfl, HG.out.drewN _, ⟨rfl, rfl, rfl, Nat.le_refl _, fun _ _ _ => rfl⟩⟩
end Go.Proofs.YtbpdhpfcknaaiaaDoor

/- What a maker of texts is; decimals. -/
set_option linter.unusedSimpArgs false
set_option linter.unusedVariables false
namespace Go.Proofs.YtbpdhpfcknaaiaaDoor
open Go.RowKit M

/-- The maker f, at state i, d: what it tells is one text of at most B bytes, not empty, whatever the world; and the state goes on. -/
def Sn (f : FuncId) (L : List Nat) (d B i : Nat) : Prop :=
  ∃ (s : ByteArray) (i' : Nat), 0 < s.size ∧ s.size ≤ B ∧ ∀ (w : World) (g : Nat) (lv : Value), GAt w g lv L i d → Calls Tryd.prog f #[.pointer (some ⟨g, 0, none⟩)] w (GPost g lv L i' d s w)
def Gn (f : FuncId) (L : List Nat) (d B : Nat) : Prop := ∀ i, Sn f L d B i
/-- The same of statements, at most n of them. -/
def Gb (L : List Nat) (d n B : Nat) : Prop := ∀ i, ∃ (s : ByteArray) (i' : Nat), 0 < s.size ∧ s.size ≤ B ∧ ∀ (w : World) (g : Nat) (lv : Value), GAt w g lv L i d → Calls Tryd.prog 12 #[.pointer (some ⟨g, 0, none⟩), .int .i64 (n : Int)] w (GPost g lv L i' d s w)
theorem Sn.mono {f : FuncId} {L : List Nat} {d B B2 i : Nat} (h : Sn f L d B i) (hB : B ≤ B2) : Sn f L d B2 i := by
  obtain ⟨s, i', h0, h1, h2⟩ := h
  exact ⟨s, i', h0, Nat.le_trans h1 hB, h2⟩
theorem pick_at {w : World} {g : Nat} {lv : Value} {L : List Nat} {i i1 c d n : Nat} (hG : GAt w g lv L i d) (hp : pickM L i n = (c, i1)) (z : Int) (hz : (c : Int) = z) (h1 : 1 ≤ n) (h2 : n ≤ 1000) :
    Calls Tryd.prog 20 #[.pointer (some ⟨g, 0, none⟩), .int .i64 (n : Int)] w fun e w' => e = .returned (.int .i64 z) ∧ GAt w' g lv L i1 d ∧ Only (M.One g) w w' := by
  have h := pick_any hG n h1 h2
  rw [hp] at h
  rw [← hz]
  exact h
theorem choice_pos (l : List ByteArray) (h : ∀ x ∈ l, 0 < x.size) (p : Nat) (hp : p < l.length) : 0 < (l.getD p ⟨#[]⟩).size := by
  simp only [List.getD, List.getElem?_eq_getElem hp, Option.getD_some]
  exact h _ (List.getElem_mem hp)
set_option maxRecDepth 10000 in
set_option maxHeartbeats 1600000 in
theorem dec_one (n : Nat) (hn : n < 10) : ∃ s : ByteArray, s.size = 1 ∧ ∀ w, Calls Tryd.prog 55 #[.int .i64 (n : Int)] w fun e w' => e = .returned (.string s) ∧ Only Nil w w' := by
  refine ⟨(⟨#[48, 49, 50, 51, 52, 53, 54, 55, 56, 57]⟩ : ByteArray).extract n (n + 1), ?_, fun w => ?_⟩
  · rw [ByteArray.size_extract]
    show min (n + 1) 10 - n = 1
    omega
  · have t0 : (0 : Int) ≤ (n : Int) := Int.natCast_nonneg _
    have t1 : (n : Int) < 10 := by omega
    have t2 : n < 10 := hn
    have w1 : IntKind.i64.wrap ((n : Int) + 1) = ((n + 1 : Nat) : Int) := by rw [IntKind.wrap]; simp [IntKind.bits, IntKind.signed]; omega
    have z : (⟨#[48, 49, 50, 51, 52, 53, 54, 55, 56, 57]⟩ : ByteArray).size = 10 := rfl
    obtain ⟨m, hm⟩ : ∃ m, n + 1 = m := ⟨_, rfl⟩
    rw [hm] at w1 ⊢
    have t3 : (m : Int) ≤ 10 := by omega
    have t4 : (n : Int) ≤ (m : Int) := by omega
    have t5 : m ≤ 10 := by omega
    have t6 : n ≤ m := by omega
    clear hm hn
    go_enter Tryd.func55, Tryd.ntmps55
    go_wp2_with fail
    go_ret
    exact ⟨rfl, Only.refl _ _⟩
set_option maxRecDepth 10000 in
set_option maxHeartbeats 1600000 in
theorem dec_two (n : Nat) (hn : n < 100) : ∃ s : ByteArray, 0 < s.size ∧ s.size ≤ 2 ∧ ∀ w, Calls Tryd.prog 55 #[.int .i64 (n : Int)] w fun e w' => e = .returned (.string s) ∧ Only Nil w w' := by
  by_cases h : n < 10
  · obtain ⟨s, hs, hc⟩ := dec_one n h
    exact ⟨s, by omega, by omega, hc⟩
  · obtain ⟨a, ha⟩ : ∃ a, n / 10 = a := ⟨_, rfl⟩
    obtain ⟨b, hb⟩ : ∃ b, n % 10 = b := ⟨_, rfl⟩
    obtain ⟨s, hs, hc⟩ := dec_one a (by omega)
    obtain ⟨t, ht, hd⟩ := dec_one b (by omega)
    have z : (s ++ t).size = 1 + 1 := by rw [ByteArray.size_append, hs, ht]
    refine ⟨s ++ t, by omega, by omega, fun w => ?_⟩
    have t1 : ¬ (n : Int) < 10 := by omega
    have q1 : ((n : Int).tdiv 10) = (a : Int) := by rw [← ha]; rfl
    have q2 : ((n : Int).tmod 10) = (b : Int) := by rw [← hb]; rfl
    have q3 : ((n : Int) / 10) = (a : Int) := by rw [← ha]; rfl
    have q4 : ((n : Int) % 10) = (b : Int) := by rw [← hb]; rfl
    have t2 : decide (n < 10) = false := by simpa using h
    have q5 : IntKind.i64.wrap (a : Int) = (a : Int) := by rw [IntKind.wrap]; simp [IntKind.bits, IntKind.signed]; omega
    clear ha hb hn h
    go_enter Tryd.func55, Tryd.ntmps55
    go_wp2_with fail
    refine (hc _).mono ?_
    rintro e w1 ⟨rfl, ho1⟩
    go_wp2_with fail
    refine (hd _).mono ?_
    rintro e w2 ⟨rfl, ho2⟩
    go_wp2_with fail
    go_ret
    exact ⟨rfl, ho1.trans ho2 (fun _ _ h => h)⟩
set_option maxRecDepth 10000 in
set_option maxHeartbeats 1600000 in
theorem dec_any (n : Nat) (hn : n < 1000) : ∃ s : ByteArray, 0 < s.size ∧ s.size ≤ 3 ∧ ∀ w, Calls Tryd.prog 55 #[.int .i64 (n : Int)] w fun e w' => e = .returned (.string s) ∧ Only Nil w w' := by
  by_cases h : n < 10
  · obtain ⟨s, hs, hc⟩ := dec_one n h
    exact ⟨s, by omega, by omega, hc⟩
  · obtain ⟨a, ha⟩ : ∃ a, n / 10 = a := ⟨_, rfl⟩
    obtain ⟨b, hb⟩ : ∃ b, n % 10 = b := ⟨_, rfl⟩
    obtain ⟨s, hs0, hs, hc⟩ := dec_two a (by omega)
    obtain ⟨t, ht, hd⟩ := dec_one b (by omega)
    have z : (s ++ t).size = s.size + 1 := by rw [ByteArray.size_append, ht]
    refine ⟨s ++ t, by omega, by omega, fun w => ?_⟩
    have k : ¬ 9223372036854775807 < s.size + 1 := by omega
    have t1 : ¬ (n : Int) < 10 := by omega
    have q1 : ((n : Int).tdiv 10) = (a : Int) := by rw [← ha]; rfl
    have q2 : ((n : Int).tmod 10) = (b : Int) := by rw [← hb]; rfl
    have q3 : ((n : Int) / 10) = (a : Int) := by rw [← ha]; rfl
    have q4 : ((n : Int) % 10) = (b : Int) := by rw [← hb]; rfl
    have t2 : decide (n < 10) = false := by simpa using h
    have q5 : IntKind.i64.wrap (a : Int) = (a : Int) := by rw [IntKind.wrap]; simp [IntKind.bits, IntKind.signed]; omega
    clear ha hb hn h hs hs0
    go_enter Tryd.func55, Tryd.ntmps55
    go_wp2_with fail
    refine (hc _).mono ?_
    rintro e w1 ⟨rfl, ho1⟩
    go_wp2_with fail
    refine (hd _).mono ?_
    rintro e w2 ⟨rfl, ho2⟩
    go_wp2_with fail
    go_ret
    exact ⟨rfl, ho1.trans ho2 (fun _ _ h => h)⟩
end Go.Proofs.YtbpdhpfcknaaiaaDoor

