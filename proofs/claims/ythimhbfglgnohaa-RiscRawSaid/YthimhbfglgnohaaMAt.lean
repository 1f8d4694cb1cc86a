/- The machine's next byte. -/
import Derived.Test.YthimhbfglgnohaaMPlace
import Derived.Test.YthimhbfglgnohaaMHolds
import Derived.Test.YthimhbfglgnohaaApp
set_option linter.unusedSimpArgs false
set_option linter.unusedVariables false
namespace Go.Proofs.Ythimhbfglgnohaa
open Go.RowKit M

theorem icells_iv (cv wv iv ov x : Value) (s : St) : (icells cv wv iv ov s).setIfInBounds 2 x = icells cv wv x ov s := rfl
theorem icells_ov (cv wv iv ov x : Value) (s : St) : (icells cv wv iv ov s).setIfInBounds 3 x = icells cv wv iv x s := rfl

theorem brow_tail {S : Nat → Prop} {w : World} {b off off' cap c mb o : Nat} {x : Value} {l t : List Nat} (hb : ¬ S b) (h : CellsAt w b off (U8s l)) (hl : l = c :: t) (h1 : t.length ≤ cap) (h2 : cap ≤ maxLen) (h3 : 0 < t.length → off' = off + 1) (hS : ∀ k, ¬ S k → k ≠ mb) :
    BRow S (w.setCell ⟨mb, o, none⟩ x) (.slice (some ⟨b, off', none⟩) t.length cap) t := by
  refine ⟨b, _, cap, off', rfl, h1, h2, fun _ => rfl, nofun, ?_, fun _ => hb⟩
  have ho : Only (One mb) w (w.setCell ⟨mb, o, none⟩ x) := Only.setOne (Only.refl _ _) _ _
  intro i u hu
  have hi : i < t.length := by
    have := (List.getElem?_eq_some_iff.mp hu).1
    simpa [U8s] using this
  have e := h3 (by omega)
  subst e
  have := h (i + 1) u (by rw [hl]; simpa [U8s] using hu)
  have := ho.cell (a := ⟨b, off + (i + 1), none⟩) this (fun hh => hS b hb hh)
  rw [show off + 1 + i = off + (i + 1) by omega]
  exact this

set_option maxHeartbeats 800000 in
theorem next_any (S : Nat → Prop) (mb : Nat) (hS : S mb) (cv wv iv ov : Value) (s : St) (w : World) (hB : Blk w mb (icells cv wv iv ov s) 65) (hI : BRow S w iv s.inp) (hby : ∀ x ∈ s.inp, x < 256) :
    Calls Try.prog 60 #[.pointer (some ⟨mb, 0, none⟩)] w fun e w' => e = .returned (.int .u32 (s.inp.getD 0 0)) ∧
      ∃ iv', Blk w' mb (icells cv wv iv' ov { s with inp := s.inp.drop 1 }) 65 ∧ BRow S w' iv' (s.inp.drop 1) ∧ Only (One mb) w w' := by
  have c2 : w.cell? ⟨mb, 2, none⟩ = some iv := hB.cell 2
  have f2 := hB.free 2
  have hlt := hB.lt
  have hI0 := hI
  obtain ⟨b, ao, cap, off, rfl, h2, h3, h4, h5, h6, h7⟩ := hI
  cases hin : s.inp with
  | nil =>
    have e1 : s.inp.length = 0 := by rw [hin]; rfl
    rw [e1] at c2 h2
    have H0 := Lib.hid hI0
    have HB := Lib.hid hB
    clear hB hI0 h4 h5 h6 h7 e1
    go_enter Try.func60, Try.ntmps60
    go_wp2_with fail
    go_ret
    have hb := HB.out
    have hi := H0.out
    rw [hin] at hi hb
    exact ⟨rfl, _, hb, hi, Only.refl _ _⟩
  | cons c t =>
    have e1 : s.inp.length = t.length + 1 := by rw [hin]; rfl
    rw [e1] at c2 h2 h4 h7
    have ea := h4 (by omega)
    subst ea
    have hc : w.cell? ⟨b, off, none⟩ = some (.int .u8 c) := h6 0 _ (by rw [hin]; rfl)
    have h6' := Lib.hid h6
    have hb := Lib.hid (h7 (by omega))
    have HB := Lib.hid hB
    clear hB hI0 h4 h5 h6 h7 e1
    have hl0 : (0 : Int) ≤ (t.length : Int) := Int.natCast_nonneg _
    obtain ⟨L, hL⟩ : ∃ L, t.length = L := ⟨_, rfl⟩
    rw [hL] at c2 h2 hl0
    have hmx : (cap : Int) ≤ 9223372036854775807 := by
      have : maxLen ≤ 9223372036854775807 := by decide
      omega
    go_enter Try.func60, Try.ntmps60
    go_wp2_with fail
    all_goals go_ret
    all_goals
      have hc1 : c < 256 := hby c (by rw [hin]; exact List.mem_cons_self)
      have ec : (c : Int) % 4294967296 = (c : Int) := by omega
      have hb1 := HB.out.setCell 2
      have ho1 : Only (One mb) w w := Only.refl _ _
    · refine ⟨congrArg (fun x => Ending.returned (.int .u32 x)) ec, _, hb1 _, ?_, Only.setOne ho1 _ _⟩
      rw [← hL]
      refine brow_tail (off := off) (hb.out) (h6'.out) hin (by omega) (by omega) (fun h => by omega) ?_
      intro k hk e
      exact hk (by rw [e]; exact hS)
    · refine ⟨congrArg (fun x => Ending.returned (.int .u32 x)) ec, _, hb1 _, ?_, Only.setOne ho1 _ _⟩
      rw [← hL]
      refine brow_tail (off := off) (hb.out) (h6'.out) hin (by omega) (by omega) (fun h => rfl) ?_
      intro k hk e
      exact hk (by rw [e]; exact hS)
end Go.Proofs.Ythimhbfglgnohaa

/- The machine in memory, opened. -/
set_option linter.unusedSimpArgs false
set_option linter.unusedVariables false
namespace Go.Proofs.Ythimhbfglgnohaa
open Go.RowKit M
variable {Q : Nat → Prop}

/-- The blocks in which what a machine reads may not lie: its own, and those of Q. -/
def Own4 (Q : Nat → Prop) (mb wb : Nat) (ob : Option Nat) : Nat → Prop := fun k => Own3 mb wb ob k ∨ Q k

/-- The program's machine, by its four lists. -/
def MAt (Q : Nat → Prop) (w : World) (mb wb : Nat) (ob : Option Nat) (code : List Nat) (s : St) (cv iv ov : Value) : Prop :=
  Blk w mb (icells cv (.slice (some ⟨wb, 0, none⟩) s.mem.length s.mem.length) iv ov s) 65 ∧ Blk w wb (U32s s.mem).toArray 26 ∧ mb ≠ wb ∧
    CRow (Own4 Q mb wb ob) w cv code ∧ BRow (Own4 Q mb wb ob) w iv s.inp ∧ w.ownsRow 0 5 1 ov s.out.length (U8s s.out) ∧ ov.ownBlock = ob ∧ ob ≠ some mb ∧ ob ≠ some wb
theorem MAt.quiet {w w' : World} {mb wb : Nat} {ob : Option Nat} {code : List Nat} {s : St} {cv iv ov : Value} (h : MAt Q w mb wb ob code s cv iv ov) (ho : Only Nil w w') : MAt Q w' mb wb ob code s cv iv ov := by
  obtain ⟨h1, h2, h3, h4, h5, h6, h7, h8, h9⟩ := h
  exact ⟨h1.kept ho (fun h => h), h2.kept ho (fun h => h), h3, h4.kept ho (fun _ h => h.elim), h5.kept ho (fun _ h => h.elim), ownsRow_only h6 ho (fun _ _ h => h), h7, h8, h9⟩
theorem own3_one {mb wb : Nat} {ob : Option Nat} : ∀ k, M.One mb k → Own4 Q mb wb ob k := fun _ h => Or.inl (Or.inl h)
theorem MAt.own {w w' : World} {mb wb : Nat} {ob : Option Nat} {code : List Nat} {s s' : St} {cv iv ov : Value} (h : MAt Q w mb wb ob code s cv iv ov) (ho : Only (M.One mb) w w')
    (hB : Blk w' mb (icells cv (.slice (some ⟨wb, 0, none⟩) s.mem.length s.mem.length) iv ov s') 65) (hm : s'.mem = s.mem) (hi : s'.inp = s.inp) (hu : s'.out = s.out) : MAt Q w' mb wb ob code s' cv iv ov := by
  obtain ⟨h1, h2, h3, h4, h5, h6, h7, h8, h9⟩ := h
  refine ⟨by rw [hm]; exact hB, by rw [hm]; exact h2.kept ho (fun h => h3 h.symm), h3, h4.kept ho own3_one, by rw [hi]; exact h5.kept ho own3_one, ?_, h7, h8, h9⟩
  rw [hu]
  exact ownsRow_only h6 ho (fun k hk h => h8 (by rw [← h7, hk, show k = mb from h]))
theorem MAt.in_ {w w' : World} {mb wb : Nat} {ob : Option Nat} {code : List Nat} {s s' : St} {cv iv iv' ov : Value} (h : MAt Q w mb wb ob code s cv iv ov) (ho : Only (M.One mb) w w')
    (hB : Blk w' mb (icells cv (.slice (some ⟨wb, 0, none⟩) s.mem.length s.mem.length) iv' ov s') 65) (hm : s'.mem = s.mem) (hi : BRow (Own4 Q mb wb ob) w' iv' s'.inp) (hu : s'.out = s.out) : MAt Q w' mb wb ob code s' cv iv' ov := by
  obtain ⟨h1, h2, h3, h4, h5, h6, h7, h8, h9⟩ := h
  refine ⟨by rw [hm]; exact hB, by rw [hm]; exact h2.kept ho (fun h => h3 h.symm), h3, h4.kept ho own3_one, hi, ?_, h7, h8, h9⟩
  rw [hu]
  exact ownsRow_only h6 ho (fun k hk h => h8 (by rw [← h7, hk, show k = mb from h]))

/-- The cells of an instruction that lies in memory. -/
def icz (F : Int) (u v : Bool) (a b c : Nat) (o : Nat) (m : Int) : Array Value := #[.int .i64 F, .bool u, .bool v, .int .i64 a, .int .i64 b, .int .i64 c, .int .i64 o, .int .i32 m]
def InsAt (w : World) (bk : Nat) (F : Int) (u v : Bool) (a b c : Nat) (o : Nat) (m : Int) : Prop :=
  w.cell? ⟨bk, 0, none⟩ = some (.int .i64 F) ∧ w.cell? ⟨bk, 1, none⟩ = some (.bool u) ∧ w.cell? ⟨bk, 2, none⟩ = some (.bool v) ∧ w.cell? ⟨bk, 3, none⟩ = some (.int .i64 a) ∧
  w.cell? ⟨bk, 4, none⟩ = some (.int .i64 b) ∧ w.cell? ⟨bk, 5, none⟩ = some (.int .i64 c) ∧ w.cell? ⟨bk, 6, none⟩ = some (.int .i64 o) ∧ w.cell? ⟨bk, 7, none⟩ = some (.int .i32 m) ∧ bk < w.heap.size
theorem insAt {w w' : World} {F : Int} {u v : Bool} {a b c o : Nat} {m : Int} {t : TypeId} (ho : Only Nil (w.alloc (.cells (icz F u v a b c o m) t)) w') : InsAt w' w.heap.size F u v a b c o m := by
  have h := (Blk.new w (icz F u v a b c o m) t).kept ho (fun h => h)
  exact ⟨h.cell 0, h.cell 1, h.cell 2, h.cell 3, h.cell 4, h.cell 5, h.cell 6, h.cell 7, h.lt⟩

set_option maxHeartbeats 800000 in
theorem load_v (mb wb : Nat) (ob : Option Nat) (code : List Nat) (a b c o : Nat) (m : Int) (h1 : -2147483648 ≤ m) (h2 : m ≤ 2147483647) (hb : b < 16) (cv iv ov : Value) (s : St) (w : World) (hl : s.mem.length ≤ 1048576) (hM : MAt Q w mb wb ob code s cv iv ov) :
    Calls Try.prog 44 #[.pointer (some ⟨mb, 0, none⟩), ic 2 false true a b c o m] w fun e w' => e = .returned (.bool false) ∧ Only Nil w w' := by
  have cP := fun (w' : World) (ho : Only Nil w w') => place_any mb 2 false true a b c o m hb h1 h2 cv _ iv ov s w' (hM.1.kept ho (fun h => h))
  obtain ⟨p, hp⟩ : ∃ p, (s.R b + U m) % 4294967296 = p := ⟨_, rfl⟩
  have hp1 : p < 4294967296 := by omega
  have cW := fun (w' : World) (ho : Only Nil w w') => wordAt_any mb wb p hp1 cv iv ov s w' hl (hM.1.kept ho (fun h => h))
  rw [hp] at cP
  clear hM hp
  obtain ⟨ok, hok⟩ : ∃ ok, decide (p % 4 = 0 ∧ p / 4 < s.mem.length) = ok := ⟨_, rfl⟩
  rw [hok] at cW
  unfold ic at cP ⊢
  go_enter Try.func44, Try.ntmps44
  go_wp2_with fail
  refine (cP _ ((Only.refl _ _).alloc _)).mono ?_
  rintro e w1 ⟨rfl, ho1⟩
  have i1 := insAt (ho1)
  have ho1' : Only Nil w w1 := ((Only.refl Nil w).alloc _).trans ho1 (fun _ _ h => h)
  obtain ⟨ib, hib⟩ : ∃ b, w.heap.size = b := ⟨_, rfl⟩
  rw [hib] at i1 ⊢
  go_wp2_with fail
  refine (cW _ ho1').mono ?_
  rintro e w2 ⟨rfl, ho2⟩
  have ho2' : Only Nil w w2 := ho1'.trans ho2 (fun _ _ h => h)
  obtain ⟨x0, x1, x2, x3, x4, x5, x6, x7, x8⟩ := i1
  have y2 := ho2.cell x2 (fun h => h)
  go_wp2_with fail
  go_ret
  exact ⟨rfl, ho2'⟩
end Go.Proofs.Ythimhbfglgnohaa

