/- A stack machine is made. -/
import Derived.Test.YtpnhjjihdcopnaaSDo
import Derived.Test.YtpnhjjihdcopnaaCMath
import Derived.KernelRfl
import Derived.Deep.QuietTactic
set_option linter.unusedSimpArgs false
set_option linter.unusedVariables false
namespace Go.Proofs.Ytpnhjjihdcopnaa
open Go.RowKit M

theorem infoI32 : (Try.prog.info? 21).map (fun i => (i.zero, i.size, i.bytes)) = some (some (.int .i32 0), 1, 4) := by kernel_rfl
theorem infoCod : (Try.prog.info? 55).map (fun i => (i.zero, i.size, i.bytes)) = some (some (.agg #[.int .i64 0, .int .i32 0]), 2, 16) := by kernel_rfl
theorem made_zeroI (n : Nat) : madeCells #[Value.int .i32 0] n = (I32s (List.replicate n 0)).toArray := by
  unfold madeCells I32s
  apply Array.ext
  · simp
  · intro i h1 h2
    simp [Nat.mod_one]
set_option maxRecDepth 10000 in
theorem make_i32 (n : Nat) (hn : n ≤ 1048576) (w : World) : (Instr.makeSlice 57 (.int .i64 n) (.int .i64 n)).run Try.prog w = .ok (.slice (some ⟨w.heap.size, 0, none⟩) n n) (w.alloc (.cells (I32s (List.replicate n 0)).toArray 21)) := by
  obtain ⟨i0, hi, hz0, hz1, hz2⟩ := info_parts infoI32
  have h := run_make (P := Try.prog) w 57 21 i0 (.int .i32 0) Try.underlying57 hi hz0 .i64 .i64 (n : Int) (n : Int) (Int.natCast_nonneg _) (Int.le_refl _) (by rw [hz2]; omega) (by omega)
  simp only [Int.toNat_natCast, hz1, Nat.mul_one] at h
  rw [h]
  congr 2
  rw [show (Value.int .i32 0).cells = #[Value.int .i32 0] from rfl, made_zeroI]
theorem codCells_one (L : List Cod) : ∀ u ∈ codCells L, u.oneCell' = true := by
  intro u hu
  unfold codCells at hu
  rw [List.mem_flatMap] at hu
  obtain ⟨c, _, hu⟩ := hu
  rcases List.mem_cons.1 hu with rfl | hu
  · rfl
  · rw [List.mem_singleton.1 hu]; rfl
theorem codCells_at {w : World} {b off : Nat} {L : List Cod} (h : CAt w b off L) (j : Nat) (u : Value) (hu : (codCells L)[j]? = some u) : w.cell? ⟨b, off + j, none⟩ = some u := by
  have hj := (List.getElem?_eq_some_iff.1 hu).1
  rw [codCells_len] at hj
  have hk : j / 2 < L.length := by omega
  have e : L[j / 2]? = some (L.getD (j / 2) default) := by simp [List.getD, hk]
  have h1 := h (j / 2) _ e
  have h2 := codCells_get L (j / 2) _ e
  rcases Nat.mod_two_eq_zero_or_one j with hm | hm
  · have ej : j = j / 2 * 2 := by omega
    rw [ej] at hu ⊢
    rw [h1.1, ← h2.1, hu]
  · have ej : j = j / 2 * 2 + 1 := by omega
    rw [ej] at hu ⊢
    rw [← Nat.add_assoc, h1.2, ← h2.2, hu]

section
variable {P : Program} {w : World}
/-- append of instructions that lie anywhere to nothing, as one step of a region that draws. -/
theorem step_append_cod {ops : Array Oper} {o : Oper} {a : Act} {K : Act → World → Prop} {Q : Exit → Act → World → Prop} {E : Prop} (hgd : o.guard = none) (s x : Operand) (t : TypeId)
    (ho : o.op = .call { callee := .builtin .append, args := #[s, x], argTypes := #[t, t] })
    (e : TypeId) (i : TypeInfo) (z : Value) (bytes : Nat) (ht : P.underlying t = some (.slice e)) (hi : P.info? e = some i) (hz : i.zero = some z)
    (hsize : i.size = 2) (hby : i.bytes = bytes) (hzs : z.cells.size = 2)
    (hs : a.eval s = .slice none 0 0) (b : Nat) (sv : Value) (L : List Cod) (hx : a.eval x = sv) (hsrc : CSrc w b sv L) (hcap : ∀ n cap, sv = .slice none n cap → cap = 0)
    (h63 : 0 + L.length ≤ maxLen) (hbytes : (0 + L.length) * bytes ≤ 140737488355328)
    (h : ∀ v' w', w'.ownsRow w.heap.size e 2 v' (0 + L.length) ([] ++ codCells L) → Only Nil w w' → K (a.put o.dst v') w') :
    if Region.wanted o (yielded ops a.tmps) = true then Oper.wp P o a w K Q else E := by
  have hw : Region.wanted o (yielded ops a.tmps) = true := by simp [Region.wanted, hgd]
  rw [if_pos hw]
  obtain ⟨ao, cap, off, rfl, hs2, hs3, hs4, hs5⟩ := hsrc
  have hown : w.ownsRow w.heap.size e 2 (.slice none 0 0) 0 [] := World.ownsRow_nil _ _ _ _
  have hrun : ∃ v' w', (Builtin.append_ #[t, t] o.type #[.slice none 0 0, .slice ao L.length cap]).run P w = .ok v' w' ∧ w'.ownsRow w.heap.size e 2 v' (0 + L.length) ([] ++ codCells L) ∧ Only Nil w w' := by
    cases ao with
    | none =>
      have hn : L = [] := by
        cases L with
        | nil => rfl
        | cons y t => have := hs4 (by simp); simp at this
      subst hn
      refine ⟨.slice none 0 0, w, ?_, hown, Only.refl _ _⟩
      have hc0 : cap = 0 := hcap _ _ rfl
      subst hc0
      have := run_append_owned_none (P := P) (w := w) w.heap.size t o.type e i 2 ht hi (.slice none 0 0) 0 [] hown
      exact this
    | some ad =>
      obtain ⟨v', w', hr, h2, h3, _⟩ := run_append_row (P := P) w.heap.size t o.type e i z 2 bytes ht hi hz hsize hby hzs (by decide) (.slice none 0 0) 0 [] hown ad L.length cap (codCells L) (codCells_len L)
        (by
          intro j u hj
          have hjl : j < (codCells L).length := (List.getElem?_eq_some_iff.1 hj).1
          rw [codCells_len] at hjl
          have e1 := hs4 (by omega)
          injection e1 with e1
          rw [e1, addr_add]
          exact codCells_at hs5 j u hj) (codCells_one L) h63 hbytes (Nat.le_refl _)
      exact ⟨v', w', hr, h2, (Only.of_grown h3).mono (fun _ h => by cases h)⟩
  obtain ⟨v', w', hr, h2, h3⟩ := hrun
  unfold Oper.wp execOp
  simp only [ho, resolve, invoke, builtin, Sem.run_bind, Sem.run_pure, Result.andThen_ok, List.map_toArray, List.map_cons, List.map_nil, hs, hx, hr]
  exact h v' w' h2 h3
end

theorem codRow_of_own {S : Nat → Prop} {w : World} {base : Nat} {v : Value} {l : List Cod} {n : Nat} (h : w.ownsRow base 55 2 v n (codCells l)) (hS : ∀ k, v.ownBlock = some k → ¬ S k) : CodRow S w v l := by
  have hl : l.length = n := by have := h.1; rw [codCells_len] at this; omega
  obtain ⟨ao, cap, off, h1, h2, h3, h4, h5⟩ := CSrc.of_own h
  refine ⟨v.ownBlock.getD 0, ao, cap, off, h1, h2, h3, h4, h5, fun h0 => ?_⟩
  rcases h.2 with ⟨rfl, hz⟩ | ⟨g, cap', cur, rfl, hb, hg, _⟩
  · omega
  · have hg2 := (Array.getElem?_eq_some_iff.1 hg).1
    exact ⟨hS g rfl, hg2⟩
theorem bytRow_of_own {S : Nat → Prop} {w : World} {base : Nat} {v : Value} {l : List Nat} {n : Nat} (h : w.ownsRow base 5 1 v n (U8s l)) (hS : ∀ k, v.ownBlock = some k → ¬ S k) : BytRow S w v l := by
  have hl : l.length = n := by have := h.1; simpa [U8s] using this
  subst hl
  rcases h.2 with ⟨rfl, h0⟩ | ⟨g, cap, cur, rfl, hb, hg, hnc, hcm, _⟩
  · exact ⟨0, none, 0, 0, by rw [h0], by omega, by decide, fun h => by omega, fun _ => rfl, fun i u hu => by have := (List.getElem?_eq_some_iff.1 hu).1; simp [U8s] at this; omega, fun h => by omega⟩
  · refine ⟨g, _, cap, 0, rfl, hnc, hcm, fun _ => rfl, nofun, fun i u hu => ?_, fun _ => ⟨hS g rfl, (Array.getElem?_eq_some_iff.1 hg).1⟩⟩
    have hi : i < l.length := by have := (List.getElem?_eq_some_iff.1 hu).1; simpa [U8s] using this
    have := World.ownsRow.cellAt h i (by omega)
    rw [Nat.zero_add, this, hu]
theorem own_lt {w : World} {base : Nat} {e : TypeId} {size : Nat} {v : Value} {n : Nat} {xs : List Value} (h : w.ownsRow base e size v n xs) {k : Nat} (hk : v.ownBlock = some k) : k < w.heap.size ∧ base ≤ k := by
  rcases h.2 with ⟨rfl, _⟩ | ⟨g, cap, cur, rfl, hb, hg, _⟩
  · cases hk
  · injection hk with hk
    have hk : g = k := hk
    have := (Array.getElem?_eq_some_iff.1 hg).1
    omega
/-- The parts of a machine are put together. -/
theorem madeS_at {Q : Nat → Prop} {w0 w4 : World} {cv iv : Value} {wb n q bA bB : Nat} {code : List Cod} {inp : List Nat} (hA : w4.ownsRow bA 55 2 cv code.length (codCells code)) (hB : w4.ownsRow bB 5 1 iv inp.length (U8s inp)) (hW : Blk w4 wb (I32s (List.replicate n 0)).toArray 21)
    (h1 : w0.heap.size ≤ bA) (h2 : w0.heap.size ≤ bB) (h3 : cv.ownBlock ≠ some wb) (h4 : iv.ownBlock ≠ some wb) (hQ : ∀ k, Q k → k < w0.heap.size) :
    SAt Q (w4.alloc (.cells (scells cv (.slice (some ⟨wb, 0, none⟩) n n) (.slice none 0 0) (.slice none 0 0) iv (.slice none 0 0) (ss0 n q inp)) 62)) w4.heap.size wb code (ss0 n q inp) cv (.slice none 0 0) (.slice none 0 0) iv (.slice none 0 0) := by
  have hm : (ss0 n q inp).mem.length = n := by show (List.replicate n 0).length = n; simp
  have ho : Only Nil w4 (w4.alloc (.cells (scells cv (.slice (some ⟨wb, 0, none⟩) n n) (.slice none 0 0) (.slice none 0 0) iv (.slice none 0 0) (ss0 n q inp)) 62)) := (Only.refl _ _).alloc _
  have hlt := hW.lt
  refine ⟨by rw [hm]; exact Blk.new _ _ _, hW.alloc _, World.ownsRow_nil _ _ _ _, World.ownsRow_nil _ _ _ _, World.ownsRow_nil _ _ _ _, ?_, ?_, ⟨by omega, nofun, nofun, nofun, nofun, nofun, nofun, nofun, nofun, nofun⟩⟩
  · refine (codRow_of_own hA (fun k hk hS => ?_)).kept ho (fun _ h => h.elim)
    obtain ⟨q1, q2⟩ := own_lt hA hk
    rcases hS with (h | h | h | h | h) | h
    · omega
    · exact h3 (by rw [hk, h])
    · cases h
    · cases h
    · cases h
    · have := hQ k h; omega
  · refine (bytRow_of_own hB (fun k hk hS => ?_)).kept ho (fun _ h => h.elim)
    obtain ⟨q1, q2⟩ := own_lt hB hk
    rcases hS with (h | h | h | h | h) | h
    · omega
    · exact h4 (by rw [hk, h])
    · cases h
    · cases h
    · cases h
    · have := hQ k h; omega

theorem nil_sub {S : Nat → Prop} {m : Nat} : ∀ i, i < m → Nil i → S i := fun _ _ h => h.elim
theorem nil_not {b : Nat} : ¬ Nil b := fun h => h
/-- A machine that was made. -/
def MadeS (Q : Nat → Prop) (w : World) (code : List Cod) (inp : List Nat) (n q : Nat) (e : Ending) (w' : World) : Prop :=
  ∃ mb wb cv' iv', e = .returned (.pointer (some ⟨mb, 0, none⟩)) ∧ w.heap.size ≤ mb ∧ w.heap.size ≤ wb ∧ Only Nil w w' ∧ SAt Q w' mb wb code (ss0 n q inp) cv' (.slice none 0 0) (.slice none 0 0) iv' (.slice none 0 0)
theorem madeS_of {Q : Nat → Prop} {w0 w4 : World} {cv iv : Value} {wb n q bA bB : Nat} {code : List Cod} {inp : List Nat} (hA : w4.ownsRow bA 55 2 cv code.length (codCells code)) (hB : w4.ownsRow bB 5 1 iv inp.length (U8s inp)) (hW : Blk w4 wb (I32s (List.replicate n 0)).toArray 21)
    (h1 : w0.heap.size ≤ bA) (h2 : w0.heap.size ≤ bB) (h3 : cv.ownBlock ≠ some wb) (h4 : iv.ownBlock ≠ some wb) (hQ : ∀ k, Q k → k < w0.heap.size) (hlo : w0.heap.size ≤ wb) (ho : Only Nil w0 w4) {X : Nat} (hX : X = w4.heap.size) :
    MadeS Q w0 code inp n q (.returned (.pointer (some ⟨X, 0, none⟩))) (w4.alloc (.cells #[cv, .slice (some ⟨wb, 0, none⟩) n n, .slice none 0 0, .slice none 0 0, iv, .slice none 0 0, .int .i64 q, .int .i64 q, .int .i64 0, .int .i64 0, .int .i64 0] 62)) := by
  subst hX
  exact ⟨_, wb, cv, iv, rfl, ho.size, hlo, ho.alloc _, madeS_at hA hB hW h1 h2 h3 h4 hQ⟩

set_option maxRecDepth 10000 in
set_option maxHeartbeats 3200000 in
theorem newS_any {Q : Nat → Prop} (code : List Cod) (inp : List Nat) (N B : Int) (n q : Nat) (N0 B0 : Int) (hN0 : (if N < 0 then 0 else N) = N0) (hN : (if 1048576 < N0 then 1048576 else N0) = (n : Int)) (hB0 : (if B < 0 then 0 else B) = B0) (hB' : (if (n : Int) < B0 then (n : Int) else B0) = (q : Int)) (cb ib : Nat) (cv iv : Value) (w : World) (hc : CSrc w cb cv code) (hcn : ∀ n cap, cv = .slice none n cap → cap = 0) (hi' : Src w ib iv (U8s inp)) (hl1 : code.length ≤ 1048576) (hl2 : inp.length ≤ 1048576) (hn : n ≤ 1048576) (hQ : ∀ k, Q k → k < w.heap.size) :
    Calls Try.prog 9 #[cv, .int .i64 N, .int .i64 B, iv] w fun e w' => MadeS Q w code inp n q e w' := by
  obtain ⟨i8, h8, h80, h81, h82⟩ := info_parts Try.info5
  obtain ⟨i32, h32, h320, h321, h322⟩ := info_parts infoCod
  have mk : ∀ w, (Instr.makeSlice 57 (.int .i64 n) (.int .i64 n)).run Try.prog w = .ok (.slice (some ⟨w.heap.size, 0, none⟩) n n) (w.alloc (.cells (I32s (List.replicate n 0)).toArray 21)) := fun w => make_i32 n hn w
  obtain ⟨V, hV⟩ : ∃ V, U8s inp = V := ⟨_, rfl⟩
  obtain ⟨Z, hZ⟩ : ∃ Z, (I32s (List.replicate n 0)).toArray = Z := ⟨_, rfl⟩
  rw [hV] at hi'
  rw [hZ] at mk
  have lV : V.length = inp.length := by rw [← hV, U8s_len']
  have oV : Hid (∀ u ∈ V, u.oneCell' = true) := Lib.hid (by rw [← hV]; exact U8s_one' _)
  have b1 : Hid (0 + code.length ≤ maxLen) := Lib.hid (by simp [maxLen]; omega)
  have b2 : Hid ((0 + code.length) * 16 ≤ 140737488355328) := Lib.hid (by omega)
  have b3 : Hid (0 + V.length ≤ maxLen) := Lib.hid (by rw [lV]; simp [maxLen]; omega)
  have b4 : Hid ((0 + V.length) * 1 ≤ 140737488355328) := Lib.hid (by rw [lV]; omega)
  have HC := Lib.hid hc
  have HCN := Lib.hid hcn
  have HI := Lib.hid hi'
  have HV := Lib.hid hV
  have HZ := Lib.hid hZ
  have HQ := Lib.hid hQ
  have HLV := Lib.hid lV
  clear hc hcn hi' hV hZ hQ hl1 hl2 hn lV
  go_enter Try.func9, Try.ntmps9
  go_wp2_with fail
  go_region_law (first
    | (refine step_append_cod rfl _ _ 22 rfl 55 i32 _ 16 Try.underlying22 h32 h320 h321 h322 rfl rfl cb _ code (by first | rfl | simp [Act.eval, Act.put]) (HC.out.kept (by (repeat with_reducible first | exact Only.refl _ _ | exact hnB | refine Only.drew ?_ | refine Only.alloc ?_ _))) HCN.out b1.out b2.out ?_; intro vA wA hownA hoA; obtain ⟨aoA, nA, capA, rfl⟩ := ownsRow_slice hownA; have hnA : Only Nil w wA := Only.trans (by (repeat with_reducible first | exact Only.refl _ _ | exact hnB | refine Only.drew ?_ | refine Only.alloc ?_ _)) hoA (fun _ _ h => by cases h))
    | (refine step_append_from rfl _ _ 23 rfl _ 5 i8 (.int .u8 0) 1 Try.underlying23 h8 h80 h81 h82 rfl _ 0 [] rfl (World.ownsRow_nil _ _ _ _) ib _ V (by first | rfl | simp [Act.eval, Act.put]) (HI.out.kept (S := Nil) (by (repeat with_reducible first | exact Only.refl _ _ | exact hnA | refine Only.drew ?_ | refine Only.alloc ?_ _)) (fun _ h => h)) oV.out b3.out b4.out (Nat.le_refl _) ?_; intro vB wB hownB hoB; obtain ⟨aoB, nB, capB, rfl⟩ := ownsRow_slice hownB; have hnB : Only Nil w wB := Only.trans (by (repeat with_reducible first | exact Only.refl _ _ | exact hnA | refine Only.drew ?_ | refine Only.alloc ?_ _)) hoB (fun _ _ h => by cases h)))
  all_goals go_wp2_with fail
  all_goals go_ret
  all_goals
    have hA := hownA
    rw [Nat.zero_add, List.nil_append] at hA
    have hB := hownB
    rw [HLV.out, Nat.zero_add, List.nil_append, ← HV.out] at hB
    have hoA' : Only Nil _ wA := hoA.mono (fun _ h => by cases h)
    have hoB' : Only Nil _ wB := hoB.mono (fun _ h => by cases h)
    have sA := hoA.size
    have sB := hoB.size
    have sNA := hnA.size
    have sNB := hnB.size
    simp only [World.size_alloc, World.size_drew] at sA sB sNA sNB
    refine madeS_of (ownsRow_only hA ?_ (fun _ _ h => h)) (ownsRow_only hB ?_ (fun _ _ h => h)) ?_ ?_ ?_ ?_ ?_ HQ.out ?_ ?_ ?_
    · (repeat first | with_reducible exact Only.refl _ _ | with_reducible refine Only.alloc ?_ _ | with_reducible refine Only.drew ?_ | with_reducible refine Only.trans ?_ hoB' nil_sub | with_reducible refine Only.trans ?_ hoA' nil_sub)
    · (repeat first | with_reducible exact Only.refl _ _ | with_reducible refine Only.alloc ?_ _ | with_reducible refine Only.drew ?_ | with_reducible refine Only.trans ?_ hoB' nil_sub | with_reducible refine Only.trans ?_ hoA' nil_sub)
    · rw [HZ.out]
      (repeat first | exact Blk.new _ _ _ | with_reducible refine Blk.alloc ?_ _ | with_reducible refine Blk.drew ?_ | with_reducible refine Blk.kept ?_ hoB' nil_not | with_reducible refine Blk.kept ?_ hoA' nil_not)
    · (try simp only [World.size_alloc, World.size_drew]); omega
    · (try simp only [World.size_alloc, World.size_drew]); omega
    · intro h
      have q := own_lt hownA h
      (try simp only [World.size_alloc, World.size_drew] at q)
      omega
    · intro h
      have q := own_lt hownB h
      (try simp only [World.size_alloc, World.size_drew] at q)
      omega
    · omega
    · (repeat first | with_reducible exact Only.refl _ _ | with_reducible refine Only.alloc ?_ _ | with_reducible refine Only.drew ?_ | with_reducible refine Only.trans ?_ hoB' nil_sub | with_reducible refine Only.trans ?_ hoA' nil_sub)
    · (try simp only [World.size_alloc, World.size_drew])
end Go.Proofs.Ytpnhjjihdcopnaa

/- What the stack machine comes to with the laws' codes. No Go program is imported. -/
set_option linter.unusedSimpArgs false
set_option linter.unusedVariables false
namespace Go.Proofs.Ytpnhjjihdcopnaa.M
open Go.RowKit

def cK9 : List Cod := [⟨1, 65⟩, ⟨33, 0⟩, ⟨0, 0⟩]
def sK9 : SS := ⟨[0, 0, 0, 0], [], [], [], [65], 0, 0, 2, 1, 0⟩
theorem run_k9 : sRun cK9 9 (ss0 4 0 []) = sK9 := by kernel_rfl

/-- The loop that reads and writes. -/
def cE9 : List Cod := [⟨32, 0⟩, ⟨26, 3⟩, ⟨0, 0⟩, ⟨31, 0⟩, ⟨33, 0⟩, ⟨25, 0⟩]
theorem echo9_round (m : List Int) (k : List (Nat × Nat)) (x : Nat) (t o : List Nat) (f p : Nat) (hx : x < 256) :
    sRun cE9 5 ⟨m, [], k, x :: t, o, f, p, 0, 0, 0⟩ = ⟨m, [], k, t, o ++ [x], f, p, 0, 0, 0⟩ := by
  have e : sRun cE9 5 ⟨m, [], k, x :: t, o, f, p, 0, 0, 0⟩ = ⟨m, [], k, t, o ++ [(((x : Nat) : Int) % 256).toNat], f, p, 0, 0, 0⟩ := by kernel_rfl
  rw [e, show (((x : Nat) : Int) % 256).toNat = x by omega]
theorem echo9_end (m : List Int) (k : List (Nat × Nat)) (o : List Nat) (f p : Nat) : sRun cE9 3 ⟨m, [], k, [], o, f, p, 0, 0, 0⟩ = ⟨m, [], k, [], o, f, p, 2, 1, 0⟩ := by kernel_rfl
theorem echo9_run (B : List Nat) (hB : ∀ x ∈ B, x < 256) : ∀ (m : List Int) (k : List (Nat × Nat)) (o : List Nat) (f p : Nat), sRun cE9 (5 * B.length + 3) ⟨m, [], k, B, o, f, p, 0, 0, 0⟩ = ⟨m, [], k, [], o ++ B, f, p, 2, 1, 0⟩ := by
  induction B with
  | nil => intro m k o f p; rw [List.append_nil]; exact echo9_end m k o f p
  | cons x t ih =>
    intro m k o f p
    rw [show 5 * (x :: t).length + 3 = 5 + (5 * t.length + 3) by rw [List.length_cons]; omega, sRun_add, echo9_round _ _ _ _ _ _ _ (hB x List.mem_cons_self), ih (fun y hy => hB y (List.mem_cons_of_mem _ hy))]
    rw [List.append_assoc]; rfl

/-- Two operands and an operation of theirs. -/
def cR9 (a b o : Int) : List Cod := [⟨1, a⟩, ⟨1, b⟩, ⟨o, 0⟩, ⟨0, 0⟩]
def sR9 (a b : Int) (R : Option Int) : SS := match R with
  | none => ⟨[], [a, b], [], [], [], 0, 0, 2, 2, 15⟩
  | some v => ⟨[], [v], [], [], [], 0, 0, 3, 1, 0⟩
/-- One instruction is done. -/
theorem sStep_at {code : List Cod} {s : SS} (q : Nat) (c : Cod) (hf : s.fin = 0) (hp : s.pc = q) (hc : code[q]? = some c) (hg : c.Good) : sStep code s = (sExec s c).getD (sEnded s 15) := by
  have hl := (List.getElem?_eq_some_iff.1 hc).1
  have e : code.getD q default = c := by rw [List.getD_eq_getElem?_getD, hc]; rfl
  unfold sStep
  rw [if_neg (by rw [hf]; decide)]
  unfold sDo
  rw [hp, if_pos (by omega), Int.toNat_natCast, e, if_pos hg]
theorem good_k {op k : Int} (h : hasK op = true) (h0 : 0 ≤ op) (h1 : op < 34) : (⟨op, k⟩ : Cod).Good := ⟨h0, h1, Or.inr h⟩
theorem good_0 {op : Int} (h0 : 0 ≤ op) (h1 : op < 34) : (⟨op, 0⟩ : Cod).Good := ⟨h0, h1, Or.inl rfl⟩
theorem run_r9 (a b o : Int) (h : 9 ≤ o) (h2 : o ≤ 24) (h14 : o ≠ 14) (h18 : o ≠ 18) : sRun (cR9 a b o) 9 (ss0 0 0 []) = sR9 a b (reck o a b) := by
  have ho : o = 9 ∨ o = 10 ∨ o = 11 ∨ o = 12 ∨ o = 13 ∨ o = 15 ∨ o = 16 ∨ o = 17 ∨ o = 19 ∨ o = 20 ∨ o = 21 ∨ o = 22 ∨ o = 23 ∨ o = 24 := by omega
  have h1 : sStep (cR9 a b o) (ss0 0 0 []) = ⟨[], [a], [], [], [], 0, 0, 1, 0, 0⟩ := by
    rw [sStep_at 0 ⟨1, a⟩ rfl rfl rfl (good_k (by decide) (by decide) (by decide))]
    kernel_rfl
  have h2 : sStep (cR9 a b o) ⟨[], [a], [], [], [], 0, 0, 1, 0, 0⟩ = ⟨[], [a, b], [], [], [], 0, 0, 2, 0, 0⟩ := by
    rw [sStep_at 1 ⟨1, b⟩ rfl rfl rfl (good_k (by decide) (by decide) (by decide))]
    kernel_rfl
  have e : sExec ⟨[], [a, b], [], [], [], 0, 0, 2, 0, 0⟩ ⟨o, 0⟩ = ((reck o a b).bind fun v => puts ⟨[], [a, b], [], [], [], 0, 0, 2, 0, 0⟩ 2 [v]).map sNext := by
    rcases ho with rfl | rfl | rfl | rfl | rfl | rfl | rfl | rfl | rfl | rfl | rfl | rfl | rfl | rfl
    all_goals kernel_rfl
  have h3 : sStep (cR9 a b o) ⟨[], [a, b], [], [], [], 0, 0, 2, 0, 0⟩ = (((reck o a b).bind fun v => puts ⟨[], [a, b], [], [], [], 0, 0, 2, 0, 0⟩ 2 [v]).map sNext).getD ⟨[], [a, b], [], [], [], 0, 0, 2, 2, 15⟩ := by
    rw [sStep_at 2 ⟨o, 0⟩ rfl rfl rfl (good_0 (by omega) (by omega)), e]
    rfl
  rw [sRun_succ, h1, sRun_succ, h2, sRun_succ, h3]
  cases reck o a b with
  | none => rw [sRun_fin _ _ _ (by show (2 : Nat) ≠ 0; decide)]; rfl
  | some v =>
    have e4 : ((((some v).bind fun v => puts ⟨[], [a, b], [], [], [], 0, 0, 2, 0, 0⟩ 2 [v]).map sNext).getD ⟨[], [a, b], [], [], [], 0, 0, 2, 2, 15⟩ : SS) = ⟨[], [v], [], [], [], 0, 0, 3, 0, 0⟩ := by kernel_rfl
    rw [e4, sRun_succ, sStep_at 3 ⟨0, 0⟩ rfl rfl rfl (good_0 (by decide) (by decide)), sRun_fin _ _ _ (by show (1 : Nat) ≠ 0; decide)]
    rfl

/-- Operands, one after the other. -/
def cF1 : List Cod := [⟨1, 7⟩, ⟨25, 0⟩]
def sF1 (m : List Int) (j : Nat) (p : Int) : SS := ⟨m, List.replicate j 7, [], [], [], 0, 0, p, 0, 0⟩
theorem full1_push (m : List Int) (j : Nat) (h : j + 1 ≤ 1000) : sStep cF1 (sF1 m j 0) = sF1 m (j + 1) 1 := by
  have e : sStep cF1 (sF1 m j 0) = ((puts (sF1 m j 0) 0 [7]).map sNext).getD (sEnded (sF1 m j 0) 15) := by kernel_rfl
  have e2 : puts (sF1 m j 0) 0 [7] = some (sF1 m (j + 1) 0) := by
    unfold puts sF1
    simp only [List.length_replicate, Nat.sub_zero, List.length_cons, List.length_nil]
    rw [if_pos (by omega)]
    rw [List.take_of_length_le (by simp), List.replicate_succ']
  rw [e, e2]; rfl
theorem full1_no (m : List Int) : sStep cF1 (sF1 m 1000 0) = sEnded (sF1 m 1000 0) 15 := by
  have e : sStep cF1 (sF1 m 1000 0) = ((puts (sF1 m 1000 0) 0 [7]).map sNext).getD (sEnded (sF1 m 1000 0) 15) := by kernel_rfl
  have e2 : puts (sF1 m 1000 0) 0 [7] = none := by
    unfold puts sF1
    simp only [List.length_replicate, Nat.sub_zero, List.length_cons, List.length_nil]
    rw [if_neg (by omega)]
  rw [e, e2]; rfl
theorem full1_jump (m : List Int) (j : Nat) : sStep cF1 (sF1 m j 1) = sF1 m j 0 := by kernel_rfl
theorem full1_run (m : List Int) : ∀ j, j ≤ 1000 → sRun cF1 (2 * j) (sF1 m 0 0) = sF1 m j 0 := by
  intro j
  induction j with
  | zero => intro _; rfl
  | succ j ih =>
    intro h
    rw [show 2 * (j + 1) = 2 * j + 2 by omega, sRun_add, ih (by omega), sRun_succ, full1_push m j h, sRun_succ, full1_jump]
    rfl
theorem full1_end (m : List Int) (k : Nat) (hk : 1 ≤ k) : ∃ t, sRun cF1 (2 * k - 1) (sF1 m 0 0) = t ∧ (t.fin == 0) = decide (k ≤ 1000) ∧ t.ops.length = min k 1000 := by
  refine ⟨_, rfl, ?_⟩
  by_cases h : k ≤ 1000
  · rw [show 2 * k - 1 = 2 * (k - 1) + 1 by omega, sRun_add, full1_run m (k - 1) (by omega), sRun_succ, full1_push m (k - 1) (by omega)]
    refine ⟨by rw [decide_eq_true h]; rfl, ?_⟩
    show (List.replicate (k - 1 + 1) (7 : Int)).length = _
    rw [List.length_replicate]; omega
  · rw [show 2 * k - 1 = 2 * 1000 + ((2 * k - 2002) + 1) by omega, sRun_add, full1_run m 1000 (by omega), sRun_succ, full1_no m, sRun_fin _ _ _ (by show (2 : Nat) ≠ 0; decide)]
    refine ⟨by rw [decide_eq_false h]; rfl, ?_⟩
    show (List.replicate 1000 (7 : Int)).length = _
    rw [List.length_replicate]; omega
/-- Calls, one in the other. -/
def cF2 : List Cod := [⟨27, 0⟩, ⟨0, 0⟩]
def sF2 (m : List Int) (j : Nat) : SS := ⟨m, [], List.replicate j (1, 0), [], [], 0, 0, 0, 0, 0⟩
theorem full2_call (m : List Int) (j : Nat) (h : j ≠ 1000) : sStep cF2 (sF2 m j) = sF2 m (j + 1) := by
  have e : sStep cF2 (sF2 m j) = (if (List.replicate j ((1 : Nat), (0 : Nat))).length = 1000 then none else some { sF2 m j with calls := List.replicate j (1, 0) ++ [(1, 0)], pc := 0 }).getD (sEnded (sF2 m j) 15) := by kernel_rfl
  rw [e, List.length_replicate, if_neg h, ← List.replicate_succ']
  rfl
theorem full2_no (m : List Int) : sStep cF2 (sF2 m 1000) = sEnded (sF2 m 1000) 15 := by
  have e : sStep cF2 (sF2 m 1000) = (if (List.replicate 1000 ((1 : Nat), (0 : Nat))).length = 1000 then none else some { sF2 m 1000 with calls := List.replicate 1000 (1, 0) ++ [(1, 0)], pc := 0 }).getD (sEnded (sF2 m 1000) 15) := by kernel_rfl
  rw [e, List.length_replicate, if_pos rfl]
  rfl
theorem full2_run (m : List Int) : ∀ j, j ≤ 1000 → sRun cF2 j (sF2 m 0) = sF2 m j := by
  intro j
  induction j with
  | zero => intro _; rfl
  | succ j ih =>
    intro h
    rw [sRun_add, ih (by omega), sRun_succ, full2_call m j (by omega)]
    rfl
theorem full2_end (m : List Int) (k : Nat) : ∃ t, sRun cF2 k (sF2 m 0) = t ∧ (t.fin == 0) = decide (k ≤ 1000) ∧ (t.fin = 0 ∨ t.trap = 15) := by
  refine ⟨_, rfl, ?_⟩
  by_cases h : k ≤ 1000
  · rw [full2_run m k h]
    exact ⟨by rw [decide_eq_true h]; rfl, Or.inl rfl⟩
  · rw [show k = 1000 + ((k - 1001) + 1) by omega, sRun_add, full2_run m 1000 (by omega), sRun_succ, full2_no m, sRun_fin _ _ _ (by show (2 : Nat) ≠ 0; decide)]
    exact ⟨by rw [decide_eq_false (by omega)]; rfl, Or.inr rfl⟩
end Go.Proofs.Ytpnhjjihdcopnaa.M

/- What is told of a stack machine; the laws' known; the loop that reads and writes. -/
set_option linter.unusedSimpArgs false
set_option linter.unusedVariables false
namespace Go.Proofs.Ytpnhjjihdcopnaa.M
open Go.RowKit
theorem ss0_ok (n q : Nat) (B : List Nat) (hn : n ≤ 1048576) (hq : q ≤ n) (hB : ∀ x ∈ B, x < 256) : (ss0 n q B).Ok := by
  have hl : (ss0 n q B).mem.length = n := by show (List.replicate n (0 : Int)).length = n; simp
  exact ⟨fun x hx => by rw [List.eq_of_mem_replicate hx]; unfold I32; omega, nofun, hB, nofun, by rw [hl]; exact hn, Nat.zero_le _, Nat.zero_le _, by rw [hl]; exact hq, by rw [hl]; exact hq, by show (-2147483648 : Int) ≤ 0; decide, by show (0 : Int) ≤ 2147483647; decide, nofun, Nat.zero_le _, Nat.zero_le _⟩
theorem sRun_ok {code : List Cod} {s : SS} (h : s.Ok) (hc : ∀ c ∈ code, I32 c.k) (hl : code.length ≤ 2147483647) : ∀ n, (sRun code n s).Ok ∧ (sRun code n s).mem.length = s.mem.length ∧ (sRun code n s).out.length ≤ s.out.length + n := by
  intro n
  induction n generalizing s with
  | zero => exact ⟨h, rfl, Nat.le_refl _⟩
  | succ n ih =>
    have k := sStep_k h hc hl
    rw [sRun_succ]
    obtain ⟨h1, h2, h3⟩ := ih k.ok
    exact ⟨h1, by rw [h2, k.mem], by have := k.out; omega⟩
end Go.Proofs.Ytpnhjjihdcopnaa.M
namespace Go.Proofs.Ytpnhjjihdcopnaa
open Go.RowKit M
variable {Q : Nat → Prop}

/-- The blocks of a machine that was made since. -/
structure Fr3 (m mb wb : Nat) (sv kv ov : Value) : Prop where
  mb : m ≤ mb
  wb : m ≤ wb
  s : ∀ j, sv.ownBlock = some j → m ≤ j
  k : ∀ j, kv.ownBlock = some j → m ≤ j
  o : ∀ j, ov.ownBlock = some j → m ≤ j
theorem Fr3.new {m mb wb : Nat} (h1 : m ≤ mb) (h2 : m ≤ wb) : Fr3 m mb wb (.slice none 0 0) (.slice none 0 0) (.slice none 0 0) := ⟨h1, h2, nofun, nofun, nofun⟩
theorem Fr3.only {w0 w w' : World} {mb wb : Nat} {sv kv ov sv' kv' ov' : Value} (h : Fr3 w0.heap.size mb wb sv kv ov) (ho : Only Nil w0 w) (g : Gone w w' mb wb sv kv ov sv' kv' ov') : Only Nil w0 w' :=
  ho.trans g.only (fun i hi hS => by
    rcases hS with e | e | e | e | e
    · have := h.mb; omega
    · have := h.wb; omega
    · have := h.s i e.symm; omega
    · have := h.k i e.symm; omega
    · have := h.o i e.symm; omega)
theorem Fr3.gone {m : Nat} {w w' : World} {mb wb : Nat} {sv kv ov sv' kv' ov' : Value} (h : Fr3 m mb wb sv kv ov) (hm : m ≤ w.heap.size) (g : Gone w w' mb wb sv kv ov sv' kv' ov') : Fr3 m mb wb sv' kv' ov' := by
  have f : ∀ {x y : Option Nat}, (y = x ∨ ∃ k, y = some k ∧ w.heap.size ≤ k) → (∀ j, x = some j → m ≤ j) → ∀ j, y = some j → m ≤ j := by
    intro x y h1 h2 j e
    rcases h1 with h1 | ⟨k, h1, h3⟩
    · exact h2 j (by rw [← h1, e])
    · rw [h1] at e; injection e with e; omega
  exact ⟨h.mb, h.wb, f g.s h.s, f g.k h.k, f g.o h.o⟩

set_option maxHeartbeats 800000 in
/-- The operands are told, in new memory. -/
theorem operandsS_any (mb wb : Nat) (code : List Cod) (s : SS) (cv sv kv iv ov : Value) (w : World) (hM : SAt Q w mb wb code s cv sv kv iv ov) (hol : s.ops.length ≤ 1000) :
    Calls Try.prog 29 #[.pointer (some ⟨mb, 0, none⟩)] w fun e w' => ∃ v, e = .returned v ∧ w'.ownsRow w.heap.size 21 1 v s.ops.length (I32s s.ops) ∧ Only Nil w w' := by
  obtain ⟨i0, hi0, hz0, hz1, hz2⟩ := info_parts Try.info21
  have c2 : w.cell? ⟨mb, 2, none⟩ = some sv := hM.blk.cell 2
  have hlt := hM.blk.lt
  have hsrc := Src.of_own hM.ops
  obtain ⟨sb, hsb⟩ : ∃ sb, sv.ownBlock.getD 0 = sb := ⟨_, rfl⟩
  rw [hsb] at hsrc
  obtain ⟨U, hU⟩ : ∃ U, I32s s.ops = U := ⟨_, rfl⟩
  have hUl : U.length = s.ops.length := by rw [← hU, I32s_len]
  have hU1 : ∀ u ∈ U, u.oneCell' = true := by rw [← hU]; exact I32s_one _
  rw [hU] at hsrc ⊢
  obtain ⟨n, hn⟩ : ∃ n, s.ops.length = n := ⟨_, rfl⟩
  rw [hn] at hol hUl ⊢
  have HL := Lib.hid hUl
  have HS := Lib.hid hsrc
  have HU1 := Lib.hid hU1
  clear hM hU hUl hsrc hU1 hn hsb
  go_enter Try.func29, Try.ntmps29
  go_wp2_with (at_builtin; refine wpList_append_src rfl _ _ 57 rfl w.heap.size 21 i0 (.int .i32 0) 4 Try.underlying57 hi0 hz0 hz1 hz2 rfl _ _ _ rfl (World.ownsRow_nil _ _ _ _) sb _ U rfl HS.out HU1.out ?c1 ?c2 ?c3 ?_)
  case c1 => rw [HL.out]; simp [maxLen]; omega
  case c2 => rw [HL.out]; omega
  case c3 => exact Nat.le_refl _
  intro v' w' hown hob ho
  have hown2 := hown
  rw [HL.out] at hown2
  obtain ⟨a, c, rfl⟩ := sl_of_own hown2
  go_wp2_with fail
  go_ret
  exact ⟨_, rfl, hown2, ho.mono (fun _ h => by cases h)⟩
end Go.Proofs.Ytpnhjjihdcopnaa

/- The stack laws' known; the loop that reads and writes. -/
set_option linter.unusedSimpArgs false
set_option linter.unusedVariables false
namespace Go.Proofs.Ytpnhjjihdcopnaa
open Go.RowKit M
variable {Q : Nat → Prop}

theorem srcB_none (w : World) (b : Nat) : Src w b (.slice none 0 0) (U8s []) := ⟨none, 0, 0, rfl, (fun h => absurd h (Nat.lt_irrefl 0)), (fun _ => rfl), (fun i u hu => by simp [U8s] at hu)⟩
theorem csrc_alloc (w : World) (L : List Cod) (t : TypeId) (cs : Array Value) (hc : cs.toList = codCells L) (n : Nat) (hn : L.length = n) (hm : n ≤ 1000) : CSrc (w.alloc (.cells cs t)) w.heap.size (.slice (some ⟨w.heap.size, 0, none⟩) n n) L := by
  subst hn
  exact ⟨_, L.length, 0, rfl, Nat.le_refl _, by unfold maxLen; omega, fun _ => rfl, cAt_new w L t cs hc (Only.refl Nil _) (fun h => h)⟩

set_option maxRecDepth 10000 in
set_option maxHeartbeats 3200000 in
theorem known9_any (w : World) : Calls Try.prog 7 #[] w fun e w' => e = .returned (.bool true) ∧ Only Nil w w' := by
  go_enter Try.func7, Try.ntmps7
  go_wp2_with fail
  have hs1 := csrc_alloc w cK9 55 #[.int .i64 1, .int .i32 65, .int .i64 33, .int .i32 0, .int .i64 0, .int .i32 0] rfl 3 rfl (by decide)
  have cN := newS_any (Q := Nil) cK9 [] 4 0 4 0 4 0 (by decide) (by decide) (by decide) (by decide) w.heap.size 0 _ _ _ hs1 (fun n cap h => by cases h) (srcB_none _ 0) (by decide) (by decide) (by decide) (fun _ h => h.elim)
  refine cN.mono ?_
  rintro e w4 ⟨mb, wb, cv', iv', rfl, hmb, hwb, ho4, hM4⟩
  clear cN hs1
  have ho1 : Only Nil w (w.alloc (.cells #[.int .i64 1, .int .i32 65, .int .i64 33, .int .i32 0, .int .i64 0, .int .i32 0] 55)) := (Only.refl _ _).alloc _
  have ho4' : Only Nil w w4 := ho1.trans ho4 (fun _ _ h => h)
  have hF4 : Fr3 w.heap.size mb wb (.slice none 0 0) (.slice none 0 0) (.slice none 0 0) := Fr3.new (by have := ho1.size; omega) (by have := ho1.size; omega)
  have cR := runS_any mb wb cK9 (by intro c hc; simp [cK9] at hc; rcases hc with rfl | rfl | rfl <;> (unfold I32; decide)) (by decide) (ss0 4 0 []) cv' _ _ iv' _ w4 hM4 (ss0_ok 4 0 [] (by decide) (by decide) (by intro x hx; cases hx)) 9 (by decide) (by decide) (by decide) (t := sK9) run_k9
  rw [show ((sK9.fin : Nat) : Int) = 1 from rfl, show ((sK9.trap : Nat) : Int) = 0 from rfl, show sK9.out = [65] from rfl] at cR
  have HF4 := Lib.hid hF4
  have HO4 := Lib.hid ho4'
  clear hM4 hmb hwb ho4 ho1 hF4 ho4'
  go_wp2_with fail
  refine cR.mono ?_
  rintro e w5 ⟨sv5, kv5, iv5, ov5, rv, rfl, hg5, hown5, hM5⟩
  clear cR
  have hF5 := HF4.out.gone HO4.out.size hg5
  have ho5 := HF4.out.only HO4.out hg5
  obtain ⟨ao9, n9, cap9, rfl⟩ := ownsRow_slice hown5
  have hstr := conv_src _ _ _ _ ((Src.of_own hown5).kept ((Only.refl Nil w5).alloc (.cells #[Value.slice ao9 n9 cap9, .int .i64 1, .int .i64 0] 34)) (fun _ h => h))
  have hA : ((strOf [65]).toList == [65]) = true := by rw [ByteArray.toList_eq]; decide
  obtain ⟨T, hT⟩ : ∃ T, strOf [65] = T := ⟨_, rfl⟩
  rw [hT] at hstr hA
  have HM := Lib.hid hM5
  have HF5 := Lib.hid hF5
  have HO5 := Lib.hid ho5
  clear hM5 hg5 hown5 hF5 ho5 hT HF4 HO4
  go_wp2_with fail
  have hoA : Only Nil w5 (w5.alloc (.cells #[Value.slice ao9 n9 cap9, .int .i64 1, .int .i64 0] 34)) := (Only.refl Nil w5).alloc _
  refine (pcS_any mb wb cK9 sK9 _ _ _ _ _ _ (HM.out.quiet hoA)).mono ?_
  rintro e w6 ⟨rfl, rfl⟩
  go_wp2_with fail
  refine (operandsS_any mb wb cK9 sK9 _ _ _ _ _ _ (HM.out.quiet hoA) (by decide)).mono ?_
  rintro e w7 ⟨v7, rfl, hown7, ho7⟩
  obtain ⟨a7, c7, rfl⟩ := sl_of_own hown7
  have ho57 := hoA.trans ho7 (fun _ _ h => h)
  clear hown7 ho7
  rw [show sK9.ops.length = 0 from rfl]
  go_wp2_with fail
  refine (stepS_any mb wb cK9 (by intro c hc; simp [cK9] at hc; rcases hc with rfl | rfl | rfl <;> (unfold I32; decide)) sK9 _ _ _ _ _ _ (HM.out.quiet ho57) (by rw [← run_k9]; exact (sRun_ok (ss0_ok 4 0 [] (by decide) (by decide) (by intro x hx; cases hx)) (by intro c hc; simp [cK9] at hc; rcases hc with rfl | rfl | rfl <;> (unfold I32; decide)) (by decide) 9).1) (by decide)).mono ?_
  rintro e w8 ⟨sv8, kv8, iv8, ov8, rfl, hg8, hM8⟩
  rw [show (sK9.fin == 0) = false from rfl]
  have ho8 := HF5.out.only (HO5.out.trans ho57 (fun _ _ h => h)) hg8
  clear hM8 hg8 ho57 hoA
  go_wp2_with fail
  go_ret
  exact ⟨rfl, ho8⟩

end Go.Proofs.Ytpnhjjihdcopnaa

/- Two rows of words are the same. -/
set_option linter.unusedSimpArgs false
set_option linter.unusedVariables false
namespace Go.Proofs.Ytpnhjjihdcopnaa
open Go.RowKit M

set_option maxRecDepth 10000 in
set_option maxHeartbeats 1600000 in
theorem i32s_same (b1 b2 : Nat) (s1 s2 : Value) (X : List Int) (w : World) (h1 : Src w b1 s1 (I32s X)) (h2 : Src w b2 s2 (I32s X)) (hl : X.length ≤ 1000) :
    Calls Try.prog 37 #[s1, s2] w fun e w' => e = .returned (.bool true) ∧ Only Nil w w' := by
  obtain ⟨n, hn⟩ : ∃ n, X.length = n := ⟨_, rfl⟩
  obtain ⟨ao1, cap1, off1, rfl, p2, p3, p4⟩ := h1
  obtain ⟨ao2, cap2, off2, rfl, q2, q3, q4⟩ := h2
  rw [I32s_len, hn] at p2 q2
  rw [I32s_len, hn]
  have HN := Lib.hid hn
  have H1 := Lib.hid p4
  have H2 := Lib.hid q4
  have G1 := Lib.hid p2
  have G2 := Lib.hid q2
  rw [hn] at hl
  clear hn p4 p3 p2 q4 q3 q2
  go_enter Try.func37, Try.ntmps37
  go_wp2_with fail
  go_loopg [5] n (fun m i wr => m ≤ n ∧ i = .int .i64 ((n - m : Nat) : Int) ∧ Only Nil w wr)
  case atStart => exact ⟨Nat.le_refl _, by simp, Only.refl _ _⟩
  case round =>
    obtain ⟨hm, rfl, ho⟩ := hrel
    obtain ⟨m, rfl⟩ : ∃ m, m = gk := ⟨gk, rfl⟩
    obtain ⟨k, hk⟩ : ∃ k, n - m = k := ⟨_, rfl⟩
    rw [hk]
    have hkn : k ≤ n := by omega
    have HK := Lib.hid hk
    clear hk
    by_cases hkl : k < n
    · have hkl2 : k < X.length := by rw [HN.out]; exact hkl
      obtain ⟨y, hy⟩ : ∃ y, X[k]? = some y := ⟨_, List.getElem?_eq_getElem hkl2⟩
      have hi : (I32s X)[k]? = some (.int .i32 y) := by simp [I32s, hy]
      have e1 := G1.out (by omega)
      have e2 := G2.out (by omega)
      subst e1
      subst e2
      have t1 := ho.cell (H1.out k _ hi) (fun h => h)
      have t2 := ho.cell (H2.out k _ hi) (fun h => h)
      have k0 : (0 : Int) ≤ (k : Int) := Int.natCast_nonneg _
      have k1 : (k : Int) < (n : Int) := by omega
      clear hi hy hkl2
      go_wp2_with fail
      go_quiet (fail)
      go_wp2_with fail
      go_roundg (m - 1)
      case measure => have := HK.out; omega
      case rel => exact ⟨by omega, by have := HK.out; go_num, M.Only.drewN ho _⟩
    · have hkl2 : k = n := by omega
      subst hkl2
      go_wp2_with fail
      go_ret
      exact ⟨rfl, ho⟩

end Go.Proofs.Ytpnhjjihdcopnaa

/- Frames one behind another; words that are moved: what the stack machine comes to. No Go program is imported. -/
set_option linter.unusedSimpArgs false
set_option linter.unusedVariables false
namespace Go.Proofs.Ytpnhjjihdcopnaa.M
open Go.RowKit

/-- Pieces of code, one behind another. -/
def blkL (f : Nat → List Cod) (i : Nat) : List Cod := (List.range i).flatMap f
theorem blkL_succ (f : Nat → List Cod) (i : Nat) : blkL f (i + 1) = blkL f i ++ f i := by unfold blkL; rw [List.range_succ, List.flatMap_append]; simp
theorem blkL_len {f : Nat → List Cod} {m : Nat} (h : ∀ j, (f j).length = m) (i : Nat) : (blkL f i).length = i * m := by
  induction i with
  | zero => simp [blkL]
  | succ i ih => rw [blkL_succ, List.length_append, ih, h, Nat.succ_mul]
theorem blkL_get {f : Nat → List Cod} {m : Nat} (h : ∀ j, (f j).length = m) {j r : Nat} (hr : r < m) : ∀ i, j < i → (blkL f i)[j * m + r]? = (f j)[r]? := by
  intro i
  induction i with
  | zero => intro h; omega
  | succ i ih =>
    intro hj
    rw [blkL_succ]
    by_cases hji : j < i
    · have : j * m + r < (blkL f i).length := by
        rw [blkL_len h]
        have : (j + 1) * m ≤ i * m := Nat.mul_le_mul_right m hji
        rw [Nat.succ_mul] at this
        omega
      rw [List.getElem?_append_left this]
      exact ih hji
    · have e : j = i := by omega
      subst e
      rw [List.getElem?_append_right (by rw [blkL_len h]; omega), blkL_len h, show j * m + r - j * m = r by omega]
theorem blkL_ext {f g : Nat → List Cod} (i : Nat) (h : ∀ j, j < i → f j = g j) : blkL f i = blkL g i := by
  induction i with
  | zero => rfl
  | succ i ih => rw [blkL_succ, blkL_succ, ih (fun j hj => h j (by omega)), h i (by omega)]
theorem blkL_mem {f : Nat → List Cod} {i : Nat} {c : Cod} (h : c ∈ blkL f i) : ∃ j, j < i ∧ c ∈ f j := by
  unfold blkL at h
  rw [List.mem_flatMap] at h
  obtain ⟨j, hj, hc⟩ := h
  exact ⟨j, List.mem_range.1 hj, hc⟩

theorem exec_push (s : SS) (k : Int) (h : s.ops.length < 1000) : sExec s ⟨1, k⟩ = some { s with ops := s.ops ++ [k], pc := s.pc + 1 } := by
  have e : sExec s ⟨1, k⟩ = (puts s 0 [k]).map sNext := by kernel_rfl
  rw [e]
  unfold puts
  rw [if_pos (by simp; omega)]
  simp [sNext]
theorem exec_local (s : SS) (k : Int) (h : s.ops.length < 1000) : sExec s ⟨5, k⟩ = some { s with ops := s.ops ++ [wrap32 (s.fp + k)], pc := s.pc + 1 } := by
  have e : sExec s ⟨5, k⟩ = (puts s 0 [wrap32 (s.fp + k)]).map sNext := by kernel_rfl
  rw [e]
  unfold puts
  rw [if_pos (by simp; omega)]
  simp [sNext]
theorem exec_store (s : SS) (a b : Int) (h : s.ops = [a, b]) (h0 : 0 ≤ a) (h1 : a < s.mem.length) : sExec s ⟨7, 0⟩ = some { s with mem := s.mem.set a.toNat b, ops := [], pc := s.pc + 1 } := by
  obtain ⟨m, o, c, i, u, f, t, p, e, r⟩ := s
  simp only at h h1
  subst h
  have e1 : sExec ⟨m, [a, b], c, i, u, f, t, p, e, r⟩ ⟨7, 0⟩ = (if 0 ≤ a ∧ a < m.length then puts ⟨m.set a.toNat b, [a, b], c, i, u, f, t, p, e, r⟩ 2 [] else none).map sNext := by kernel_rfl
  rw [e1, if_pos ⟨h0, h1⟩]
  rfl
theorem exec_call (s : SS) (k : Int) (h : s.calls.length ≠ 1000) : sExec s ⟨27, k⟩ = some { s with calls := s.calls ++ [((s.pc + 1).toNat, s.fp)], pc := k } := by
  have e1 : sExec s ⟨27, k⟩ = (if s.calls.length = 1000 then none else some { s with calls := s.calls ++ [((s.pc + 1).toNat, s.fp)], pc := k }) := by kernel_rfl
  rw [e1, if_neg h]
theorem exec_enter (s : SS) (k : Nat) (h : s.top + k ≤ s.mem.length) : sExec s ⟨28, k⟩ = some { s with fp := s.top, top := s.top + k, mem := cleared s.mem s.top k, pc := s.pc + 1 } := by
  have e1 : sExec s ⟨28, k⟩ = (sEnter s k).map sNext := by kernel_rfl
  rw [e1]
  unfold sEnter
  rw [if_neg (by omega), Int.toNat_natCast]
  rfl
theorem exec_leave (s : SS) (x : Nat × Nat) (h : s.calls.getLast? = some x) : sExec s ⟨29, 0⟩ = some { s with top := s.fp, pc := x.1, fp := x.2, calls := s.calls.dropLast } := by
  have e1 : sExec s ⟨29, 0⟩ = (match s.calls.getLast? with
    | none => none
    | some x => some { s with top := s.fp, pc := x.1, fp := x.2, calls := s.calls.dropLast }) := by kernel_rfl
  rw [e1, h]
theorem exec_move (s : SS) (p q k : Nat) (h : s.ops = [(p : Int), (q : Int)]) : sExec s ⟨8, k⟩ = if p + k ≤ s.mem.length ∧ q + k ≤ s.mem.length then some { s with mem := moved s.mem p q k, ops := [], pc := s.pc + 1 } else none := by
  obtain ⟨m, o, c, i, u, f, t, pc, e, r⟩ := s
  simp only at h
  subst h
  have e1 : sExec ⟨m, [(p : Int), (q : Int)], c, i, u, f, t, pc, e, r⟩ ⟨8, k⟩ = (if 0 ≤ (k : Int) ∧ 0 ≤ (p : Int) ∧ 0 ≤ (q : Int) ∧ (p : Int) + k ≤ m.length ∧ (q : Int) + k ≤ m.length then puts ⟨moved m (p : Int).toNat (q : Int).toNat (k : Int).toNat, [(p : Int), (q : Int)], c, i, u, f, t, pc, e, r⟩ 2 [] else none).map sNext := by kernel_rfl
  rw [e1]
  by_cases hh : p + k ≤ m.length ∧ q + k ≤ m.length
  · rw [if_pos (by omega), if_pos hh]; rfl
  · rw [if_neg (by omega), if_neg hh]; rfl
theorem exec_halt (s : SS) : sExec s ⟨0, 0⟩ = some (sEnded s 0) := by kernel_rfl

/-- Words that are kept, then moved. -/
def fM9 (l : List Int) (j : Nat) : List Cod := [⟨1, (j : Int)⟩, ⟨1, l.getD j 0⟩, ⟨7, 0⟩]
def cM9 (l : List Int) (p q k : Nat) : List Cod := blkL (fM9 l) l.length ++ [⟨1, (p : Int)⟩, ⟨1, (q : Int)⟩, ⟨8, (k : Int)⟩, ⟨0, 0⟩]
theorem fM9_len (l : List Int) (j : Nat) : (fM9 l j).length = 3 := rfl
theorem cM9_len (l : List Int) (p q k : Nat) : (cM9 l p q k).length = l.length * 3 + 4 := by unfold cM9; rw [List.length_append, blkL_len (fM9_len l)]; rfl
theorem cM9_get {l : List Int} {p q k j r : Nat} (hr : r < 3) (hj : j < l.length) : (cM9 l p q k)[j * 3 + r]? = (fM9 l j)[r]? := by
  unfold cM9
  rw [List.getElem?_append_left (by rw [blkL_len (fM9_len l)]; omega)]
  exact blkL_get (fM9_len l) hr _ hj
theorem cM9_end {l : List Int} {p q k r : Nat} : (cM9 l p q k)[l.length * 3 + r]? = ([⟨1, (p : Int)⟩, ⟨1, (q : Int)⟩, ⟨8, (k : Int)⟩, ⟨0, 0⟩] : List Cod)[r]? := by
  unfold cM9
  rw [List.getElem?_append_right (by rw [blkL_len (fM9_len l)]; omega), blkL_len (fM9_len l), show l.length * 3 + r - l.length * 3 = r by omega]
def sM9 (l : List Int) (i : Nat) : SS := ⟨l.take i ++ List.replicate (l.length - i) 0, [], [], [], [], 0, 0, ((i * 3 : Nat) : Int), 0, 0⟩
theorem sM9_len (l : List Int) (i : Nat) (h : i ≤ l.length) : (l.take i ++ List.replicate (l.length - i) (0 : Int)).length = l.length := by simp; omega
theorem step3 {code : List Cod} {s s1 s2 s3 : SS} (h1 : sStep code s = s1) (h2 : sStep code s1 = s2) (h3 : sStep code s2 = s3) : sRun code 3 s = s3 := by
  rw [sRun_succ, h1, sRun_succ, h2, sRun_succ, h3]; rfl
theorem getD_some {s t : SS} {X : Option SS} (h : X = some t) : X.getD s = t := by rw [h]; rfl
theorem moves_round (l : List Int) (p q k i : Nat) (hi : i < l.length) (hl : l.length ≤ 1000) : sRun (cM9 l p q k) 3 (sM9 l i) = sM9 l (i + 1) := by
  have hm := sM9_len l i (by omega)
  refine step3 (s1 := { sM9 l i with ops := [(i : Int)], pc := ((i * 3 : Nat) : Int) + 1 }) (s2 := { sM9 l i with ops := [(i : Int), l.getD i 0], pc := ((i * 3 : Nat) : Int) + 1 + 1 }) ?_ ?_ ?_
  · rw [sStep_at (i * 3) ⟨1, i⟩ rfl rfl (cM9_get (r := 0) (by decide) hi) (good_k (by decide) (by decide) (by decide))]
    exact getD_some (exec_push _ _ (by show 0 < 1000; decide))
  · rw [sStep_at (i * 3 + 1) ⟨1, l.getD i 0⟩ rfl (by show ((i * 3 : Nat) : Int) + 1 = _; omega) (cM9_get (r := 1) (by decide) hi) (good_k (by decide) (by decide) (by decide))]
    exact getD_some (exec_push _ _ (by show 1 < 1000; decide))
  · rw [sStep_at (i * 3 + 2) ⟨7, 0⟩ rfl (by show ((i * 3 : Nat) : Int) + 1 + 1 = _; omega) (cM9_get (r := 2) (by decide) hi) (good_0 (by decide) (by decide))]
    refine (getD_some (exec_store _ i (l.getD i 0) rfl (by omega) (by show (i : Int) < ((l.take i ++ List.replicate (l.length - i) (0 : Int)).length : Nat); rw [hm]; omega))).trans ?_
    unfold sM9
    simp only [SS.mk.injEq, true_and, and_true]
    refine ⟨?_, by omega⟩
    rw [Int.toNat_natCast]
    apply List.ext_getElem?
    intro n
    have g : l.getD i 0 = l[i] := by simp [List.getD, hi]
    rw [g, List.getElem?_set]
    by_cases h1 : i = n
    · subst h1
      rw [if_pos rfl, if_pos (by rw [hm]; exact hi), List.getElem?_append_left (by simp; omega)]
      simp [hi]
    · rw [if_neg h1]
      by_cases h2 : n < i
      · rw [List.getElem?_append_left (by simp; omega), List.getElem?_append_left (by simp; omega)]
        simp [List.getElem?_take, h2]; omega
      · by_cases h3 : n < l.length
        · rw [List.getElem?_append_right (by simp; omega), List.getElem?_append_right (by simp; omega)]
          simp only [List.getElem?_replicate, List.length_take]
          rw [if_pos (by omega), if_pos (by omega)]
        · rw [List.getElem?_eq_none (by simp; omega), List.getElem?_eq_none (by simp; omega)]
theorem moves_run (l : List Int) (p q k : Nat) (hl : l.length ≤ 1000) : ∀ i, i ≤ l.length → sRun (cM9 l p q k) (i * 3) (sM9 l 0) = sM9 l i := by
  intro i
  induction i with
  | zero => intro _; rfl
  | succ i ih => intro h; rw [show (i + 1) * 3 = i * 3 + 3 by omega, sRun_add, ih (by omega), moves_round l p q k i (by omega) hl]
theorem moves_end (l : List Int) (p q k : Nat) (hl : l.length ≤ 1000) : ∃ t, sRun (cM9 l p q k) (l.length * 3 + 4) (ss0 l.length 0 []) = t ∧
    ((p + k ≤ l.length ∧ q + k ≤ l.length) → t.fin = 1 ∧ t.mem = moved l p q k) ∧ (¬ (p + k ≤ l.length ∧ q + k ≤ l.length) → t.fin = 2 ∧ t.trap = 15) := by
  have e0 : ss0 l.length 0 [] = sM9 l 0 := by unfold ss0 sM9; simp
  have e1 : sM9 l l.length = ⟨l, [], [], [], [], 0, 0, ((l.length * 3 : Nat) : Int), 0, 0⟩ := by unfold sM9; simp
  refine ⟨_, rfl, ?_⟩
  rw [e0, sRun_add, moves_run l p q k hl _ (Nat.le_refl _), e1]
  have h1 : sStep (cM9 l p q k) ⟨l, [], [], [], [], 0, 0, ((l.length * 3 : Nat) : Int), 0, 0⟩ = ⟨l, [(p : Int)], [], [], [], 0, 0, ((l.length * 3 : Nat) : Int) + 1, 0, 0⟩ := by
    rw [sStep_at (l.length * 3) ⟨1, p⟩ rfl rfl (cM9_end (r := 0)) (good_k (by decide) (by decide) (by decide))]
    exact getD_some (exec_push _ _ (by show 0 < 1000; decide))
  have h2 : sStep (cM9 l p q k) ⟨l, [(p : Int)], [], [], [], 0, 0, ((l.length * 3 : Nat) : Int) + 1, 0, 0⟩ = ⟨l, [(p : Int), (q : Int)], [], [], [], 0, 0, ((l.length * 3 : Nat) : Int) + 1 + 1, 0, 0⟩ := by
    rw [sStep_at (l.length * 3 + 1) ⟨1, q⟩ rfl (by show ((l.length * 3 : Nat) : Int) + 1 = _; omega) (cM9_end (r := 1)) (good_k (by decide) (by decide) (by decide))]
    exact getD_some (exec_push _ _ (by show 1 < 1000; decide))
  rw [sRun_succ, h1, sRun_succ, h2, sRun_succ, sStep_at (l.length * 3 + 2) ⟨8, k⟩ rfl (by show ((l.length * 3 : Nat) : Int) + 1 + 1 = _; omega) (cM9_end (r := 2)) (good_k (by decide) (by decide) (by decide)), exec_move _ p q k rfl]
  by_cases hh : p + k ≤ l.length ∧ q + k ≤ l.length
  · rw [if_pos hh]
    refine ⟨fun _ => ?_, fun h => absurd hh h⟩
    show (sRun (cM9 l p q k) 1 ⟨moved l p q k, [], [], [], [], 0, 0, ((l.length * 3 : Nat) : Int) + 1 + 1 + 1, 0, 0⟩).fin = 1 ∧ (sRun (cM9 l p q k) 1 ⟨moved l p q k, [], [], [], [], 0, 0, ((l.length * 3 : Nat) : Int) + 1 + 1 + 1, 0, 0⟩).mem = _
    rw [sRun_succ, sStep_at (l.length * 3 + 3) ⟨0, 0⟩ rfl (by show ((l.length * 3 : Nat) : Int) + 1 + 1 + 1 = _; omega) (cM9_end (r := 3)) (good_0 (by decide) (by decide)), exec_halt]
    exact ⟨rfl, rfl⟩
  · rw [if_neg hh]
    refine ⟨fun h => absurd h hh, fun _ => ?_⟩
    rw [sRun_fin _ _ _ (by show (2 : Nat) ≠ 0; decide)]
    exact ⟨rfl, rfl⟩
end Go.Proofs.Ytpnhjjihdcopnaa.M

namespace Go.Proofs.Ytpnhjjihdcopnaa.M
open Go.RowKit
/-- Frames, one behind another. -/
def zF (S : List Nat) (j : Nat) : Nat := S.getD j 0 % 5 + 1
def tF (S : List Nat) : Nat → Nat
  | 0 => 5
  | i + 1 => tF S i + zF S i
def fF9 (S : List Nat) (v : Int) (j : Nat) : List Cod := [⟨27, ((j * 6 + 2 : Nat) : Int)⟩, ⟨0, 0⟩, ⟨28, ((zF S j : Nat) : Int)⟩, ⟨5, 0⟩, ⟨1, v⟩, ⟨7, 0⟩]
def cF9 (S : List Nat) (v : Int) : List Cod := blkL (fF9 S v) S.length ++ [⟨29, 0⟩]
theorem fF9_len (S : List Nat) (v : Int) (j : Nat) : (fF9 S v j).length = 6 := rfl
theorem cF9_len (S : List Nat) (v : Int) : (cF9 S v).length = S.length * 6 + 1 := by unfold cF9; rw [List.length_append, blkL_len (fF9_len S v)]; rfl
theorem cF9_get {S : List Nat} {v : Int} {j r : Nat} (hr : r < 6) (hj : j < S.length) : (cF9 S v)[j * 6 + r]? = (fF9 S v j)[r]? := by
  unfold cF9
  rw [List.getElem?_append_left (by rw [blkL_len (fF9_len S v)]; omega)]
  exact blkL_get (fF9_len S v) hr _ hj
theorem cF9_end {S : List Nat} {v : Int} : (cF9 S v)[S.length * 6]? = some ⟨29, 0⟩ := by
  unfold cF9
  rw [List.getElem?_append_right (by rw [blkL_len (fF9_len S v)]; omega), blkL_len (fF9_len S v), show S.length * 6 - S.length * 6 = 0 by omega]
  rfl
theorem tF_le (S : List Nat) (i : Nat) : tF S i ≤ 5 + 5 * i := by
  induction i with
  | zero => exact Nat.le_refl _
  | succ i ih => unfold tF zF; omega
theorem tF_lt (S : List Nat) (i : Nat) : tF S i < tF S (i + 1) := by show tF S i < tF S i + zF S i; unfold zF; omega
theorem tF_mono (S : List Nat) {j : Nat} : ∀ i, j < i → tF S j < tF S i := by
  intro i
  induction i with
  | zero => intro h; omega
  | succ i ih =>
    intro h
    have := tF_lt S i
    by_cases hji : j < i
    · have := ih hji; omega
    · rw [show j = i by omega]; exact this
/-- What the machine is behind so many levels. -/
structure FrAt (S : List Nat) (v : Int) (i : Nat) (s : SS) : Prop where
  mem : s.mem.length = 200
  ops : s.ops = []
  calls : s.calls.length = i
  pc : s.pc = ((i * 6 : Nat) : Int)
  fin : s.fin = 0
  top : s.top = tF S i
  fp : 0 < i → s.fp = tF S (i - 1)
  word : ∀ j, j < i → s.mem.getD (tF S j) 0 = v
theorem getD_set_ne {l : List Int} {a b : Nat} {x : Int} (h : a ≠ b) : (l.set a x).getD b 0 = l.getD b 0 := by
  rw [List.getD_eq_getElem?_getD, List.getD_eq_getElem?_getD, List.getElem?_set, if_neg h]
theorem getD_set_eq {l : List Int} {a : Nat} {x : Int} (h : a < l.length) : (l.set a x).getD a 0 = x := by
  rw [List.getD_eq_getElem?_getD, List.getElem?_set, if_pos rfl, if_pos h]; rfl
theorem cleared_len {m : List Int} {p k : Nat} (h : p + k ≤ m.length) : (cleared m p k).length = m.length := by unfold cleared; simp; omega
theorem cleared_below {m : List Int} {p k j : Nat} (h : p + k ≤ m.length) (hj : j < p) : (cleared m p k).getD j 0 = m.getD j 0 := by
  unfold cleared
  rw [List.getD_eq_getElem?_getD, List.getD_eq_getElem?_getD, List.append_assoc, List.getElem?_append_left (by simp; omega), List.getElem?_take, if_pos hj]
set_option maxHeartbeats 1600000 in
theorem frames_round (S : List Nat) (v : Int) (hS : S.length ≤ 20) (i : Nat) (hi : i < S.length) (s : SS) (h : FrAt S v i s) : ∃ t, sRun (cF9 S v) 5 s = t ∧ FrAt S v (i + 1) t := by
  have hT := tF_le S i
  have hZ : zF S i ≤ 5 := by unfold zF; omega
  have hZ1 : 1 ≤ zF S i := by unfold zF; omega
  have hT2 : (tF S i : Int) < (200 : Nat) := by omega
  have hT3 : tF S i < 200 := by omega
  have hT4 : tF S i + zF S i ≤ 200 := by omega
  have hc : s.calls.length ≠ 1000 := by rw [h.calls]; omega
  have hp : (s.pc + 1).toNat = i * 6 + 1 := by rw [h.pc]; omega
  have e1 : sStep (cF9 S v) s = { s with calls := s.calls ++ [(i * 6 + 1, s.fp)], pc := ((i * 6 + 2 : Nat) : Int) } := by
    rw [sStep_at (i * 6) ⟨27, ((i * 6 + 2 : Nat) : Int)⟩ h.fin h.pc (cF9_get (r := 0) (by decide) hi) (good_k (by decide) (by decide) (by decide)), exec_call _ _ hc, hp]
    rfl
  obtain ⟨s1, hs1⟩ : ∃ s1, ({ s with calls := s.calls ++ [(i * 6 + 1, s.fp)], pc := ((i * 6 + 2 : Nat) : Int) } : SS) = s1 := ⟨_, rfl⟩
  have e2 : sStep (cF9 S v) s1 = { s1 with fp := s1.top, top := s1.top + zF S i, mem := cleared s1.mem s1.top (zF S i), pc := s1.pc + 1 } := by
    rw [sStep_at (i * 6 + 2) ⟨28, ((zF S i : Nat) : Int)⟩ (by rw [← hs1]; exact h.fin) (by rw [← hs1]) (cF9_get (r := 2) (by decide) hi) (good_k (by decide) (by decide) (by decide)), exec_enter _ _ (by rw [← hs1]; show s.top + _ ≤ s.mem.length; rw [h.top, h.mem]; omega)]
    rfl
  obtain ⟨s2, hs2⟩ : ∃ s2, ({ s1 with fp := s1.top, top := s1.top + zF S i, mem := cleared s1.mem s1.top (zF S i), pc := s1.pc + 1 } : SS) = s2 := ⟨_, rfl⟩
  have f2 : s2.fp = tF S i := by rw [← hs2, ← hs1]; exact h.top
  have o2 : s2.ops = [] := by rw [← hs2, ← hs1]; exact h.ops
  have p2 : s2.pc = ((i * 6 + 3 : Nat) : Int) := by rw [← hs2, ← hs1]; show ((i * 6 + 2 : Nat) : Int) + 1 = _; omega
  have m2 : s2.mem = cleared s.mem (tF S i) (zF S i) := by rw [← hs2, ← hs1]; show cleared s.mem s.top _ = _; rw [h.top]
  have l2 : s2.mem.length = 200 := by rw [m2, cleared_len (by rw [h.mem]; exact hT4), h.mem]
  have n2 : s2.fin = 0 := by rw [← hs2, ← hs1]; exact h.fin
  have t2 : s2.top = tF S (i + 1) := by rw [← hs2, ← hs1]; show s.top + _ = tF S i + zF S i; rw [h.top]
  have c2 : s2.calls.length = i + 1 := by rw [← hs2, ← hs1]; show (s.calls ++ [(i * 6 + 1, s.fp)]).length = _; rw [List.length_append, h.calls]; rfl
  have w2 : wrap32 ((s2.fp : Int) + 0) = (tF S i : Int) := by
    rw [f2, Int.add_zero]; unfold wrap32; omega
  have e3 : sStep (cF9 S v) s2 = { s2 with ops := [(tF S i : Int)], pc := s2.pc + 1 } := by
    rw [sStep_at (i * 6 + 3) ⟨5, 0⟩ n2 p2 (cF9_get (r := 3) (by decide) hi) (good_k (by decide) (by decide) (by decide)), exec_local _ _ (by rw [o2]; decide), w2, o2]
    rfl
  obtain ⟨s3, hs3⟩ : ∃ s3, ({ s2 with ops := [(tF S i : Int)], pc := s2.pc + 1 } : SS) = s3 := ⟨_, rfl⟩
  have o3 : s3.ops = [(tF S i : Int)] := by rw [← hs3]
  have p3 : s3.pc = ((i * 6 + 4 : Nat) : Int) := by rw [← hs3]; show s2.pc + 1 = _; rw [p2]; omega
  have n3 : s3.fin = 0 := by rw [← hs3]; exact n2
  have e4 : sStep (cF9 S v) s3 = { s3 with ops := [(tF S i : Int), v], pc := s3.pc + 1 } := by
    rw [sStep_at (i * 6 + 4) ⟨1, v⟩ n3 p3 (cF9_get (r := 4) (by decide) hi) (good_k (by decide) (by decide) (by decide)), exec_push _ _ (by rw [o3]; show 1 < 1000; decide), o3]
    rfl
  obtain ⟨s4, hs4⟩ : ∃ s4, ({ s3 with ops := [(tF S i : Int), v], pc := s3.pc + 1 } : SS) = s4 := ⟨_, rfl⟩
  have o4 : s4.ops = [(tF S i : Int), v] := by rw [← hs4]
  have p4 : s4.pc = ((i * 6 + 5 : Nat) : Int) := by rw [← hs4]; show s3.pc + 1 = _; rw [p3]; omega
  have n4 : s4.fin = 0 := by rw [← hs4]; exact n3
  have m4 : s4.mem = s2.mem := by rw [← hs4, ← hs3]
  have hlt4 : (tF S i : Int) < (s4.mem.length : Nat) := by rw [m4, l2]; exact hT2
  have e5 : sStep (cF9 S v) s4 = { s4 with mem := s4.mem.set (tF S i) v, ops := [], pc := s4.pc + 1 } := by
    rw [sStep_at (i * 6 + 5) ⟨7, 0⟩ n4 p4 (cF9_get (r := 5) (by decide) hi) (good_0 (by decide) (by decide)), exec_store s4 (tF S i : Int) v o4 (Int.natCast_nonneg _) hlt4, Int.toNat_natCast]
    rfl
  refine ⟨_, rfl, ?_⟩
  rw [sRun_succ, e1, hs1, sRun_succ, e2, hs2, sRun_succ, e3, hs3, sRun_succ, e4, hs4, sRun_succ, e5]
  refine ⟨?_, rfl, ?_, ?_, n4, ?_, fun _ => ?_, fun j hj => ?_⟩
  · show (s4.mem.set _ _).length = 200; rw [List.length_set, m4, l2]
  · show s4.calls.length = i + 1; rw [← c2, ← hs4, ← hs3]
  · show s4.pc + 1 = _; rw [p4]; omega
  · show s4.top = _; rw [← t2, ← hs4, ← hs3]
  · show s4.fp = _; rw [show i + 1 - 1 = i by omega, ← f2, ← hs4, ← hs3]
  · show (s4.mem.set (tF S i) v).getD (tF S j) 0 = v
    by_cases hji : j = i
    · subst hji; exact getD_set_eq (by rw [m4, l2]; exact hT3)
    · have hlt := tF_mono S i (show j < i by omega)
      rw [getD_set_ne (Nat.ne_of_gt hlt), m4, m2, cleared_below (by rw [h.mem]; exact hT4) hlt]
      exact h.word j (by omega)
theorem frames_run (S : List Nat) (v : Int) (hS : S.length ≤ 20) : ∀ i, i ≤ S.length → FrAt S v i (sRun (cF9 S v) (i * 5) (ss0 200 5 [])) := by
  intro i
  induction i with
  | zero => intro _; exact ⟨List.length_replicate, rfl, rfl, rfl, rfl, rfl, fun h => absurd h (Nat.lt_irrefl 0), fun j hj => absurd hj (Nat.not_lt_zero _)⟩
  | succ i ih =>
    intro h
    obtain ⟨t, e, ht⟩ := frames_round S v hS i h _ (ih (by omega))
    rw [show (i + 1) * 5 = i * 5 + 5 by omega, sRun_add, e]
    exact ht
/-- The last frame goes. -/
theorem frames_leave (S : List Nat) (v : Int) (s : SS) (h : FrAt S v S.length s) (h0 : 0 < S.length) : (sStep (cF9 S v) s).top = tF S (S.length - 1) := by
  obtain ⟨x, hx⟩ : ∃ x, s.calls.getLast? = some x := by
    cases hc : s.calls with
    | nil => have := h.calls; rw [hc] at this; simp at this; omega
    | cons a t => exact ⟨_, List.getLast?_cons ..⟩
  rw [sStep_at (S.length * 6) ⟨29, 0⟩ h.fin h.pc cF9_end (good_0 (by decide) (by decide)), exec_leave _ _ hx]
  exact h.fp h0
end Go.Proofs.Ytpnhjjihdcopnaa.M

