/- A stack machine is made. -/
import Derived.Test.YtbgmdckfkfkglaaSRun
set_option linter.unusedSimpArgs false
set_option linter.unusedVariables false
namespace Go.Proofs.Ytbgmdckfkfkglaa
open Go.RowKit M

theorem infoI32 : (Try.prog.info? 21).map (fun i => (i.zero, i.size, i.bytes)) = some (some (.int .i32 0), 1, 4) := by kernel_rfl
theorem infoCod : (Try.prog.info? 49).map (fun i => (i.zero, i.size, i.bytes)) = some (some (.agg #[.int .i64 0, .int .i32 0]), 2, 16) := by kernel_rfl
theorem made_zeroI (n : Nat) : madeCells #[Value.int .i32 0] n = (I32s (List.replicate n 0)).toArray := by
  unfold madeCells I32s
  apply Array.ext
  · simp
  · intro i h1 h2
    simp [Nat.mod_one]
set_option maxRecDepth 10000 in
theorem make_i32 (n : Nat) (hn : n ≤ 1048576) (w : World) : (Instr.makeSlice 50 (.int .i64 n) (.int .i64 n)).run Try.prog w = .ok (.slice (some ⟨w.heap.size, 0, none⟩) n n) (w.alloc (.cells (I32s (List.replicate n 0)).toArray 21)) := by
  obtain ⟨i0, hi, hz0, hz1, hz2⟩ := info_parts infoI32
  have h := run_make (P := Try.prog) w 50 21 i0 (.int .i32 0) Try.underlying50 hi hz0 .i64 .i64 (n : Int) (n : Int) (Int.natCast_nonneg _) (Int.le_refl _) (by rw [hz2]; omega) (by omega)
  simp only [Int.toNat_natCast, hz1, Nat.mul_one] at h
  rw [h]
  congr 2
  rw [show (Value.int .i32 0).cells = #[Value.int .i32 0] from rfl, made_zeroI]
theorem codCells_one (L : List Cod) : ∀ u ∈ codCells L, u.oneCell' = true := by
  intro u hu
  unfold codCells at hu
  rw [List.mem_flatMap] at hu
  obtain ⟨c, _, hu⟩ := hu
  rcases List.mem_cons.1 hu with rfl | hu
  · rfl
  · rw [List.mem_singleton.1 hu]; rfl
theorem codCells_at {w : World} {b off : Nat} {L : List Cod} (h : CAt w b off L) (j : Nat) (u : Value) (hu : (codCells L)[j]? = some u) : w.cell? ⟨b, off + j, none⟩ = some u := by
  have hj := (List.getElem?_eq_some_iff.1 hu).1
  rw [codCells_len] at hj
  have hk : j / 2 < L.length := by omega
  have e : L[j / 2]? = some (L.getD (j / 2) default) := by simp [List.getD, hk]
  have h1 := h (j / 2) _ e
  have h2 := codCells_get L (j / 2) _ e
  rcases Nat.mod_two_eq_zero_or_one j with hm | hm
  · have ej : j = j / 2 * 2 := by omega
    rw [ej] at hu ⊢
    rw [h1.1, ← h2.1, hu]
  · have ej : j = j / 2 * 2 + 1 := by omega
    rw [ej] at hu ⊢
    rw [← Nat.add_assoc, h1.2, ← h2.2, hu]

section
variable {P : Program} {w : World}
/-- append of instructions that lie anywhere to nothing, as one step of a region that draws. -/
theorem step_append_cod {ops : Array Oper} {o : Oper} {a : Act} {K : Act → World → Prop} {Q : Exit → Act → World → Prop} {E : Prop} (hgd : o.guard = none) (s x : Operand) (t : TypeId)
    (ho : o.op = .call { callee := .builtin .append, args := #[s, x], argTypes := #[t, t] })
    (e : TypeId) (i : TypeInfo) (z : Value) (bytes : Nat) (ht : P.underlying t = some (.slice e)) (hi : P.info? e = some i) (hz : i.zero = some z)
    (hsize : i.size = 2) (hby : i.bytes = bytes) (hzs : z.cells.size = 2)
    (hs : a.eval s = .slice none 0 0) (b : Nat) (sv : Value) (L : List Cod) (hx : a.eval x = sv) (hsrc : CSrc w b sv L) (hcap : ∀ n cap, sv = .slice none n cap → cap = 0)
    (h63 : 0 + L.length ≤ maxLen) (hbytes : (0 + L.length) * bytes ≤ 140737488355328)
    (h : ∀ v' w', w'.ownsRow w.heap.size e 2 v' (0 + L.length) ([] ++ codCells L) → Only Nil w w' → K (a.put o.dst v') w') :
    if Region.wanted o (yielded ops a.tmps) = true then Oper.wp P o a w K Q else E := by
  have hw : Region.wanted o (yielded ops a.tmps) = true := by simp [Region.wanted, hgd]
  rw [if_pos hw]
  obtain ⟨ao, cap, off, rfl, hs2, hs3, hs4, hs5⟩ := hsrc
  have hown : w.ownsRow w.heap.size e 2 (.slice none 0 0) 0 [] := World.ownsRow_nil _ _ _ _
  have hrun : ∃ v' w', (Builtin.append_ #[t, t] o.type #[.slice none 0 0, .slice ao L.length cap]).run P w = .ok v' w' ∧ w'.ownsRow w.heap.size e 2 v' (0 + L.length) ([] ++ codCells L) ∧ Only Nil w w' := by
    cases ao with
    | none =>
      have hn : L = [] := by
        cases L with
        | nil => rfl
        | cons y t => have := hs4 (by simp); simp at this
      subst hn
      refine ⟨.slice none 0 0, w, ?_, hown, Only.refl _ _⟩
      have hc0 : cap = 0 := hcap _ _ rfl
      subst hc0
      have := run_append_owned_none (P := P) (w := w) w.heap.size t o.type e i 2 ht hi (.slice none 0 0) 0 [] hown
      exact this
    | some ad =>
      obtain ⟨v', w', hr, h2, h3, _⟩ := run_append_row (P := P) w.heap.size t o.type e i z 2 bytes ht hi hz hsize hby hzs (by decide) (.slice none 0 0) 0 [] hown ad L.length cap (codCells L) (codCells_len L)
        (by
          intro j u hj
          have hjl : j < (codCells L).length := (List.getElem?_eq_some_iff.1 hj).1
          rw [codCells_len] at hjl
          have e1 := hs4 (by omega)
          injection e1 with e1
          rw [e1, addr_add]
          exact codCells_at hs5 j u hj) (codCells_one L) h63 hbytes (Nat.le_refl _)
      exact ⟨v', w', hr, h2, (Only.of_grown h3).mono (fun _ h => by cases h)⟩
  obtain ⟨v', w', hr, h2, h3⟩ := hrun
  unfold Oper.wp execOp
  simp only [ho, resolve, invoke, builtin, Sem.run_bind, Sem.run_pure, Result.andThen_ok, List.map_toArray, List.map_cons, List.map_nil, hs, hx, hr]
  exact h v' w' h2 h3
end

theorem codRow_of_own {S : Nat → Prop} {w : World} {base : Nat} {v : Value} {l : List Cod} {n : Nat} (h : w.ownsRow base 49 2 v n (codCells l)) (hS : ∀ k, v.ownBlock = some k → ¬ S k) : CodRow S w v l := by
  have hl : l.length = n := by have := h.1; rw [codCells_len] at this; omega
  obtain ⟨ao, cap, off, h1, h2, h3, h4, h5⟩ := CSrc.of_own h
  refine ⟨v.ownBlock.getD 0, ao, cap, off, h1, h2, h3, h4, h5, fun h0 => ?_⟩
  rcases h.2 with ⟨rfl, hz⟩ | ⟨g, cap', cur, rfl, hb, hg, _⟩
  · omega
  · have hg2 := (Array.getElem?_eq_some_iff.1 hg).1
    exact ⟨hS g rfl, hg2⟩
theorem bytRow_of_own {S : Nat → Prop} {w : World} {base : Nat} {v : Value} {l : List Nat} {n : Nat} (h : w.ownsRow base 5 1 v n (U8s l)) (hS : ∀ k, v.ownBlock = some k → ¬ S k) : BytRow S w v l := by
  have hl : l.length = n := by have := h.1; simpa [U8s] using this
  subst hl
  rcases h.2 with ⟨rfl, h0⟩ | ⟨g, cap, cur, rfl, hb, hg, hnc, hcm, _⟩
  · exact ⟨0, none, 0, 0, by rw [h0], by omega, by decide, fun h => by omega, fun _ => rfl, fun i u hu => by have := (List.getElem?_eq_some_iff.1 hu).1; simp [U8s] at this; omega, fun h => by omega⟩
  · refine ⟨g, _, cap, 0, rfl, hnc, hcm, fun _ => rfl, nofun, fun i u hu => ?_, fun _ => ⟨hS g rfl, (Array.getElem?_eq_some_iff.1 hg).1⟩⟩
    have hi : i < l.length := by have := (List.getElem?_eq_some_iff.1 hu).1; simpa [U8s] using this
    have := World.ownsRow.cellAt h i (by omega)
    rw [Nat.zero_add, this, hu]
theorem own_lt {w : World} {base : Nat} {e : TypeId} {size : Nat} {v : Value} {n : Nat} {xs : List Value} (h : w.ownsRow base e size v n xs) {k : Nat} (hk : v.ownBlock = some k) : k < w.heap.size ∧ base ≤ k := by
  rcases h.2 with ⟨rfl, _⟩ | ⟨g, cap, cur, rfl, hb, hg, _⟩
  · cases hk
  · injection hk with hk
    have hk : g = k := hk
    have := (Array.getElem?_eq_some_iff.1 hg).1
    omega
/-- The parts of a machine are put together. -/
theorem madeS_at {Q : Nat → Prop} {w0 w4 : World} {cv iv : Value} {wb n q bA bB : Nat} {code : List Cod} {inp : List Nat} (hA : w4.ownsRow bA 49 2 cv code.length (codCells code)) (hB : w4.ownsRow bB 5 1 iv inp.length (U8s inp)) (hW : Blk w4 wb (I32s (List.replicate n 0)).toArray 21)
    (h1 : w0.heap.size ≤ bA) (h2 : w0.heap.size ≤ bB) (h3 : cv.ownBlock ≠ some wb) (h4 : iv.ownBlock ≠ some wb) (hQ : ∀ k, Q k → k < w0.heap.size) :
    SAt Q (w4.alloc (.cells (scells cv (.slice (some ⟨wb, 0, none⟩) n n) (.slice none 0 0) (.slice none 0 0) iv (.slice none 0 0) (ss0 n q inp)) 81)) w4.heap.size wb code (ss0 n q inp) cv (.slice none 0 0) (.slice none 0 0) iv (.slice none 0 0) := by
  have hm : (ss0 n q inp).mem.length = n := by show (List.replicate n 0).length = n; simp
  have ho : Only Nil w4 (w4.alloc (.cells (scells cv (.slice (some ⟨wb, 0, none⟩) n n) (.slice none 0 0) (.slice none 0 0) iv (.slice none 0 0) (ss0 n q inp)) 81)) := (Only.refl _ _).alloc _
  have hlt := hW.lt
  refine ⟨by rw [hm]; exact Blk.new _ _ _, hW.alloc _, World.ownsRow_nil _ _ _ _, World.ownsRow_nil _ _ _ _, World.ownsRow_nil _ _ _ _, ?_, ?_, ⟨by omega, nofun, nofun, nofun, nofun, nofun, nofun, nofun, nofun, nofun⟩⟩
  · refine (codRow_of_own hA (fun k hk hS => ?_)).kept ho (fun _ h => h.elim)
    obtain ⟨q1, q2⟩ := own_lt hA hk
    rcases hS with (h | h | h | h | h) | h
    · omega
    · exact h3 (by rw [hk, h])
    · cases h
    · cases h
    · cases h
    · have := hQ k h; omega
  · refine (bytRow_of_own hB (fun k hk hS => ?_)).kept ho (fun _ h => h.elim)
    obtain ⟨q1, q2⟩ := own_lt hB hk
    rcases hS with (h | h | h | h | h) | h
    · omega
    · exact h4 (by rw [hk, h])
    · cases h
    · cases h
    · cases h
    · have := hQ k h; omega

theorem nil_sub {S : Nat → Prop} {m : Nat} : ∀ i, i < m → Nil i → S i := fun _ _ h => h.elim
theorem nil_not {b : Nat} : ¬ Nil b := fun h => h
/-- A machine that was made. -/
def MadeS (Q : Nat → Prop) (w : World) (code : List Cod) (inp : List Nat) (n q : Nat) (e : Ending) (w' : World) : Prop :=
  ∃ mb wb cv' iv', e = .returned (.pointer (some ⟨mb, 0, none⟩)) ∧ w.heap.size ≤ mb ∧ w.heap.size ≤ wb ∧ Only Nil w w' ∧ SAt Q w' mb wb code (ss0 n q inp) cv' (.slice none 0 0) (.slice none 0 0) iv' (.slice none 0 0)
theorem madeS_of {Q : Nat → Prop} {w0 w4 : World} {cv iv : Value} {wb n q bA bB : Nat} {code : List Cod} {inp : List Nat} (hA : w4.ownsRow bA 49 2 cv code.length (codCells code)) (hB : w4.ownsRow bB 5 1 iv inp.length (U8s inp)) (hW : Blk w4 wb (I32s (List.replicate n 0)).toArray 21)
    (h1 : w0.heap.size ≤ bA) (h2 : w0.heap.size ≤ bB) (h3 : cv.ownBlock ≠ some wb) (h4 : iv.ownBlock ≠ some wb) (hQ : ∀ k, Q k → k < w0.heap.size) (hlo : w0.heap.size ≤ wb) (ho : Only Nil w0 w4) {X : Nat} (hX : X = w4.heap.size) :
    MadeS Q w0 code inp n q (.returned (.pointer (some ⟨X, 0, none⟩))) (w4.alloc (.cells #[cv, .slice (some ⟨wb, 0, none⟩) n n, .slice none 0 0, .slice none 0 0, iv, .slice none 0 0, .int .i64 q, .int .i64 q, .int .i64 0, .int .i64 0, .int .i64 0] 81)) := by
  subst hX
  exact ⟨_, wb, cv, iv, rfl, ho.size, hlo, ho.alloc _, madeS_at hA hB hW h1 h2 h3 h4 hQ⟩

set_option maxRecDepth 10000 in
set_option maxHeartbeats 3200000 in
theorem newS_any {Q : Nat → Prop} (code : List Cod) (inp : List Nat) (N B : Int) (n q : Nat) (N0 B0 : Int) (hN0 : (if N < 0 then 0 else N) = N0) (hN : (if 1048576 < N0 then 1048576 else N0) = (n : Int)) (hB0 : (if B < 0 then 0 else B) = B0) (hB' : (if (n : Int) < B0 then (n : Int) else B0) = (q : Int)) (cb ib : Nat) (cv iv : Value) (w : World) (hc : CSrc w cb cv code) (hcn : ∀ n cap, cv = .slice none n cap → cap = 0) (hi' : Src w ib iv (U8s inp)) (hl1 : code.length ≤ 1048576) (hl2 : inp.length ≤ 1048576) (hn : n ≤ 1048576) (hQ : ∀ k, Q k → k < w.heap.size) :
    Calls Try.prog 21 #[cv, .int .i64 N, .int .i64 B, iv] w fun e w' => MadeS Q w code inp n q e w' := by
  obtain ⟨i8, h8, h80, h81, h82⟩ := info_parts Try.info5
  obtain ⟨i32, h32, h320, h321, h322⟩ := info_parts infoCod
  have mk : ∀ w, (Instr.makeSlice 50 (.int .i64 n) (.int .i64 n)).run Try.prog w = .ok (.slice (some ⟨w.heap.size, 0, none⟩) n n) (w.alloc (.cells (I32s (List.replicate n 0)).toArray 21)) := fun w => make_i32 n hn w
  obtain ⟨V, hV⟩ : ∃ V, U8s inp = V := ⟨_, rfl⟩
  obtain ⟨Z, hZ⟩ : ∃ Z, (I32s (List.replicate n 0)).toArray = Z := ⟨_, rfl⟩
  rw [hV] at hi'
  rw [hZ] at mk
  have lV : V.length = inp.length := by rw [← hV, U8s_len']
  have oV : Hid (∀ u ∈ V, u.oneCell' = true) := Lib.hid (by rw [← hV]; exact U8s_one' _)
  have b1 : Hid (0 + code.length ≤ maxLen) := Lib.hid (by simp [maxLen]; omega)
  have b2 : Hid ((0 + code.length) * 16 ≤ 140737488355328) := Lib.hid (by omega)
  have b3 : Hid (0 + V.length ≤ maxLen) := Lib.hid (by rw [lV]; simp [maxLen]; omega)
  have b4 : Hid ((0 + V.length) * 1 ≤ 140737488355328) := Lib.hid (by rw [lV]; omega)
  have HC := Lib.hid hc
  have HCN := Lib.hid hcn
  have HI := Lib.hid hi'
  have HV := Lib.hid hV
  have HZ := Lib.hid hZ
  have HQ := Lib.hid hQ
  have HLV := Lib.hid lV
  clear hc hcn hi' hV hZ hQ hl1 hl2 hn lV
  go_enter Try.func21, Try.ntmps21
  go_wp2_with fail
  go_region_law (first
    | (refine step_append_cod rfl _ _ 22 rfl 49 i32 _ 16 Try.underlying22 h32 h320 h321 h322 rfl rfl cb _ code (by first | rfl | simp [Act.eval, Act.put]) (HC.out.kept (by (repeat with_reducible first | exact Only.refl _ _ | exact hnB | refine Only.drew ?_ | refine Only.alloc ?_ _))) HCN.out b1.out b2.out ?_; intro vA wA hownA hoA; obtain ⟨aoA, nA, capA, rfl⟩ := ownsRow_slice hownA; have hnA : Only Nil w wA := Only.trans (by (repeat with_reducible first | exact Only.refl _ _ | exact hnB | refine Only.drew ?_ | refine Only.alloc ?_ _)) hoA (fun _ _ h => by cases h))
    | (refine step_append_from rfl _ _ 35 rfl _ 5 i8 (.int .u8 0) 1 Try.underlying35 h8 h80 h81 h82 rfl _ 0 [] rfl (World.ownsRow_nil _ _ _ _) ib _ V (by first | rfl | simp [Act.eval, Act.put]) (HI.out.kept (S := Nil) (by (repeat with_reducible first | exact Only.refl _ _ | exact hnA | refine Only.drew ?_ | refine Only.alloc ?_ _)) (fun _ h => h)) oV.out b3.out b4.out (Nat.le_refl _) ?_; intro vB wB hownB hoB; obtain ⟨aoB, nB, capB, rfl⟩ := ownsRow_slice hownB; have hnB : Only Nil w wB := Only.trans (by (repeat with_reducible first | exact Only.refl _ _ | exact hnA | refine Only.drew ?_ | refine Only.alloc ?_ _)) hoB (fun _ _ h => by cases h)))
  all_goals go_wp2_with fail
  all_goals go_ret
  all_goals
    have hA := hownA
    rw [Nat.zero_add, List.nil_append] at hA
    have hB := hownB
    rw [HLV.out, Nat.zero_add, List.nil_append, ← HV.out] at hB
    have hoA' : Only Nil _ wA := hoA.mono (fun _ h => by cases h)
    have hoB' : Only Nil _ wB := hoB.mono (fun _ h => by cases h)
    have sA := hoA.size
    have sB := hoB.size
    have sNA := hnA.size
    have sNB := hnB.size
    simp only [World.size_alloc, World.size_drew] at sA sB sNA sNB
    refine madeS_of (ownsRow_only hA ?_ (fun _ _ h => h)) (ownsRow_only hB ?_ (fun _ _ h => h)) ?_ ?_ ?_ ?_ ?_ HQ.out ?_ ?_ ?_
    · (repeat first | with_reducible exact Only.refl _ _ | with_reducible refine Only.alloc ?_ _ | with_reducible refine Only.drew ?_ | with_reducible refine Only.trans ?_ hoB' nil_sub | with_reducible refine Only.trans ?_ hoA' nil_sub)
    · (repeat first | with_reducible exact Only.refl _ _ | with_reducible refine Only.alloc ?_ _ | with_reducible refine Only.drew ?_ | with_reducible refine Only.trans ?_ hoB' nil_sub | with_reducible refine Only.trans ?_ hoA' nil_sub)
    · rw [HZ.out]
      (repeat first | exact Blk.new _ _ _ | with_reducible refine Blk.alloc ?_ _ | with_reducible refine Blk.drew ?_ | with_reducible refine Blk.kept ?_ hoB' nil_not | with_reducible refine Blk.kept ?_ hoA' nil_not)
    · (try simp only [World.size_alloc, World.size_drew]); omega
    · (try simp only [World.size_alloc, World.size_drew]); omega
    · intro h
      have q := own_lt hownA h
      (try simp only [World.size_alloc, World.size_drew] at q)
      omega
    · intro h
      have q := own_lt hownB h
      (try simp only [World.size_alloc, World.size_drew] at q)
      omega
    · omega
    · (repeat first | with_reducible exact Only.refl _ _ | with_reducible refine Only.alloc ?_ _ | with_reducible refine Only.drew ?_ | with_reducible refine Only.trans ?_ hoB' nil_sub | with_reducible refine Only.trans ?_ hoA' nil_sub)
    · (try simp only [World.size_alloc, World.size_drew])
end Go.Proofs.Ytbgmdckfkfkglaa
